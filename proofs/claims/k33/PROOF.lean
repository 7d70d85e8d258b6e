import PyProof.Rows.All
import Wide.All
import OpenK.AllK
import Wide.FinOn
import Lean
import PyProof.EqAt
import PyProof.EqKinds
import PyProof.TupleCall
import PyProof.ListRange
import PyProof.TupleOfSeq
import PyProof.Conv_int_bool
import PySem.Challenge.RW_heapsmeet_k33_apart_by_clauses
set_option Elab.async false
abbrev Za:=@Option.bind_eq_some_iff
abbrev Zb:=@PySem.Heap.get?_push_of_some
abbrev Zc:=@Nat.lt_of_lt_of_le
abbrev Zd:=@List.size_toArray
abbrev Ze:=@PySem.Heap.lt_size
abbrev Zf:=@PySem.Heap.get?_push_size
abbrev Zg:=@Nat.le_refl
abbrev Zh:=@List.getElem?_eq_some_iff
abbrev Zi:=@List.mem_cons
abbrev Zj:=@List.map_cons
abbrev Zk:=@Nat.ne_of_lt
abbrev Zl:=@Nat.le_trans
abbrev Zm:=@List.mem_append
abbrev Zn:=@List.mem_append_right
abbrev Zo:=@Bool.and_eq_true
abbrev Zp:=@Option.map_eq_some_iff
abbrev Zq:=@List.mem_map
abbrev Zr:=@Bool.false_ne_true
abbrev Zs:=@List.getElem?_append_left
abbrev Zt:=@PySem.mem_of_lookup
abbrev Zu:=@List.length_map
set_option linter.all false
set_option maxRecDepth 100000
namespace L2
open PySem PySem.Spec PyProof.Rows
abbrev Key:=Sum Int Str
def KN:Key->Value->Bool
 | .inl k,v=>Value.isInt k v
 | .inr x,v=>Value.isStrOf x v
def keyH(w:World):Key->Int
 | .inl k=>hashInt k
 | .inr x=>hashStr w x
theorem dC:∀{k:Key}{v:Value},KN k v=true->(∃i t,k=Sum.inl i/\v=Value.int i t)∨(∃x t,k=Sum.inr x/\v=Value.str x t)
 | .inl i,v,h=>by
  obtain⟨t,e⟩:=Value.isInt_shape (k:=i) (v:=v) h
  exact .inl ⟨i,t,rfl,e⟩
 | .inr x,v,h=>by
  obtain⟨t,e⟩:=Value.isStrOf_shape (x:=x) (v:=v) h
  exact .inr ⟨x,t,rfl,e⟩
theorem Nx(a b:Int):decide ((Sum.inl a:Key)=Sum.inl b)=(a==b):=by
 by_cases e:a=b
 .subst e;simp
 .have h:¬(Sum.inl a:Key)=Sum.inl b:=λq=>e (Sum.inl.inj q)
  rw[decide_eq_false h]
  exact(beq_eq_false_iff_ne.mpr e).symm
theorem Mf(a b:Str):decide ((Sum.inr a:Key)=Sum.inr b)=decide (a=b):=by
 by_cases e:a=b
 .subst e;simp
 .have h:¬(Sum.inr a:Key)=Sum.inr b:=λq=>e (Sum.inr.inj q)
  rw[decide_eq_false h,decide_eq_false e]
theorem Oa(a:Int)(b:Str):decide ((Sum.inl a:Key)=Sum.inr b)=false:=decide_eq_false (λq=>nomatch q)
theorem Oq(a:Str)(b:Int):decide ((Sum.inr a:Key)=Sum.inl b)=false:=decide_eq_false (λq=>nomatch q)
def vW(prog:Program)(w:World):PySem.KeyKind prog w Key where
 is:=KN
 hash:=keyH w
 inj:=λv a b ha hb=>by
  rcases dC ha with⟨i,t,rfl,rfl⟩|⟨x,t,rfl,rfl⟩
  .rcases dC hb with⟨j,u,rfl,e⟩|⟨y,u,rfl,e⟩
   .injection e with e1 _;rw[e1]
   .exact nomatch e
  .rcases dC hb with⟨j,u,rfl,e⟩|⟨y,u,rfl,e⟩
   .exact nomatch e
   .injection e with e1 _;rw[e1]
 byValue:=λk v h=>by
  rcases dC h with⟨i,t,rfl,rfl⟩|⟨x,t,rfl,rfl⟩<;>rfl
 pyHash:=λhv h=>by
  rcases dC hv with⟨i,t,rfl,rfl⟩|⟨x,t,rfl,rfl⟩
  .exact wpAny_pyHash_int h
  .exact wpAny_pyHash_str h
 eqBool:=λhu hv h=>by
  rcases dC hu with⟨i,t,rfl,rfl⟩|⟨x,t,rfl,rfl⟩
  .rcases dC hv with⟨j,u,rfl,rfl⟩|⟨y,u,rfl,rfl⟩
   .rw[Nx]at h;exact wpAny_eqBool_int h
   .rw[Oa]at h;exact SeqAt.EqAt.int_str i t y u _ _ _ _ h
  .rcases dC hv with⟨j,u,rfl,rfl⟩|⟨y,u,rfl,rfl⟩
   .rw[Oq]at h;exact SeqAt.EqAt.str_int x t j u _ _ _ _ h
   .rw[Mf]at h;exact wpAny_eqBool_str h
 «strs»:=λk x t v h=>by
  rcases dC h with⟨i,u,rfl,e⟩|⟨y,u,rfl,e⟩
  .exact nomatch e
  .injection e with e1 _
   subst e1
   cases v<;>rfl
inductive V where
 |non|bl (b:Bool)|int (i:Int)|str (x:Str)|byt (b:Array UInt8)|flt (b:UInt64)|ref (a:Addr)|ty (n:String)
 deriving DecidableEq
def RelV:V->Value->Prop
 | .non,u=>u=Value.none
 | .bl b,u=>u=Value.bool b
 | .int i,u=>∃t,u=Value.int i t
 | .str x,u=>∃t,u=Value.str x t
 | .byt b,u=>∃t,u=Value.bytes b t
 | .flt b,u=>∃t,u=Value.float b t
 | .ref a,u=>u=Value.ref a
 | .ty n,u=>u=Value.type n
abbrev Vals:List V->List Value->Prop:=Paired RelV
theorem Vals.length{xs:List V}{us:List Value}(r:Vals xs us):xs.length=us.length:=Paired.length r
theorem Vals.get:∀{xs:List V}{us:List Value}{i:Nat}{x:V},Vals xs us->xs[i]? =some x->∃u,us[i]? =some u/\RelV x u
 |_,_,_,_,.nil,e=>by simp at e
 |_,_,0,_,.cons r _,e=>by simp at e;subst e;exact⟨_,rfl,r⟩
 |_,_,i+1,x,.cons _ t,e=>by
  obtain⟨u,h1,h2⟩:=Vals.get (i:=i) (x:=x) t (by simpa using e)
  exact⟨u,by simpa using h1,h2⟩
theorem Vals.set{x:V}{u:Value}(r:RelV x u):∀{xs:List V}{us:List Value}(i:Nat),Vals xs us->Vals (xs.set i x) (us.set i u)
 |_,_,_,.nil=>.nil
 |_,_,0,.cons _ t=>.cons r t
 |_,_,i+1,.cons q t=>.cons q (Vals.set r i t)
theorem Vals.append:∀{xs ys:List V}{us ws:List Value},Vals xs us->Vals ys ws->Vals (xs++ys) (us++ws)
 |_,_,_,_,.nil,s=>s
 |_,_,_,_,.cons r t,s=>.cons r (Vals.append t s)
theorem Vals.take:∀{xs:List V}{us:List Value}(n:Nat),Vals xs us->Vals (xs.take n) (us.take n)
 |_,_,0,_=>.nil
 |_,_,_+1,.nil=>.nil
 |_,_,n+1,.cons r t=>.cons r (Vals.take n t)
theorem Vals.drop:∀{xs:List V}{us:List Value}(n:Nat),Vals xs us->Vals (xs.drop n) (us.drop n)
 |_,_,0,r=>r
 |_,_,_+1,.nil=>.nil
 |_,_,n+1,.cons _ t=>Vals.drop n t
def QQ:Option V->Option Value->Prop
 |some v,some u=>RelV v u
 |none,none=>True
 |_,_=>False
def KV{κ:Type}:List (κ×V)->List (κ×Value)->Prop:=Paired λ(p:κ×V)(q:κ×Value)=>p.1=q.1/\RelV p.2 q.2
def kV:Key->V
 | .inl i=>.int i
 | .inr x=>.str x
inductive HO where
 |lst (xs:List V)
 |tup (xs:List V)
 |dK (kvs:List (Key×V))|dT (kvs:List (List Key×V))
 |set (S:Int->Bool) (n:Nat)
 |ins (C dx:Addr) (fs:List (Str×V))
 |own (x:Addr)
 |xd (fs:List (Str×V))
 |met (f x:Addr)
 |rng (lo hi:Int)
 |frz (o:Obj) (u:HO)
 |tbl (ps:Array Value)
 |ext (φ:Heap->Prop)
abbrev Hp:=Addr->Option HO
def upd(H:Hp)(a:Addr)(o:HO):Hp:=λb=>if b=a then some o else H b
theorem fj{H:Hp}{a:Addr}{o:HO}:upd H a o a=some o:=by unfold upd;rw[if_pos rfl]
theorem aO{H:Hp}{a b:Addr}{o:HO}(h:b≠a):upd H a o b=H b:=by unfold upd;rw[if_neg h]
theorem Ax{H:Hp}{a b:Addr}{o u:HO}(h:H a=some o)(h':H b=some u)(d:o≠u):a≠b:=by
 intro e;subst e;rw[h]at h';exact d (Option.some.inj h')
theorem cA{H:Hp}{a b:Addr}{o:HO}(h:H a=some o)(h':H b=none):a≠b:=by
 intro e;subst e;rw[h]at h';cases h'
section
variable (P:Program) (w:World)
def iT(H:Hp)(h:Heap)(a:Addr):HO->Prop
 | .lst xs=>xs.length<=sizeLine/\∃(its:List Value)(n:Nat),Vals xs its/\h.get? a=some { cls:=.type "list",data:=.seq its.toArray n}
 | .tup xs=>xs.length<=sizeLine/\∃its:List Value,Vals xs its/\IsTup h a its.toArray
 | .dK kvs=>kvs.length<=sizeLine/\(a==sysModules)=false/\∃vs,KV kvs vs/\h.DictOf (vW P w) a vs
 | .dT kvs=>kvs.length<=sizeLine/\(a==sysModules)=false/\∃xs:List (List Key×Addr×Value),
   Paired (λ(p:List Key×V)(q:List Key×Addr×Value)=>p.1=q.1/\H q.2.1=some (.tup (p.1.map kV))/\RelV p.2 q.2.2) kvs xs/\
   ∃o es ep,h.get? a=some o/\o.ExactDict/\o.data= .dict es ep/\es.toList=xs.map (entryOfKey (tupleKind (vW P w)))/\(xs.map (·.1)).Nodup
 | .set S n=>h.SetOf (intKind P w) a S n
 | .ins C dx fs=>H dx=some (.own a)/\fs.length<=1000/\dx≠a/\h.get? a=some (PySem.W.instObj C dx)/\
   ∃mA,h.Ns1 dx mA/\(∀f,QQ (fs.lookup f) (mA f))/\PySem.Within mA (fs.map (·.1))
 | .own _=>∃o,h.get? a=some o
 | .xd fs=>∃mA,h.Ns1 a mA/\∀f,QQ (fs.lookup f) (mA f)
 | .rng lo hi=>∃t u v,h.get? a=some { cls:=.type "range",data:=.fields #[.int lo t,.int hi u,.int 1 v] }
 | .frz o u=>h.get? a=some o/\iT H h a u
 | .tbl ps=>h.get? a=some { cls:=.none,data:=.fields ps}
 | .met f x=>h.get? a=some (PySem.W.methodObj (.ref f) (.ref x))
 | .ext φ=>φ h/\(∃o,h.get? a=some o)/\∀h1 h2:Heap,φ h1->(∀o,h1.get? a=some o->h2.get? a=some o)->φ h2
def HOk(H:Hp)(h:Heap):Prop:=∀a o,H a=some o->iT P w H h a o
end
section
variable {P:Program} {w:World} {H H':Hp} {h h':Heap} {a:Addr} {o:HO}
theorem iT.lt(x:iT P w H h a o):a<h.objs.size:=by
 cases o with
 |lst xs=>obtain⟨_,_,_,_,e⟩:=x;exact Ze e
 |tup xs=>obtain⟨_,_,_,p⟩:=x;exact p.lt
 |dK kvs=>obtain⟨_,_,_,_,o,_,_,e,_⟩:=x;exact Ze e
 |dT kvs=>obtain⟨_,_,_,_,o,_,_,e,_⟩:=x;exact Ze e
 |set S n=>obtain⟨o,_,_,_,e,_⟩:=x;exact Ze e
 |ins C dx fs=>obtain⟨_,_,_,e,_⟩:=x;exact Ze e
 |own y=>obtain⟨_,e⟩:=x;exact Ze e
 |xd fs=>obtain⟨_,⟨_,_,_,e,_⟩,_⟩:=x;exact Ze e
 |rng lo hi=>obtain⟨_,_,_,e⟩:=x;exact Ze e
 |frz ob u=>obtain⟨e,_⟩:=x;exact Ze e
 |tbl ps=>exact Ze (show h.get? a=some _ from x)
 |met f y=>exact Ze (show h.get? a=some _ from x)
 |ext φ=>obtain⟨_,⟨_,e⟩,_⟩:=x;exact Ze e
theorem Paired.mapP{α β:Type}{F G:α->β->Prop}:∀{l₁:List α}{l₂:List β},Paired F l₁ l₂->(∀a b,F a b->G a b)->Paired G l₁ l₂
 |_,_,.nil,_=>.nil
 |_,_,.cons r t,f=>.cons (f _ _ r) (Paired.mapP t f)
theorem iT.stay(x:iT P w H h a o)(k:∀b u,(b=a∨H b=some (.own a))->h.get? b=some u->h'.get? b=some u)
  (ho:∀b,H b=some (.own a)->H' b=some (.own a)) (ht:∀b xs,H b=some (.tup xs)->H' b=some (.tup xs)):iT P w H' h' a o:=by
 induction o with
 |lst xs=>obtain⟨z,its,n,r,e⟩:=x;exact⟨z,its,n,r,k _ _ (.inl rfl) e⟩
 |tup xs=>obtain⟨z,its,r,ob,e,c⟩:=x;exact⟨z,its,r,ob,k _ _ (.inl rfl) e,c⟩
 |dK kvs=>obtain⟨z,y,vs,r,ob,es,ep,e,c⟩:=x;exact⟨z,y,vs,r,ob,es,ep,k _ _ (.inl rfl) e,c⟩
 |dT kvs=>
  obtain⟨z,y,xs,r,ob,es,ep,e,c⟩:=x
  exact⟨z,y,xs,Paired.mapP r λp q z=>⟨z.1,ht _ _ z.2.1,z.2.2⟩,ob,es,ep,k _ _ (.inl rfl) e,c⟩
 |set S n=>obtain⟨ob,es,ep,t,e,c⟩:=x;exact⟨ob,es,ep,t,k _ _ (.inl rfl) e,c⟩
 |ins C dx fs=>
  obtain⟨d,z,ne,e,mA,⟨od,es,ep,e2,c⟩,r⟩:=x
  exact⟨ho _ d,z,ne,k _ _ (.inl rfl) e,mA,⟨od,es,ep,k _ _ (.inr d) e2,c⟩,r⟩
 |own y=>obtain⟨ob,e⟩:=x;exact⟨ob,k _ _ (.inl rfl) e⟩
 |xd fs=>obtain⟨mA,⟨od,es,ep,e,c⟩,r⟩:=x;exact⟨mA,⟨od,es,ep,k _ _ (.inl rfl) e,c⟩,r⟩
 |rng lo hi=>obtain⟨t,u,v,e⟩:=x;exact⟨t,u,v,k _ _ (.inl rfl) e⟩
 |frz ob u ih=>obtain⟨e,q⟩:=x;exact⟨k _ _ (.inl rfl) e,ih q⟩
 |tbl ps=>
  have e:h.get? a=some { cls:=.none,data:=.fields ps}:=x
  show h'.get? a=some { cls:=.none,data:=.fields ps}
  exact k a _ (.inl rfl) e
 |met f y=>
  have e:h.get? a=some (PySem.W.methodObj (.ref f) (.ref y)):=x
  show h'.get? a=some (PySem.W.methodObj (.ref f) (.ref y))
  exact k a _ (.inl rfl) e
 |ext φ=>obtain⟨p,⟨o,e⟩,st⟩:=x;exact⟨st _ _ p λo q=>k _ _ (.inl rfl) q,⟨o,k _ _ (.inl rfl) e⟩,st⟩
theorem HOk.lt(x:HOk P w H h)(e:H a=some o):a<h.objs.size:=(x a o e).lt
theorem HOk.fresh(x:HOk P w H h)(e:h.objs.size<=a):H a=none:=by
 cases q:H a with
 |none=>rfl
 |some u=>exact absurd (Zc (x.lt q) e) (Nat.lt_irrefl _)
theorem HOk.kept(x:HOk P w H h)(k:∀b u,h.get? b=some u->h'.get? b=some u):HOk P w H h':=λa o e=>
 (x a o e).stay (λb u _ q=>k b u q) (λ_ q=>q) λ_ _ q=>q
theorem HOk.laid(x:HOk P w H h)(k:∀b u,h.get? b=some u->h'.get? b=some u)(hp:h.objs.size<=a)(new:iT P w (upd H a o) h' a o):HOk P w (upd H a o) h':=λb u e=>by
 have hn:=x.fresh hp
 by_cases hb:b=a
 .subst hb;rw[fj]at e;cases e;exact new
 .rw[aO hb]at e
  exact(x b u e).stay (λc v _ q=>k c v q) (λc q=>by rw[aO (cA q hn)];exact q) λc xs q=>by rw[aO (cA q hn)];exact q
end
def Rd(H:Hp)(a:Addr)(u:HO):Prop:=H a=some u∨∃o,H a=some (.frz o u)
theorem Rd.ok{P:Program}{w:World}{H:Hp}{h:Heap}{a:Addr}{u:HO}(r:Rd H a u)(x:HOk P w H h):iT P w H h a u:=by
 rcases r with r|⟨o,r⟩
 .exact x a u r
 .obtain⟨_,q⟩:=x a _ r
  exact q
def Mut:Option HO->Prop
 |some (.lst _)=>True
 |some (.dK _)=>True
 |some (.dT _)=>True
 |some (.set _ _)=>True
 |some (.ins _ _ _)=>True
 |some (.ext _)=>True
 |_=>False
section
variable {P:Program} {w:World} {H:Hp} {h h':Heap} {x e:Addr} {o':HO}
theorem HOk.write(ok:HOk P w H h)(mu:Mut (H x))(he:e=x∨H e=some (.own x))(k:∀b u,b≠e->h.get? b=some u->h'.get? b=some u)(heo:∃u,h'.get? e=some u)
  (new:iT P w (upd H x o') h' x o'):HOk P w (upd H x o') h':=λb u q=>by
 have nown:∀c y,H c=some (.own y)->c≠x:=λc y r z=>by subst z;rw[r]at mu;exact mu
 have ntup:∀c xs,H c=some (.tup xs)->c≠x:=λc xs r z=>by subst z;rw[r]at mu;exact mu
 by_cases hb:b=x
 .subst hb;rw[fj]at q;cases q;exact new
 .rw[aO hb]at q
  by_cases hbe:b=e
  .have q':H b=some (.own x):=by
    rcases he with z|z
    .exact absurd (hbe.trans z) hb
    .rw[hbe];exact z
   rw[q]at q';cases q'
   obtain⟨v,hv⟩:=heo
   exact⟨v,by rw[hbe];exact hv⟩
  .refine(ok b u q).stay (λc v hc r=>k c v ?_ r) (λc r=>by rw[aO (nown c b r)];exact r) λc xs r=>by rw[aO (ntup c xs r)];exact r
   rcases hc with rfl|hc
   .exact hbe
   .rintro rfl
    rcases he with z|z
    .exact nown c b hc z
    .rw[hc]at z;cases z;exact hb rfl
end
structure Un(fs ex:List Addr)(H H':Hp)(h h':Heap):Prop where
 keep:∀b o,h.get? b=some o->H b=none->b∉fs->b∉ex->h'.get? b=some o
 slot:∀b o,h.get? b=some o->H b=none->b∈fs->b∉ex->∃sl,h'.get? b=some { o with slots:=sl}
 free:∀b o,h.get? b=some o->H b=none->b∉ex->H' b=none
 there:∀b o,h.get? b=some o->b∉ex->∃o',h'.get? b=some o'
 tups:∀b xs,H b=some (.tup xs)->H' b=some (.tup xs)
 frzs:∀b o u,H b=some (.frz o u)->H' b=some (.frz o u)
 tbls:∀b ps,H b=some (.tbl ps)->∃more,H' b=some (.tbl (ps++more))
section
variable {fs fs' ex ex':List Addr} {H H1 H2:Hp} {h h1 h2 h':Heap} {a x e:Addr} {o:HO}
theorem Un.any(u:Un fs ex H H1 h h1){b:Addr}{ob:Obj}(q:h.get? b=some ob)(n:H b=none)(hx:b∉ex):∃sl,h1.get? b=some { ob with slots:=sl}:=by
 by_cases hb:b∈fs
 .exact u.slot b ob q n hb hx
 .exact⟨ob.slots,u.keep b ob q n hb hx⟩
theorem Un.kept(k:∀b u,h.get? b=some u->h'.get? b=some u):Un fs ex H H h h':=
 ⟨λb ob q _ _ _=>k b ob q,λb ob q _ _ _=>⟨ob.slots,k b ob q⟩,λ_ _ _ n _=>n,λb ob q _=>⟨ob,k b ob q⟩,λ_ _ q=>q,λ_ _ _ q=>q,λ_ ps q=>⟨#[],by rw[q];simp⟩⟩
theorem Un.refl:Un fs ex H H h h:=Un.kept λ_ _ q=>q
theorem Un.laid(k:∀b u,h.get? b=some u->h'.get? b=some u)(hp:h.objs.size<=a)(hn:H a=none):Un fs ex H (upd H a o) h h' where
 keep:=λb u q _ _ _=>k b u q
 slot:=λb u q _ _ _=>⟨u.slots,k b u q⟩
 free:=λb u q n _=>by rw[aO (Zk (Zc (Ze q) hp))];exact n
 there:=λb u q _=>⟨u,k b u q⟩
 tups:=λb xs q=>by rw[aO (cA q hn)];exact q
 frzs:=λb u xs q=>by rw[aO (cA q hn)];exact q
 tbls:=λb ps q=>⟨#[],by rw[aO (cA q hn),q];simp⟩
theorem Un.write(mu:Mut (H x))(he:e=x∨H e=some (.own x))(k:∀b u,b≠e->h.get? b=some u->h'.get? b=some u)(heo:∃u,h'.get? e=some u):Un fs ex H (upd H x o) h h':=by
 have hx:∀b,H b=none->b≠x:=λb n z=>by subst z;rw[n]at mu;exact mu
 have hb:∀b,H b=none->b≠e:=λb n z=>by
  subst z
  rcases he with r|r
  .exact hx b n r
  .rw[n]at r;cases r
 have hm:∀b u,H b=some u->¬Mut (some u)->b≠x:=λb u q nm z=>by subst z;rw[q]at mu;exact nm mu
 refine⟨λb u q n _ _=>k b u (hb b n) q,λb u q n _ _=>⟨u.slots,k b u (hb b n) q⟩,λb u q n _=>by rw[aO (hx b n)];exact n,λb u q _=>?_,
  λb xs q=>by rw[aO (hm b _ q λz=>z)];exact q,λb u xs q=>by rw[aO (hm b _ q λz=>z)];exact q,λb ps q=>⟨#[],by rw[aO (hm b _ q λz=>z),q];simp⟩⟩
 by_cases hbe:b=e
 .subst hbe;exact heo
 .exact⟨u,k b u hbe q⟩
end
def trk(h:Heap)(H:Hp):List Addr:=(List.range h.objs.size).filter λa=>(H a).isSome
def vU(h:Heap)(H:Hp):Heap:=PySem.W.hideAll h (trk h H)
theorem CZ(h:Heap)(H:Hp):(vU h H).objs.size=h.objs.size:=PySem.W.hideAll_size _ _
theorem Ew{h:Heap}{H:Hp}{b:Addr}{o:Obj}(e:h.get? b=some o)(n:H b=none):(vU h H).get? b=some o:=
 PySem.W.hideAll_get _ e λhm=>by
  have q:(H b).isSome=true:=(List.mem_filter.mp hm).2
  rw[n]at q;simp at q
theorem Hq{h:Heap}{H:Hp}{b:Addr}{o:Obj}(e:(vU h H).get? b=some o):h.get? b=some o/\H b=none:=by
 have e':h.get? b=some o:=PySem.W.of_hideAll (trk h H) e
 refine⟨e',?_⟩
 cases q:H b with
 |none=>rfl
 |some x=>
  have hm:b∈trk h H:=List.mem_filter.mpr ⟨List.mem_range.mpr (Ze e'),by simp[q]⟩
  have z:(vU h H).get? b=none:=PySem.W.hideAll_none (trk h H) hm
  rw[z]at e;cases e
def JQ(g h:Heap)(L:Addr):List (Addr×Obj):=(List.range h.objs.size).filterMap λa=>if a=L∨(g.get? a).isSome=true then none else(h.get? a).map λo=>(a,o)
def rest(g h:Heap)(L d:Addr):List (Addr×Obj):=(JQ g h L).filter λp=>decide (p.1≠d)
structure Mod(K:PySem.W.Frag)(mg:Str->Option Value)(base:Heap):Prop where
 kin:K.In base
 glob:base.Ns mainGlobals mg
 blt:∃mb,base.Ns builtinsNs mb/\∀x:Str,x≠"__name__"->mb x=bootBuiltins x
 nolimit:base.NoLimit
 bmain:∃bm ob,mg "__builtins__"=some (.ref bm)/\bm≠builtinsNs/\base.get? bm=some ob/\ob.cls= .type "module"/\ob.dict=some builtinsNs/\ob.data= .plain
structure Cx where
 prog:Program
 w:World
 K:PySem.W.Frag
 mg:Str->Option Value
 base:Heap
 A:Around
 N:List Str
 s₀:Shared
 H₀:Hp
 env:Env
 outer:List Env
 stack:List Env
 ex:List Addr
 fn:Str->Bool
 calm:Bool
 pn:List (Addr×Obj)
 xe:Value->Shared->Prop
def frs(l:List Env):List Addr:=l.filterMap (·.frame)
abbrev Cx.fs(X:Cx):List Addr:=frs X.outer
def Vis(sc:Scope)(x:Str):Prop:=sc.names.lookup x=some .local∨sc.names.lookup x=some .cell∨sc.names.lookup x=some .free
def Loc(sc:Scope)(x:Str):Prop:=sc.names.lookup x=some .local∨sc.names.lookup x=some .cell
def Look(env:Env)(h:Heap)(m:Str->Option Value)(x:Str)(u:Value):Prop:=
 (env.kindOf x=some .local/\m x=some u)∨((env.kindOf x=some .cell∨env.kindOf x=some .free)/\∃c,env.cells.lookup x=some c/\h.IsCell c (some u))
structure Cx.Ok(X:Cx):Prop where
 mod:Mod X.K X.mg X.base
 kind:X.env.scope.kind= .function
 glob:X.env.globals=mainGlobals
 blt:X.env.builtins=builtinsNs
 above:X.s₀.heap.objs.size<=X.env.locals
 inj:∀x y c,X.env.cells.lookup x=some c->X.env.cells.lookup y=some c->x=y
 has:∀x,(X.env.kindOf x=some .cell∨X.env.kindOf x=some .free)->∃c,X.env.cells.lookup x=some c
 cab:∀x c,X.fn x=true->X.env.cells.lookup x=some c->X.s₀.heap.objs.size<=c
 hd:X.calm=true->X.A.handled=none
 frames:X.A.frames=some X.stack
 stk:X.stack=X.outer∨(X.stack=X.env::X.outer/\X.env.frame=some X.env.locals)
 exf:∀b∈X.ex,b≠X.env.locals/\∀x c,X.env.cells.lookup x=some c->c≠b
 bs:∀b o,X.base.get? b=some o->X.s₀.heap.get? b=some o/\X.H₀ b=none
 bsz:X.base.objs.size<=X.s₀.heap.objs.size
 noex:∀b o,X.base.get? b=some o->b∉X.ex
 exfs:∀b∈X.ex,b∉X.fs
 funs:X.s₀.heap.FunFrames X.base X.outer
 frf:∀b∈X.fs,X.H₀ b=none
structure GK(a b:Array GenState):Prop where
 bare:AllBare b
 kept:∀(k:Nat)(g:GenState),a[k]? =some g->b[k]? =some g
theorem GK.refl{a:Array GenState}(h:AllBare a):GK a a:=⟨h,λ_ _ e=>e⟩
theorem GK.trans{a b c:Array GenState}(x:GK a b)(y:GK b c):GK a c:=⟨y.bare,λk g e=>y.kept k g (x.kept k g e)⟩
theorem GK.again{a b:Array GenState}(x:GK a b):GK b b:=GK.refl x.bare
structure Inv(X:Cx)(pins:List (Addr×Obj))(σ:List (Option V))(H:Hp)(s:Shared):Prop where
 ok:X.Ok
 os:s.os=X.s₀.os
 bare:GK X.s₀.gens s.gens
 base:Un X.fs X.ex X.H₀ H X.s₀.heap s.heap
 loc:∃m,s.heap.Ns X.env.locals m/\∀(i:Nat)(x:Str)(v:V),X.N[i]? =some x->σ[i]? =some (some v)->Vis X.env.scope x->∃u,RelV v u/\Look X.env s.heap m x u
 cell:∀x c,X.env.cells.lookup x=some c->∃v,s.heap.IsCell c v
 free:H X.env.locals=none
 freeC:∀x c,X.env.cells.lookup x=some c->H c=none
 pin:∀p∈X.pn++pins,s.heap.get? p.1=some p.2/\H p.1=none/\p.1≠X.env.locals/\p.1∉X.fs/\∀v,p.2.data≠ .cell v
 hok:HOk X.prog X.w H s.heap
 len:σ.length=X.N.length
section
variable {X:Cx} {pins:List (Addr×Obj)} {σ:List (Option V)} {H H':Hp} {s:Shared} {h':Heap}
theorem Cx.Ok.nofr(ok:X.Ok){b:Addr}{o:Obj}(e:X.base.get? b=some o):b∉X.fs:=λhb=>by
 have:=(ok.funs.mem hb).1
 rw[e]at this;cases this
theorem Inv.bs(I:Inv X pins σ H s):∀b o,X.base.get? b=some o->s.heap.get? b=some o/\H b=none:=λb o e=>
 ⟨I.base.keep b o (I.ok.bs b o e).1 (I.ok.bs b o e).2 (I.ok.nofr e) (I.ok.noex b o e),I.base.free b o (I.ok.bs b o e).1 (I.ok.bs b o e).2 (I.ok.noex b o e)⟩
theorem Inv.bk(I:Inv X pins σ H s):∀b o,X.base.get? b=some o->s.heap.get? b=some o:=λb o e=>(I.bs b o e).1
theorem Inv.mod(I:Inv X pins σ H s):Mod X.K X.mg X.base:=I.ok.mod
theorem Inv.kIn(I:Inv X pins σ H s):X.K.In s.heap:=I.ok.mod.kin.keeps I.bk
theorem Inv.nolimit(I:Inv X pins σ H s):s.heap.NoLimit:=I.ok.mod.nolimit.keeps I.bk
theorem Inv.fr(I:Inv X pins σ H s):∃m,Fr X.base X.env.locals s.heap m:=
 let⟨m,hn,_⟩:=I.loc
 ⟨m,hn,I.bk,Zl I.ok.bsz I.ok.above⟩
theorem Inv.lt(I:Inv X pins σ H s):X.env.locals<s.heap.objs.size:=let⟨_,hn,_⟩:=I.loc;hn.lt
theorem Inv.sz(I:Inv X pins σ H s):X.s₀.heap.objs.size<=s.heap.objs.size:=Zl I.ok.above (Nat.le_of_lt I.lt)
theorem Inv.nofs(I:Inv X pins σ H s){a:Addr}(h:s.heap.objs.size<=a):a∉X.fs:=λhb=>by
 obtain⟨_,o,ho,_⟩:=I.ok.funs.mem hb
 exact absurd (Zc (Ze ho) (Zl I.sz h)) (Nat.lt_irrefl _)
theorem Inv.cne(I:Inv X pins σ H s):∀x c,X.env.cells.lookup x=some c->c≠X.env.locals:=λx c e z=>by
 obtain⟨v,o,ho,hd⟩:=I.cell x c e
 obtain⟨m,⟨o',es,ep,ho',hd',_⟩,_⟩:=I.loc
 rw[z,ho']at ho;cases ho;rw[hd']at hd;cases hd
theorem Inv.funs(I:Inv X pins σ H s):s.heap.FunFrames X.base X.outer:=by
 have all:∀(l:List Env),(∀b∈frs l,b∈X.fs)->X.s₀.heap.FunFrames X.base l->s.heap.FunFrames X.base l:=by
  intro l
  induction l with
  |nil=>intro _ _;trivial
  |cons env r ih=>
   intro hs hl
   obtain⟨hk,⟨L,o,hf,hn,ho,hd⟩,hr⟩:=hl
   have hL:L∈X.fs:=hs L (by unfold frs;rw[List.filterMap_cons,hf];exact List.mem_cons_self)
   obtain⟨sl,e⟩:=I.base.slot L o ho (I.ok.frf L hL) hL λz=>I.ok.exfs L z hL
   exact⟨hk,⟨L,_,hf,hn,e,hd⟩,ih (λb hb=>hs b (by unfold frs;rw[List.filterMap_cons,hf];exact List.mem_cons_of_mem _ hb)) hr⟩
 exact all X.outer (λ_ hb=>hb) I.ok.funs
theorem Inv.stack(I:Inv X pins σ H s):s.heap.FunFrames X.base X.stack:=by
 rcases I.ok.stk with e|⟨e,hf⟩
 .rw[e];exact I.funs
 .rw[e]
  obtain⟨m,hn,_⟩:=I.loc
  refine .cons (by rw[I.ok.kind];decide) hf hn ?_ I.funs
  exact Heap.get?_none_of_le (Zl I.ok.bsz I.ok.above)
theorem Inv.stkSub(I:Inv X pins σ H s):∀b∈frs X.stack,b∈X.env.locals::X.fs:=λb hb=>by
 rcases I.ok.stk with e|⟨e,hf⟩
 .rw[e]at hb;exact List.mem_cons_of_mem _ hb
 .rw[e]at hb
  unfold frs at hb
  rw[List.filterMap_cons,hf]at hb
  exact hb
theorem Inv.stkFree(I:Inv X pins σ H s):∀b∈frs X.stack,H b=none:=λb hb=>by
 rcases Zi.mp (I.stkSub b hb)with e|hb
 .rw[e];exact I.free
 .obtain⟨_,o,ho,_⟩:=I.ok.funs.mem hb
  exact I.base.free b o ho (I.ok.frf b hb) λz=>I.ok.exfs b z hb
theorem Inv.step{g':Array GenState}{t':Nat}{d':Drawn}{ch:List Addr}(I:Inv X pins σ H s)
  (hch:∀b∈ch,(b∈X.ex∨X.s₀.heap.objs.size<=b)/\b≠X.env.locals/\(∀x c,X.env.cells.lookup x=some c->c≠b)/\∀p∈X.pn++pins,p.1≠b)
  (keep:∀b o,b≠X.env.locals->b∉X.fs->b∉ch->s.heap.get? b=some o->H b=none->h'.get? b=some o)
  (slot:∀b o,b≠X.env.locals->b∈X.fs->b∉ch->s.heap.get? b=some o->H b=none->∃sl,h'.get? b=some { o with slots:=sl}) (free:∀b o,b∉ch->s.heap.get? b=some o->H b=none->H' b=none)
  (there:∀b o,b∉ch->s.heap.get? b=some o->∃o',h'.get? b=some o')
  (tups:∀b xs,H b=some (.tup xs)->H' b=some (.tup xs)) (frzs:∀b o u,H b=some (.frz o u)->H' b=some (.frz o u)) (tbls:∀b ps,H b=some (.tbl ps)->∃more,H' b=some (.tbl (ps++more)))
  (ns:∀m,s.heap.Ns X.env.locals m->h'.Ns X.env.locals m) (hok:HOk X.prog X.w H' h') (hg:GK s.gens g'):
  Inv X pins σ H' { s with heap:=h',gens:=g',drawn:=d',toks:=t'}:=by
 have neL:∀b o,X.s₀.heap.get? b=some o->b≠X.env.locals:=λb o e=>Zk (Zc (Ze e) I.ok.above)
 have neC:∀b o,X.s₀.heap.get? b=some o->b∉X.ex->b∉ch:=λb o e hx hb=>by
  rcases(hch b hb).1 with z|z
  .exact hx z
  .exact absurd (Zc (Ze e) z) (Nat.lt_irrefl _)
 have cellK:∀x c,X.env.cells.lookup x=some c->∀v,s.heap.IsCell c v->h'.IsCell c v:=λx c e v zq1=>by
  obtain⟨o,ho,hd⟩:=zq1
  have nch:c∉ch:=λz=>(hch c z).2.2.1 x c e rfl
  by_cases hc:c∈X.fs
  .obtain⟨sl,q⟩:=slot c o (I.cne x c e) hc nch ho (I.freeC x c e)
   exact⟨_,q,hd⟩
  .exact⟨o,keep c o (I.cne x c e) hc nch ho (I.freeC x c e),hd⟩
 refine⟨I.ok,I.os,I.bare.trans hg,⟨λb o e n hb hx=>?_,λb o e n hb hx=>?_,λb o e n hx=>?_,λb o e hx=>?_,λb xs e=>tups b xs (I.base.tups b xs e),λb o xs e=>frzs b o xs (I.base.frzs b o xs e),λb ps e=>?_⟩,?_,λx c e=>?_,?_,λx c e=>?_,λp hp=>?_,hok,I.len⟩
 .exact keep b o (neL b o e) hb (neC b o e hx) (I.base.keep b o e n hb hx) (I.base.free b o e n hx)
 .obtain⟨sl,e1⟩:=I.base.slot b o e n hb hx
  obtain⟨sl',e2⟩:=slot b _ (neL b o e) hb (neC b o e hx) e1 (I.base.free b o e n hx)
  exact⟨sl',e2⟩
 .obtain⟨o',e1⟩:=I.base.there b o e hx
  exact free b o' (neC b o e hx) e1 (I.base.free b o e n hx)
 .obtain⟨o',e1⟩:=I.base.there b o e hx
  exact there b o' (neC b o e hx) e1
 .obtain⟨m1,e1⟩:=I.base.tbls b ps e
  obtain⟨m2,e2⟩:=tbls b _ e1
  exact⟨m1++m2,by rw[e2,Array.append_assoc]⟩
 .obtain⟨m,hn,hl⟩:=I.loc
  refine⟨m,ns m hn,λi x v e1 e2 e3=>?_⟩
  obtain⟨u,r,l⟩:=hl i x v e1 e2 e3
  refine⟨u,r,?_⟩
  rcases l with l|⟨k,c,e,z⟩
  .exact .inl l
  .exact .inr ⟨k,c,e,cellK x c e _ z⟩
 .obtain⟨v,z⟩:=I.cell x c e
  exact⟨v,cellK x c e v z⟩
 .obtain⟨m,⟨o,_,_,ho,_⟩,_⟩:=I.loc
  exact free _ o (λz=>(hch _ z).2.1 rfl) ho I.free
 .obtain⟨v,o,ho,hd⟩:=I.cell x c e
  exact free c o (λz=>(hch c z).2.2.1 x c e rfl) ho (I.freeC x c e)
 .obtain⟨e,n,ne,nf,d⟩:=I.pin p hp
  have nch:p.1∉ch:=λz=>(hch p.1 z).2.2.2 p hp rfl
  exact⟨keep p.1 p.2 ne nf nch e n,free p.1 p.2 nch e n,ne,nf,d⟩
theorem Inv.un{t':Nat}(I:Inv X pins σ H s)(u:Un X.fs [] H H' s.heap h')(hok:HOk X.prog X.w H' h'):Inv X pins σ H' { s with heap:=h',toks:=t'}:=by
 obtain⟨m,⟨o,es,ep,ho,r⟩,_⟩:=id I.loc
 obtain⟨sl,hL⟩:=u.any ho I.free (by simp)
 exact I.step (g':=s.gens) (d':=s.drawn) (ch:=[]) (λ_ z=>nomatch z) (λb o _ hb _ e n=>u.keep b o e n hb (by simp)) (λb o _ hb _ e n=>u.slot b o e n hb (by simp)) (λb o _ e n=>u.free b o e n (by simp)) (λb o _ e=>u.there b o e (by simp)) u.tups u.frzs u.tbls (λm' hm=>by
  obtain⟨o',es',ep',ho',r'⟩:=hm
  rw[ho]at ho';cases ho'
  exact⟨_,es',ep',hL,r'⟩) hok I.bare.again
theorem Inv.call{g':Array GenState}{t':Nat}{d':Drawn}{ch:List Addr}(I:Inv X pins σ H s)(u:Un (frs X.stack) ch H H' s.heap h')(hok:HOk X.prog X.w H' h')(hg:GK s.gens g')
  (hch:∀b∈ch,(b∈X.ex∨X.s₀.heap.objs.size<=b)/\b≠X.env.locals/\(∀x c,X.env.cells.lookup x=some c->c≠b)/\∀p∈X.pn++pins,p.1≠b):
  Inv X pins σ H' { s with heap:=h',gens:=g',drawn:=d',toks:=t'}:=by
 obtain⟨m,⟨o,es,ep,ho,r⟩,_⟩:=id I.loc
 obtain⟨sl,hL⟩:=u.any ho I.free λz=>(hch _ z).2.1 rfl
 exact I.step (ch:=ch) hch (λb o hL hb hc e n=>u.keep b o e n (λz=>(Zi.mp (I.stkSub b z)).elim hL hb) hc) (λb o _ _ hc e n=>u.any e n hc) (λb o hc e n=>u.free b o e n hc) (λb o hc e=>u.there b o e hc) u.tups u.frzs u.tbls (λm' hm=>by
  obtain⟨o',es',ep',ho',r'⟩:=hm
  rw[ho]at ho';cases ho'
  exact⟨_,es',ep',hL,r'⟩) hok hg
theorem Inv.turned{t':Nat}{it:Addr}(I:Inv X pins σ H s)(k:∀b o,b≠it->s.heap.get? b=some o->h'.get? b=some o)(hn:H it=none)(hL:it≠X.env.locals)
  (h1:it∈X.ex∨X.s₀.heap.objs.size<=it) (h2:∀x c,X.env.cells.lookup x=some c->c≠it) (h3:∀p∈X.pn++pins,p.1≠it):Inv X pins σ H { s with heap:=h',toks:=t'}:=by
 have nit:∀b u,H b=some u->b≠it:=λb u e z=>by rw[z,hn]at e;cases e
 refine I.step (g':=s.gens) (d':=s.drawn) (ch:=[it]) (λb hb=>?_) (λb o _ _ hc e _=>k b o (λz=>hc (by simp[z])) e) (λb o _ _ hc e _=>⟨o.slots,k b o (λz=>hc (by simp[z])) e⟩) (λ_ _ _ _ n=>n)
  (λb o hc e=>⟨o,k b o (λz=>hc (by simp[z])) e⟩) (λ_ _ e=>e) (λ_ _ _ e=>e) (λb ps e=>⟨#[],by rw[e];simp⟩) (λm hm=>?_) (λb u e=>?_) I.bare.again
 .have e:b=it:=by simpa using hb
  subst e
  exact⟨h1,hL,h2,h3⟩
 .obtain⟨o,es,ep,ho,r⟩:=hm
  exact⟨o,es,ep,k _ o (Ne.symm hL) ho,r⟩
 .refine(I.hok b u e).stay (λc v hc q=>k c v ?_ q) (λ_ q=>q) λ_ _ q=>q
  rcases hc with z|z
  .rw[z];exact nit b u e
  .exact nit c _ z
theorem Inv.tok(I:Inv X pins σ H s)(t:Nat):Inv X pins σ H { s with toks:=t}:=I.un (h':=s.heap) (t':=t) Un.refl I.hok
theorem Inv.kept{t':Nat}(I:Inv X pins σ H s)(k:∀b u,s.heap.get? b=some u->h'.get? b=some u):Inv X pins σ H { s with heap:=h',toks:=t'}:=I.un (Un.kept k) (I.hok.kept k)
theorem Inv.laid{a:Addr}{o:HO}{t':Nat}(I:Inv X pins σ H s)(k:∀b u,s.heap.get? b=some u->h'.get? b=some u)(hp:s.heap.objs.size<=a)(new:iT X.prog X.w (upd H a o) h' a o):
  Inv X pins σ (upd H a o) { s with heap:=h',toks:=t'}:=I.un (Un.laid k hp (I.hok.fresh hp)) (I.hok.laid k hp new)
theorem Inv.write{x e:Addr}{o:HO}{t':Nat}(I:Inv X pins σ H s)(mu:Mut (H x))(he:e=x∨H e=some (.own x))(k:∀b u,b≠e->s.heap.get? b=some u->h'.get? b=some u)(heo:∃u,h'.get? e=some u)
  (new:iT X.prog X.w (upd H x o) h' x o):Inv X pins σ (upd H x o) { s with heap:=h',toks:=t'}:=I.un (Un.write mu he k heo) (I.hok.write mu he k heo new)
theorem Inv.weak{σ':List (Option V)}(I:Inv X pins σ H s)(hl:σ'.length=σ.length)(w:∀(i:Nat) v,σ'[i]? =some (some v)->σ[i]? =some (some v)):Inv X pins σ' H s:=
 ⟨I.ok,I.os,I.bare,I.base,let⟨m,hn,hl'⟩:=I.loc;⟨m,hn,λi x v e1 e2 e3=>hl' i x v e1 (w i v e2) e3⟩,I.cell,I.free,I.freeC,I.pin,I.hok,hl.trans I.len⟩
theorem Inv.pins_of{pins':List (Addr×Obj)}(I:Inv X pins σ H s)(h:∀p∈pins',s.heap.get? p.1=some p.2/\H p.1=none/\p.1≠X.env.locals/\p.1∉X.fs/\∀v,p.2.data≠ .cell v):Inv X pins' σ H s:=
 ⟨I.ok,I.os,I.bare,I.base,I.loc,I.cell,I.free,I.freeC,λp hp=>(Zm.mp hp).elim (λz=>I.pin p (List.mem_append_left _ z)) (h p),I.hok,I.len⟩
theorem xP{N:List Str}(hN:N.Nodup){i j:Nat}{x:Str}(a:N[i]? =some x)(b:N[j]? =some x):i=j:=by
 obtain⟨h1,e1⟩:=Zh.mp a
 obtain⟨h2,e2⟩:=Zh.mp b
 exact(List.getElem_inj hN).mp (e1.trans e2.symm)
theorem tZ{M:Model}{A:Around}{E:Value->Shared->Prop}{i:Nat}{x:Str}{v:V}{u:Value}{Q:Unit->Shared->Prop}(I:Inv X pins σ H s)(hN:X.N.Nodup)(hi:X.N[i]? =some x)(hx:Loc X.env.scope x)(r:RelV v u)
  (h:∀s',Inv X pins (σ.set i (some v)) H s'->(∃a,Heap.SameBut a s.heap s'.heap/\(a=X.env.locals∨X.env.cells.lookup x=some a))->Q () s') (hf:X.fn x=true∨X.env.scope.names.lookup x=some .local:=by first|exact .inl rfl|exact .inr rfl|assumption):wpAny M A (storeName X.env x u) Q E s:=by
 obtain⟨m,hn,hl⟩:=id I.loc
 have hcls:(X.env.scope.kind== .class||(X.env.scope.kind== .module&&X.env.locals != X.env.globals))=false:=by rw[I.ok.kind];rfl
 have hiσ:i<σ.length:=by rw[I.len];exact(Zh.mp hi).1
 have cne:=I.cne
 have tracked:∀{a:Addr}{h':Heap},(∃o,s.heap.get? a=some o/\H a=none)->Heap.SameBut a s.heap h'->HOk X.prog X.w H h':=λ{a h'} ha hs b ob e=>by
  obtain⟨_,_,hfree⟩:=ha
  refine(I.hok b ob e).stay (λc w' hc q=>(hs.2 c ?_).trans q) (λ_ q=>q) λ_ _ q=>q
  rintro rfl
  rcases hc with rfl|hc
  .rw[hfree]at e;cases e
  .rw[hfree]at hc;cases hc
 rcases hx with hk|hk
 .refine wpAny_storeName_local hk hn (λh' hn' hs=>?_) hcls
  obtain⟨oL,_,_,hoL,_⟩:=id hn
  refine h _ ⟨I.ok,I.os,I.bare,⟨λb o e n hb hx=>?_,λb o e n hb hx=>?_,I.base.free,λb o e hx=>?_,I.base.tups,I.base.frzs,I.base.tbls⟩,⟨_,hn',λj y v' e1 e2 e3=>?_⟩,λy c e=>?_,I.free,I.freeC,λp hp=>?_,tracked ⟨oL,hoL,I.free⟩ hs,by simpa using I.len⟩ ⟨_,hs,.inl rfl⟩
  .exact(hs.2 b (Zk (Zc (Ze e) I.ok.above))).trans (I.base.keep b o e n hb hx)
  .obtain⟨sl,e1⟩:=I.base.slot b o e n hb hx
   exact⟨sl,(hs.2 b (Zk (Zc (Ze e) I.ok.above))).trans e1⟩
  .obtain⟨o',e1⟩:=I.base.there b o e hx
   exact⟨o',(hs.2 b (Zk (Zc (Ze e) I.ok.above))).trans e1⟩
  .by_cases hj:j=i
   .subst hj
    rw[hi]at e1;cases e1
    rw[List.getElem?_set_self hiσ]at e2
    cases e2
    exact⟨u,r,.inl ⟨hk,by simp⟩⟩
   .rw[List.getElem?_set_ne (Ne.symm hj)]at e2
    obtain⟨u',r',q⟩:=hl j y v' e1 e2 e3
    refine⟨u',r',?_⟩
    rcases q with⟨k,e⟩|⟨k,c,e,z⟩
    .refine .inl ⟨k,?_⟩
     have:y≠x:=λe=>hj (xP hN e1 (e▸hi))
     simp[this,e]
    .exact .inr ⟨k,c,e,z.sameBut hs (cne y c e)⟩
  .obtain⟨w',z⟩:=I.cell y c e
   exact⟨w',z.sameBut hs (cne y c e)⟩
  .obtain⟨e,n,ne,nf,d⟩:=I.pin p hp
   exact⟨(hs.2 p.1 ne).trans e,n,ne,nf,d⟩
 .have hfn:X.fn x=true:=by
   rcases hf with z|z
   .exact z
   .rw[z]at hk;cases hk
  obtain⟨c,hc⟩:=I.ok.has x (.inl hk)
  obtain⟨w',z⟩:=I.cell x c hc
  refine wpAny_storeName_cell I.ok.kind hk hc z (λh' hc' hs=>?_)
  obtain⟨oc,hoc,hocd⟩:=id z
  refine h { s with heap:=h'} ⟨I.ok,I.os,I.bare,⟨λb o e n hb hx=>?_,λb o e n hb hx=>?_,I.base.free,λb o e hx=>?_,I.base.tups,I.base.frzs,I.base.tbls⟩,⟨m,hn.sameBut hs (Ne.symm (cne x c hc)),λj y v' e1 e2 e3=>?_⟩,λy c' e=>?_,I.free,I.freeC,λp hp=>?_,tracked ⟨oc,hoc,I.freeC x c hc⟩ hs,by simpa using I.len⟩ ⟨c,hs,.inr hc⟩
  .exact(hs.2 b (Zk (Zc (Ze e) (I.ok.cab x c hfn hc)))).trans (I.base.keep b o e n hb hx)
  .obtain⟨sl,e1⟩:=I.base.slot b o e n hb hx
   exact⟨sl,(hs.2 b (Zk (Zc (Ze e) (I.ok.cab x c hfn hc)))).trans e1⟩
  .obtain⟨o',e1⟩:=I.base.there b o e hx
   exact⟨o',(hs.2 b (Zk (Zc (Ze e) (I.ok.cab x c hfn hc)))).trans e1⟩
  .by_cases hj:j=i
   .subst hj
    rw[hi]at e1;cases e1
    rw[List.getElem?_set_self hiσ]at e2
    cases e2
    exact⟨u,r,.inr ⟨.inl hk,c,hc,hc'⟩⟩
   .rw[List.getElem?_set_ne (Ne.symm hj)]at e2
    obtain⟨u',r',q⟩:=hl j y v' e1 e2 e3
    refine⟨u',r',?_⟩
    rcases q with q|⟨k,c',e,z'⟩
    .exact .inl q
    .refine .inr ⟨k,c',e,z'.sameBut hs ?_⟩
     rintro rfl
     exact hj (xP hN e1 (I.ok.inj _ _ _ e hc▸hi))
  .by_cases hcc:c'=c
   .subst hcc;exact⟨_,hc'⟩
   .obtain⟨w2,z2⟩:=I.cell y c' e
    exact⟨w2,z2.sameBut hs hcc⟩
  .obtain⟨e,n,ne,nf,d⟩:=I.pin p hp
   refine⟨(hs.2 p.1 ?_).trans e,n,ne,nf,d⟩
   intro q
   rw[q,hoc]at e
   have q':oc=p.2:=Option.some.inj e
   exact d w' (by rw[<-q'];exact hocd)
theorem jt{M:Model}{A:Around}{E:Value->Shared->Prop}{i:Nat}{x:Str}{v:V}{u:Value}{Q:Unit->Shared->Prop}(I:Inv X pins σ H s)(hN:X.N.Nodup)(hi:X.N[i]? =some x)(hx:Loc X.env.scope x)(r:RelV v u)
  (h:∀s',Inv X pins (σ.set i (some v)) H s'->Q () s') (hf:X.fn x=true∨X.env.scope.names.lookup x=some .local:=by first|exact .inl rfl|exact .inr rfl|assumption):wpAny M A (storeName X.env x u) Q E s:=
 tZ I hN hi hx r (λs' I' _=>h s' I') hf
theorem Inv.call'{s':Shared}{ch:List Addr}(I:Inv X pins σ H s)(ho:s'.os=s.os)(u:Un (frs X.stack) ch H H' s.heap s'.heap)(hok:HOk X.prog X.w H' s'.heap)(hg:GK s.gens s'.gens)
  (hch:∀b∈ch,(b∈X.ex∨X.s₀.heap.objs.size<=b)/\b≠X.env.locals/\(∀x c,X.env.cells.lookup x=some c->c≠b)/\∀p∈X.pn++pins,p.1≠b):Inv X pins σ H' s':=by
 obtain⟨h',g',d',t',o'⟩:=s'
 have e:o'=s.os:=ho
 subst e
 exact I.call (g':=g') (t':=t') (d':=d') u hok hg hch
end
abbrev XK:=Value->Option Addr->Hp->Prop
abbrev St:=List (Option V)
abbrev VK:=V->Hp->Prop
abbrev TE:=St->Hp->VK->Prop
abbrev TT:=St->Hp->(Bool->Hp->Prop)->Prop
abbrev TA:=St->Hp->(List V->Hp->Prop)->Prop
structure Ends where
 nx:St->Hp->Prop
 rt:VK
 bk:St->Hp->Prop:=λ_ _=>False
 ct:St->Hp->Prop:=λ_ _=>False
abbrev TS:=Ends->St->Hp->Prop
def EP(X:Cx)(pins:List (Addr×Obj))(σ:St)(Q:VK)(u:Value)(s':Shared):Prop:=∃v H',Inv X pins σ H' s'/\RelV v u/\Q v H'
def TP(X:Cx)(pins:List (Addr×Obj))(σ:St)(Q:Bool->Hp->Prop)(b:Bool)(s':Shared):Prop:=∃H',Inv X pins σ H' s'/\Q b H'
def AP(X:Cx)(pins:List (Addr×Obj))(σ:St)(Q:List V->Hp->Prop)(us:List Value)(s':Shared):Prop:=∃vs H',Inv X pins σ H' s'/\Vals vs us/\Q vs H'
def SP(X:Cx)(pins:List (Addr×Obj))(D:Ends)(f:Flow)(s':Shared):Prop:=
 match f with
 | .next=>∃σ' H',Inv X pins σ' H' s'/\D.nx σ' H'
 | .brk=>∃σ' H',Inv X pins σ' H' s'/\D.bk σ' H'
 | .cont=>∃σ' H',Inv X pins σ' H' s'/\D.ct σ' H'
 | .ret u=>∃v σ' H',Inv X pins σ' H' s'/\RelV v u/\D.rt v H'
def PE(X:Cx)(e:Expr)(t:TE):Prop:=
 ∀(pins:List (Addr×Obj))(s:Shared)(σ:St)(H:Hp)(Q:VK),Inv X pins σ H s->t σ H Q->wpAny (model X.prog X.w) X.A (eval e X.env) (EP X pins σ Q) X.xe s
def PT(X:Cx)(e:Expr)(t:TT):Prop:=
 ∀(pins:List (Addr×Obj))(s:Shared)(σ:St)(H:Hp)(Q:Bool->Hp->Prop),Inv X pins σ H s->t σ H Q->wpAny (model X.prog X.w) X.A (isTrue e X.env (eval e X.env)) (TP X pins σ Q) X.xe s
def PW(X:Cx)(e:Expr)(t:TT):Prop:=
 ∀(whole:Sem Value)(pins:List (Addr×Obj))(s:Shared)(σ:St)(H:Hp)(Q:Bool->Hp->Prop),Inv X pins σ H s->t σ H Q->wpAny (model X.prog X.w) X.A (isTrue e X.env whole) (TP X pins σ Q) X.xe s
theorem PW.pt{X:Cx}{e:Expr}{t:TT}(h:PW X e t):PT X e t:=h _
def PA(X:Cx)(es:List Expr)(t:TA):Prop:=
 ∀(pos:Pos)(pins:List (Addr×Obj))(s:Shared)(σ:St)(H:Hp)(Q:List V->Hp->Prop),Inv X pins σ H s->t σ H Q->wpAny (model X.prog X.w) X.A (spliced (backTo pos (starEach es X.env))) (AP X pins σ Q) X.xe s
def PS(X:Cx)(st:Stmt)(t:TS):Prop:=
 ∀(pins:List (Addr×Obj))(s:Shared)(σ:St)(H:Hp)(D:Ends),Inv X pins σ H s->t D σ H->wpAny (model X.prog X.w) X.A (exec st X.env) (SP X pins D) X.xe s
def PSs(X:Cx)(st:List Stmt)(t:TS):Prop:=
 ∀(pins:List (Addr×Obj))(s:Shared)(σ:St)(H:Hp)(D:Ends),Inv X pins σ H s->t D σ H->wpAny (model X.prog X.w) X.A (execs st X.env) (SP X pins D) X.xe s
theorem thn{α:Type}{t:Sem α}{Q Q':α->Shared->Prop}{M:Model}{A:Around}{E:Value->Shared->Prop}{s:Shared}(h:wpAny M A t Q E s)(hQ:∀a s,Q a s->Q' a s):wpAny M A t Q' E s:=wpAny_mono h hQ λ_ _ x=>x
section
variable {X:Cx}
def tVar(i:Nat):TE:=λσ H Q=>∃v,σ[i]? =some (some v)/\Q v H
def tC(v:V):TE:=λ_ H Q=>Q v H
theorem Mz{i:Nat}{x:Str}{pos:Pos}(hN:X.N[i]? =some x)(hv:Vis X.env.scope x)(hd:(x==("__debug__":Str))=false:=by decide)(hcd:(x==("__classdict__":Str))=false:=by decide):PE X (.Name x pos) (tVar i):=by
 intro pins s σ H Q I h
 obtain⟨v,e,h⟩:=h
 obtain⟨m,hn,hl⟩:=I.loc
 obtain⟨u,r,l⟩:=hl i x v hN e hv
 have fin:EP X pins σ Q u s:=⟨v,H,I,r,h⟩
 rcases l with⟨hk,hm⟩|⟨hk,c,hc,hcell⟩
 .exact wpAny_Name (wpAny_loadName_local I.ok.kind hk hn hm fin) hd
 .rcases hk with hk|hk
  .exact wpAny_Name (wpAny_loadName_cell I.ok.kind hk hc hcell fin) hd
  .exact wpAny_Name (wpAny_loadName_free I.ok.kind hk hc hcell fin hcd) hd
theorem zp{i j pos}:PE X (.Constant (.int i) j pos) (tC (.int i)):=λ_ _ _ H _ I h=>wpAny_Constant_int ⟨.int i,H,I.tok _,⟨_,rfl⟩,h⟩
theorem PQ{b j pos}:PE X (.Constant (.bool b) j pos) (tC (.bl b)):=λ_ _ _ H _ I h=>Constant_bool ⟨.bl b,H,I,rfl,h⟩
def Gl(X:Cx)(x:Str):Prop:=X.env.kindOf x=some .globalImplicit
theorem JC{E:Value->Shared->Prop}{pins:List (Addr×Obj)}{s:Shared}{σ:St}{H:Hp}{x:Str}{u:Value}{pos:Pos}{Q:Value->Shared->Prop}(I:Inv X pins σ H s)(hg:Gl X x)(hm:X.mg x=some u)(h:Q u s)
  (hd:(x==("__debug__":Str))=false:=by decide):wpAny (model X.prog X.w) X.A (eval (.Name x pos) X.env) Q E s:=
 Calls.Name_function_global I.ok.kind hg (Calls.loadGlobal_global (by rw[I.ok.glob];exact I.mod.glob.keeps I.bk) hm h) hd
theorem lZ{E:Value->Shared->Prop}{pins:List (Addr×Obj)}{s:Shared}{σ:St}{H:Hp}{x:Str}{u:Value}{pos:Pos}{Q:Value->Shared->Prop}(I:Inv X pins σ H s)(hg:Gl X x)(hm:X.mg x=none)(hv:bootBuiltins x=some u)(h:Q u s)
  (hn:x≠"__name__":=by decide) (hd:(x==("__debug__":Str))=false:=by decide):wpAny (model X.prog X.w) X.A (eval (.Name x pos) X.env) Q E s:=by
 obtain⟨mb,h1,h2⟩:=I.mod.blt
 exact Calls.Name_function_global I.ok.kind hg (Calls.loadGlobal_builtin (by rw[I.ok.glob];exact I.mod.glob.keeps I.bk) hm (by rw[I.ok.blt];exact h1.keeps I.bk) ((h2 x hn).trans hv) h) hd
theorem Kp{x:Str}{v:V}{u:Value}{pos:Pos}(hg:Gl X x)(hm:X.mg x=none)(hv:bootBuiltins x=some u)(r:RelV v u)(hn:x≠"__name__":=by decide)(hd:(x==("__debug__":Str))=false:=by decide):PE X (.Name x pos) (tC v):=
 λ_ _ _ H _ I h=>lZ I hg hm hv ⟨v,H,I,r,h⟩ hn hd
variable {a b:Expr} {ta tb:TE} {pos:Pos}
theorem xJ(b:Expr){op:CmpOp}(h:op≠ .In)(h2:op≠ .NotIn):behindInMarks op b=false:=by
 have e1:(op==CmpOp.In)=false:=by cases op<;>first|rfl|exact absurd rfl h
 have e2:(op==CmpOp.NotIn)=false:=by cases op<;>first|rfl|exact absurd rfl h2
 cases b<;>simp[behindInMarks,e1,e2]
variable {tA tB':TT} {rest:List Expr}
def tAnd(t u:TT):TT:=λσ H Q=>t σ H λc H1=>if c=true then u σ H1 Q else Q false H1
def tOr(t u:TT):TT:=λσ H Q=>t σ H λc H1=>if c=true then Q true H1 else u σ H1 Q
def tNot(t:TT):TT:=λσ H Q=>t σ H λc H1=>Q (!c) H1
theorem HX(ha:PT X a tA):PW X (.BoolOp .And [a] pos) tA:=by
 intro wh pins s σ H Q I h
 refine isTrue_and (thn (ha pins s σ H Q I h) λc s1 e=>?_)
 cases c with
 |true=>exact isTrue_and_nil e
 |false=>exact e
theorem Od(ha:PT X a tA):PW X (.BoolOp .Or [a] pos) tA:=by
 intro wh pins s σ H Q I h
 refine isTrue_or (thn (ha pins s σ H Q I h) λc s1 e=>?_)
 cases c with
 |false=>exact isTrue_or_nil e
 |true=>exact e
theorem Lz(ha:PT X a tA)(hb:PW X (.BoolOp .And (b::rest) pos) tB'):PW X (.BoolOp .And (a::b::rest) pos) (tAnd tA tB'):=by
 intro wh pins s σ H Q I h
 refine isTrue_and (thn (ha pins s σ H _ I h) λc s1 zq7=>?_)
 obtain⟨H1,I1,q1⟩:=zq7
 cases c with
 |true=>exact hb wh pins s1 σ H1 Q I1 q1
 |false=>exact⟨H1,I1,q1⟩
theorem Rc(ha:PT X a tA)(hb:PW X (.BoolOp .Or (b::rest) pos) tB'):PW X (.BoolOp .Or (a::b::rest) pos) (tOr tA tB'):=by
 intro wh pins s σ H Q I h
 refine isTrue_or (thn (ha pins s σ H _ I h) λc s1 zq8=>?_)
 obtain⟨H1,I1,q1⟩:=zq8
 cases c with
 |true=>exact⟨H1,I1,q1⟩
 |false=>exact hb wh pins s1 σ H1 Q I1 q1
theorem Nv(ha:PT X a tA):PT X (.UnaryOp .Not a pos) (tNot tA):=by
 intro pins s σ H Q I h
 exact isTrue_not (ha pins s σ H (λc H1=>Q (!c) H1) I h)
def QJ(ta tb:TE):TE:=λσ H Q=>ta σ H λx H1=>∃c,x= .bl c/\if c=true then tb σ H1 Q else Q (.bl false) H1
def Rw(ta:TE):TE:=λσ H Q=>ta σ H λx H1=>∃c,x= .bl c/\Q (.bl (!c)) H1
theorem Mr{op}{t:TE}(h:PE X a t):PE X (.BoolOp op [a] pos) t:=λpins s σ H Q I hw=>BoolOp_one (h pins s σ H Q I hw)
theorem Pg(ha:PE X a ta)(hb:PE X (.BoolOp .And (b::rest) pos) tb):PE X (.BoolOp .And (a::b::rest) pos) (QJ ta tb):=by
 intro pins s σ H Q I h
 refine BoolOp_and (thn (ha pins s σ H _ I h) λv s1 zq9=>?_)
 obtain⟨x,H1,I1,r1,q1⟩:=zq9
 obtain⟨c,rfl,q1⟩:=q1
 cases r1
 refine wpAny_truthy_bool ?_
 cases c with
 |true=>exact hb pins s1 σ H1 Q I1 q1
 |false=>exact⟨.bl false,H1,I1,rfl,q1⟩
theorem Ln(ha:PE X a ta):PE X (.UnaryOp .Not a pos) (Rw ta):=by
 intro pins s σ H Q I h
 refine UnaryOp_ (thn (ha pins s σ H _ I h) λv s1 zq11=>?_)
 obtain⟨x,H1,I1,r1,q1⟩:=zq11
 obtain⟨c,rfl,q1⟩:=q1
 cases r1
 exact not_of (wpAny_truthy_bool ⟨.bl (!c),H1,I1,rfl,q1⟩)
end
def SqL(K:PySem.W.Frag)(H:Hp)(a:Addr)(xs:List V):Prop:=
 Rd H a (.lst xs)∨
  ∃(o:Obj)(its:Array Value)(n:Nat),K.lookup a=some o/\o.cls= .type "list"/\o.dict=none/\o.data= .seq its n/\its.size<=sizeLine/\Vals xs its.toList
def SqT(K:PySem.W.Frag)(H:Hp)(a:Addr)(xs:List V):Prop:=
 Rd H a (.tup xs)∨
  ∃(o:Obj)(its:Array Value)(n:Nat),K.lookup a=some o/\o.cls= .type "tuple"/\o.data= .seq its n/\its.size<=sizeLine/\Vals xs its.toList
def absV:Value->Option V
 | .none=>some .non
 | .bool b=>some (.bl b)
 | .int i _=>some (.int i)
 | .str x _=>some (.str x)
 | .bytes b _=>some (.byt b)
 | .float b _=>some (.flt b)
 | .ref a=>some (.ref a)
 | .type n=>some (.ty n)
 |_=>none
theorem RelV.abs{x:V}{u:Value}(r:RelV x u):absV u=some x:=by
 cases x with
 |non=>cases r;rfl
 |bl _=>cases r;rfl
 |int _=>obtain⟨t,rfl⟩:=r;rfl
 |str _=>obtain⟨t,rfl⟩:=r;rfl
 |byt _=>obtain⟨t,rfl⟩:=r;rfl
 |flt _=>obtain⟨t,rfl⟩:=r;rfl
 |ref _=>cases r;rfl
 |ty _=>cases r;rfl
theorem RelV.inj{x y:V}{u:Value}(r:RelV x u)(q:RelV y u):x=y:=Option.some.inj (r.abs.symm.trans q.abs)
theorem Vals.inj:∀{xs ys:List V}{us:List Value},Vals xs us->Vals ys us->xs=ys
 |_,_,_,.nil,.nil=>rfl
 |_,_,_,.cons r t,.cons r' t'=>by rw[r.inj r',Vals.inj t t']
section
variable {X:Cx} {pins:List (Addr×Obj)} {σ:St} {H:Hp} {s:Shared} {a:Addr} {xs ys:List V}
theorem SqL.of{K:PySem.W.Frag}(h:H a=some (.lst xs)):SqL K H a xs:=.inl (.inl h)
theorem Inv.list(I:Inv X pins σ H s)(h:SqL X.K H a xs):∃its:List Value,Vals xs its/\PlainL s.heap a its.toArray/\xs.length<=sizeLine:=by
 rcases h with h|⟨o,its,n,hk,hc,hd,hs,hz,r⟩
 .obtain⟨z,its,n,r,e⟩:=h.ok I.hok
  exact⟨its,r,⟨_,n,e,rfl,rfl,rfl⟩,z⟩
 .refine⟨its.toList,r,⟨o,n,I.kIn a o hk,hc,hd,by simpa using hs⟩,?_⟩
  have e:=r.length
  simp only[Array.length_toList]at e
  omega
theorem Inv.tuple(I:Inv X pins σ H s)(h:SqT X.K H a xs):∃its:List Value,Vals xs its/\IsTup s.heap a its.toArray/\xs.length<=sizeLine:=by
 rcases h with h|⟨o,its,n,hk,hc,hs,hz,r⟩
 .obtain⟨z,its,r,p⟩:=h.ok I.hok
  exact⟨its,r,p,z⟩
 .refine⟨its.toList,r,⟨o,I.kIn a o hk,hc,n,by simpa using hs⟩,?_⟩
  have e:=r.length
  simp only[Array.length_toList]at e
  omega
theorem Inv.list_inj(I:Inv X pins σ H s)(h:SqL X.K H a xs)(h':SqL X.K H a ys):xs=ys:=by
 obtain⟨its,r,⟨o,n,e,_,_,d⟩,_⟩:=I.list h
 obtain⟨its',r',⟨o',n',e',_,_,d'⟩,_⟩:=I.list h'
 rw[e]at e';cases e'
 rw[d]at d'
 injection d' with d1 _
 have:its=its':=by simpa using congrArg Array.toList d1
 subst this
 exact r.inj r'
theorem Inv.tuple_inj(I:Inv X pins σ H s)(h:SqT X.K H a xs)(h':SqT X.K H a ys):xs=ys:=by
 obtain⟨its,r,⟨o,e,_,n,d⟩,_⟩:=I.tuple h
 obtain⟨its',r',⟨o',e',_,n',d'⟩,_⟩:=I.tuple h'
 rw[e]at e';cases e'
 rw[d]at d'
 injection d' with d1 _
 have:its=its':=by simpa using congrArg Array.toList d1
 subst this
 exact r.inj r'
end
abbrev Cx.wish(X:Cx)(E:Value->Shared->Prop):Cx:={ X with xe:=E}
abbrev Cx.nox(X:Cx):Cx:=X.wish λ_ _=>False
theorem Cx.Ok.wish{X:Cx}(ok:X.Ok)(E:Value->Shared->Prop):(X.wish E).Ok:=
 ⟨ok.mod,ok.kind,ok.glob,ok.blt,ok.above,ok.inj,ok.has,ok.cab,ok.hd,ok.frames,ok.stk,ok.exf,ok.bs,ok.bsz,ok.noex,ok.exfs,ok.funs,ok.frf⟩
theorem Cx.Ok.unwish{X:Cx}{E:Value->Shared->Prop}(ok:(X.wish E).Ok):X.Ok:=
 ⟨ok.mod,ok.kind,ok.glob,ok.blt,ok.above,ok.inj,ok.has,ok.cab,ok.hd,ok.frames,ok.stk,ok.exf,ok.bs,ok.bsz,ok.noex,ok.exfs,ok.funs,ok.frf⟩
section
variable {X:Cx} {pins:List (Addr×Obj)} {σ:St} {H:Hp} {s:Shared} {E:Value->Shared->Prop}
theorem Inv.wish(I:Inv X pins σ H s)(E:Value->Shared->Prop):Inv (X.wish E) pins σ H s:=⟨I.ok.wish E,I.os,I.bare,I.base,I.loc,I.cell,I.free,I.freeC,I.pin,I.hok,I.len⟩
theorem Inv.unwish(I:Inv (X.wish E) pins σ H s):Inv X pins σ H s:=⟨I.ok.unwish,I.os,I.bare,I.base,I.loc,I.cell,I.free,I.freeC,I.pin,I.hok,I.len⟩
theorem SP.unwish{D:Ends}{f:Flow}{s':Shared}(h:SP (X.wish E) pins D f s'):SP X pins D f s':=by
 cases f with
 |next=>obtain⟨σ',H',I,q⟩:=h;exact⟨σ',H',I.unwish,q⟩
 |brk=>obtain⟨σ',H',I,q⟩:=h;exact⟨σ',H',I.unwish,q⟩
 |cont=>obtain⟨σ',H',I,q⟩:=h;exact⟨σ',H',I.unwish,q⟩
 |ret u=>obtain⟨v,σ',H',I,r,q⟩:=h;exact⟨v,σ',H',I.unwish,r,q⟩
theorem PSs.nox{st:List Stmt}{t:TS}(h:PSs X.nox st t):PSs X st t:=λpins s σ H D I hw=>
 wpAny_mono (h pins s σ H D (I.wish _) hw) (λ_ _ q=>q.unwish) λ_ _ z=>False.elim z
end
section
variable {X:Cx} {st:Stmt} {rest:List Stmt} {t u:TS} {e:Expr} {te:TE} {pos:Pos}
def Qj:TS:=λD σ H=>D.nx σ H
def tSeq(t u:TS):TS:=λD σ H=>t { D with nx:=u D} σ H
theorem Ku:PSs X [] Qj:=λ_ _ σ H _ I h=>wpAny_execs_nil ⟨σ,H,I,h⟩
theorem Hl(h1:PS X st t)(h2:PSs X rest u):PSs X (st::rest) (tSeq t u):=by
 intro pins s σ H D I h
 refine wpAny_execs_cons (thn (h1 pins s σ H { D with nx:=u D} I h) λf s1 q=>?_)
 cases f with
 |next=>
  obtain⟨σ',H',I',q⟩:=q
  exact h2 pins s1 σ' H' D I' q
 |ret v=>exact q
 |brk=>exact q
 |cont=>exact q
theorem JT(h1:PS X st t):PSs X [st] t:=by
 intro pins s σ H D I h
 refine wpAny_execs_cons (thn (h1 pins s σ H D I h) λf s1 q=>?_)
 cases f with
 |next=>exact wpAny_execs_nil q
 |ret v=>exact q
 |brk=>exact q
 |cont=>exact q
theorem Inv.quiet{pins:List (Addr×Obj)}{σ:St}{H:Hp}{s:Shared}(I:Inv X pins σ H s):interactive X.env=false:=by simp[interactive,I.ok.kind]
def Rx(te:TE):TS:=λD σ H=>te σ H λ_ H1=>D.nx σ H1
theorem Ji(he:PE X e te)(hs:swapsWith e none pos.line X.env=pure false:=by rfl):PS X (.Expr e pos) (Rx te):=by
 intro pins s σ H D I h
 exact wpAny_Expr_any (thn (he pins s σ H _ I h) λv s1 ⟨x,H1,I1,r1,q1⟩=>⟨σ,H1,I1,q1⟩) I.quiet hs
def tRet(te:TE):TS:=λD σ H=>te σ H D.rt
theorem Mv(he:PE X e te):PS X (.Return (some e) pos) (tRet te):=by
 intro pins s σ H D I h
 exact wpAny_Return_some (thn (he pins s σ H _ I h) λv s1 ⟨x,H1,I1,r1,q1⟩=>⟨x,σ,H1,I1,r1,q1⟩)
def tIfS(c:TT)(t u:TS):TS:=λD σ H=>c σ H λb H1=>if b=true then t D σ H1 else u D σ H1
theorem Qc{c:Expr}{a b:List Stmt}{tc:TT}(hc:PT X c tc)(ha:PSs X a t)(hb:PSs X b u):PS X (.If c a b pos) (tIfS tc t u):=by
 intro pins s σ H D I h
 refine wpAny_If (thn (hc pins s σ H _ I h) λd s1 zq13=>?_)
 obtain⟨H1,I1,q1⟩:=zq13
 cases d with
 |true=>exact ha pins s1 σ H1 D I1 q1
 |false=>exact hb pins s1 σ H1 D I1 q1
end
abbrev TG:=V->St->Hp->(St->Hp->Prop)->Prop
abbrev TGs:=List V->St->Hp->(St->Hp->Prop)->Prop
def PG(X:Cx)(target:Expr)(t:TG):Prop:=
 ∀(pins:List (Addr×Obj))(s:Shared)(σ:St)(H:Hp)(v:V)(u:Value)(Q:St->Hp->Prop),Inv X pins σ H s->RelV v u->t v σ H Q->
  wpAny (model X.prog X.w) X.A (assign target X.env u) (λ_ s'=>∃σ' H',Inv X pins σ' H' s'/\Q σ' H') X.xe s
def PGs(X:Cx)(ts:List Expr)(t:TGs):Prop:=
 ∀(pins:List (Addr×Obj))(s:Shared)(σ:St)(H:Hp)(vs:List V)(us:List Value)(Q:St->Hp->Prop),Inv X pins σ H s->Vals vs us->t vs σ H Q->
  wpAny (model X.prog X.w) X.A (assignInOrder ((assignEach ts X.env).map (·.2)) us) (λ_ s'=>∃σ' H',Inv X pins σ' H' s'/\Q σ' H') X.xe s
abbrev Mx:=V->V->V->Hp->(Hp->Prop)->Prop
def Rm(X:Cx)(t:Mx):Prop:=
 ∀(pins:List (Addr×Obj))(s:Shared)(σ:St)(H:Hp)(o i v:V)(ov iv u:Value)(Q:Hp->Prop),Inv X pins σ H s->RelV o ov->RelV i iv->RelV v u->t o i v H Q->
  wpAny (model X.prog X.w) X.A (setItem ov iv u) (λ_ s'=>∃H',Inv X pins σ H' s'/\Q H') X.xe s
section
variable {X:Cx} {pos:Pos}
def Dy(i:Nat):TG:=λv σ H Q=>Q (σ.set i (some v)) H
theorem HB{i:Nat}{x:Str}(hN:X.N.Nodup)(hi:X.N[i]? =some x)(hx:Loc X.env.scope x)(hf:X.fn x=true∨X.env.scope.names.lookup x=some .local:=by first|exact .inl rfl|exact .inr rfl|assumption):PG X (.Name x pos) (Dy i):=by
 intro pins s σ H v u Q I r h
 exact wpAny_assign_Name (jt I hN hi hx r (λs' I'=>⟨_,H,I',h⟩) hf)
def gNil:TGs:=λvs σ H Q=>vs=[]/\Q σ H
def Rv(t:TG)(u:TGs):TGs:=λvs σ H Q=>∃v r,vs=v::r/\t v σ H λσ' H'=>u r σ' H' Q
theorem IK:PGs X [] gNil:=by
 intro pins s σ H vs us Q I r h
 obtain⟨e,h⟩:=h
 subst e
 cases r
 exact assignInOrder_nil ⟨σ,H,I,h⟩
theorem Dp{e:Expr}{es:List Expr}{t:TG}{u:TGs}(h1:PG X e t)(h2:PGs X es u)
  (hs:(assignEach (e::es) X.env).map (·.2)=assign e X.env::(assignEach es X.env).map (·.2):=by rfl):PGs X (e::es) (Rv t u):=by
 intro pins s σ H vs us Q I r h
 obtain⟨v,vr,e1,h⟩:=h
 subst e1
 cases r with
 |cons r rr=>
  rw[hs]
  refine assignInOrder_cons (thn (h1 pins s σ H _ _ _ I r h) λ_ s1 zq14=>?_)
  obtain⟨σ1,H1,I1,q1⟩:=zq14
  exact h2 pins s1 σ1 H1 _ _ Q I1 rr q1
def gTup(K:PySem.W.Frag)(n:Nat)(t:TGs):TG:=λv σ H Q=>∃a xs,v= .ref a/\SqT K H a xs/\xs.length=n/\t xs σ H Q
theorem NQ{es:List Expr}{k:Nat}{t:TGs}{n:Nat}(hc:X.calm=true)(h:PGs X es t)
  (hn:(assignEach es X.env).length=n:=by rfl) (hst:(assignEach es X.env).findIdx? (·.1)=none:=by rfl):PG X (.Tuple es k pos) (gTup X.K n t):=by
 intro pins s σ H v u Q I r hw
 obtain⟨a,xs,e1,hq,hl,hw⟩:=hw
 subst e1
 cases r
 obtain⟨its,rv,ht,hz⟩:=I.tuple hq
 refine assign_Tuple_tuple (I.ok.hd hc) ht (by simp[hn,<-hl,rv.length]) hst λh' hx=>?_
 have I1:Inv X pins σ H { s with heap:=h'}:=I.kept (t':=s.toks) λb o e=>hx b o (Zk (Ze e)) e
 exact h pins _ σ H xs _ Q I1 (by simpa using rv) hw
def gSub(to ti:TE)(t:Mx):TG:=λv σ H Q=>to σ H λo H1=>ti σ H1 λi H2=>t o i v H2 λH3=>Q σ H3
theorem NZ{o i:Expr}{to ti:TE}{t:Mx}(ho:PE X o to)(hi:PE X i ti)(hs:Rm X t)
  (ha:∀v,assign (.Subscript o i pos) X.env v=(do
   let ov<-holding [v] (eval o X.env)
   let iv<-holding [v,ov] (eval i X.env)
   standAt pos
   holding [v,ov,iv] (setItem ov iv v)
   release [v,ov,iv] []):=by intro _;rfl):PG X (.Subscript o i pos) (gSub to ti t):=by
 intro pins s σ H v u Q I r h
 rw[ha]
 refine wpAny_bind (wpAny_holding (thn (ho pins s σ H _ I h) λov s1 zq15=>?_))
 obtain⟨x,H1,I1,r1,q1⟩:=zq15
 refine wpAny_bind (wpAny_holding (thn (hi pins s1 σ H1 _ I1 q1) λiv s2 zq16=>?_))
 obtain⟨y,H2,I2,r2,q2⟩:=zq16
 refine wpAny_bind (wpAny_standAt (wpAny_bind (wpAny_holding (thn (hs pins s2 σ H2 x y v ov iv u _ I2 r1 r2 r q2) λ_ s3 zq17=>?_))))
 obtain⟨H3,I3,q3⟩:=zq17
 exact wpAny_release ⟨σ,H3,I3,q3⟩
def Mj(te:TE)(g:TG):TS:=λD σ H=>te σ H λx H1=>g x σ H1 D.nx
theorem Hg{tg e:Expr}{te:TE}{g:TG}(he:PE X e te)(hg:PG X tg g)(hs:swapsWithSole [tg] e pos.line X.env=pure false:=by rfl)(hw:swappedStores [tg] e X.env=pure none:=by rfl)
  (h1:(assignEach [tg] X.env).map (·.2)=[assign tg X.env]:=by rfl):PS X (.Assign [tg] e pos) (Mj te g):=by
 intro pins s σ H D I h
 refine wpAny_Assign_stores (thn (he pins s σ H _ I h) λv s1 ⟨x,H1,I1,r1,q1⟩=>?_) hs hw
 rw[h1]
 exact thn (hg pins s1 σ H1 x v _ I1 r1 q1) λ_ s2 q=>q
theorem Ny{i:Nat}{x:Str}{e:Expr}{te:TE}{pos':Pos}(hN:X.N.Nodup)(hi:X.N[i]? =some x)(hx:Loc X.env.scope x)(he:PE X e te)(hs:swapsWith e (some (.Name x pos')) pos.line X.env=pure false:=by rfl)(hf:X.fn x=true∨X.env.scope.names.lookup x=some .local:=by first|exact .inl rfl|exact .inr rfl|assumption):
  PS X (.Assign [.Name x pos'] e pos) (Mj te (Dy i)):=by
 intro pins s σ H D I h
 refine wpAny_Assign_Name (thn (he pins s σ H _ I h) λv s1 zq18=>?_) hs
 obtain⟨y,H1,I1,r1,q1⟩:=zq18
 exact jt I1 hN hi hx r1 (λs2 I2=>⟨_,H1,I2,q1⟩) hf
def tPar(i j:Nat)(ta:TA):TS:=λD σ H=>ta σ H λvs H1=>∃v w,vs=[v,w]/\D.nx ((σ.set i (some v)).set j (some w)) H1
theorem Nq{i j:Nat}{x y:Str}{a b:Expr}{ta:TA}{px py pt:Pos}{kt k2 pt2}(hc:X.calm=true)(hN:X.N.Nodup)(hi:X.N[i]? =some x)(hj:X.N[j]? =some y)(hij:i≠j)
  (hx:X.env.scope.names.lookup x=some .local) (hy:X.env.scope.names.lookup y=some .local) (ha:PA X [a,b] ta)
  (hw:swappedStores [.Tuple [.Name x px,.Name y py] kt pt] (.Tuple [a,b] k2 pt2) X.env=pure (some [x,y]))
  (hs:swapsWithSole [.Tuple [.Name x px,.Name y py] kt pt] (.Tuple [a,b] k2 pt2) pos.line X.env=pure false:=by rfl):
  PS X (.Assign [.Tuple [.Name x px,.Name y py] kt pt] (.Tuple [a,b] k2 pt2) pos) (tPar i j ta):=by
 intro pins s σ H D I h
 rw[exec_Assign_arm]
 refine wpAny_bind (wpAny_standAt ?_)
 rw[hs]
 refine wpAny_bind (wpAny_pure ?_)
 rw[if_neg (by decide)]
 refine wpAny_bind (Tuple_ (thn (ha _ pins s σ H _ I h) λus s1 zq19=>?_))
 obtain⟨vs,H1,I1,r1,q1⟩:=zq19
 obtain⟨v,w,e1,q1⟩:=q1
 subst e1
 obtain⟨u1,u2,rfl,rv,rw'⟩:∃u1 u2,us=[u1,u2]/\RelV v u1/\RelV w u2:=by
  cases r1 with
  |cons p q=>
   cases q with
   |cons p' q'=>
    cases q'
    exact⟨_,_,rfl,p,p'⟩
 refine wpAny_newObj_type ?_ (by show 2<=sizeLine;decide)
 have I2:Inv X pins σ H1 { s1 with heap:=s1.heap.push { cls:=.type "tuple",data:=.seq [u1,u2].toArray} }:=I1.kept (t':=s1.toks) λb o e=>Zb _ e
 rw[hw]
 refine wpAny_bind (wpAny_pure ?_)
 show wpAny (model X.prog X.w) X.A (do rule "assign.swapped-stores";let items<-unpackItems (.ref s1.heap.objs.size) 2 none;assignInOrder [λv=>bindName X.env y v,λv=>bindName X.env x v] items.reverse;pure Flow.next) _ _ _
 refine wpAny_bind (wpAny_rule (wpAny_bind (unpackItems_tuple (items:= #[u1,u2]) (I.ok.hd hc) (IsTup.new s1.heap _) λh' hx'=>?_)))
 have I3:=I2.kept (h':=h') (t':=s1.toks) λb o e=>hx' b o (Zk (Ze e)) e
 show wpAny _ _ (assignInOrder [λv=>bindName X.env y v,λv=>bindName X.env x v] [u2,u1] >>= λ_=>pure Flow.next) _ _ _
 refine wpAny_bind (assignInOrder_cons (wpAny_bindName (jt I3 hN hj (.inl hy) rw' (λs2 I4=>?_) (.inr hy))))
 refine assignInOrder_cons (wpAny_bindName (jt I4 hN hi (.inl hx) rv (λs3 I5=>assignInOrder_nil (wpAny_pure ?_)) (.inr hx)))
 rw[List.set_comm _ _ (Ne.symm hij)]at I5
 exact⟨_,H1,I5,q1⟩
end
section
variable {X:Cx} {pos:Pos}
def Ni(c:TT)(tb:TS):TS:=λD σ H=>∃W:Nat->St->Hp->Prop,(∃m,W m σ H)/\∀m σ H,W m σ H->
 c σ H λb H1=>if b=true then∃N:St->Hp->Prop,(∀σ' H',N σ' H'->∃m',m'<m/\W m' σ' H')/\tb { D with nx:=N,ct:=N,bk:=D.nx} σ H1 else D.nx σ H1
theorem Gx{c:Expr}{body:List Stmt}{tc:TT}{tb:TS}(hp:PassesOwn (model X.prog X.w) X.A X.env X.xe)(hc:PT X c tc)(hb:PSs X body tb):PS X (.While c body [] pos) (Ni tc tb):=by
 intro pins s σ H D I h
 obtain⟨W,⟨m0,w0⟩,turn⟩:=h
 refine wpAny_While (codeAny_whileLoop (λn s'=>∃σ' H',Inv X pins σ' H' s'/\W n σ' H') ?_ m0 ⟨σ,H,I,w0⟩)
 rintro n s1 ⟨σ1,H1,I1,w1⟩
 refine wpAny_passesOwn hp (thn (hc pins s1 σ1 H1 _ I1 (turn n σ1 H1 w1)) λb s2 zq27=>?_)
 obtain⟨H2,I2,q2⟩:=zq27
 cases b with
 |true=>
  obtain⟨N,hN,q2⟩:=q2
  rw[if_pos rfl]
  refine wpAny_passesOwn hp (thn (hb pins s2 σ1 H2 _ I2 q2) λf s3 q3=>?_)
  cases f with
  |next=>
   obtain⟨σ3,H3,I3,n3⟩:=q3
   obtain⟨m',hm,w3⟩:=hN σ3 H3 n3
   exact⟨m',hm,σ3,H3,I3,w3⟩
  |cont=>
   obtain⟨σ3,H3,I3,n3⟩:=q3
   obtain⟨m',hm,w3⟩:=hN σ3 H3 n3
   exact⟨m',hm,σ3,H3,I3,w3⟩
  |brk=>exact q3
  |ret v=>exact q3
 |false=>
  rw[if_neg Zr]
  exact wpAny_execs_nil ⟨σ1,H2,I2,q2⟩
end
structure It where
 go:Nat->Hp->Prop
 yld:Nat->Hp->V->Hp->Prop
 stop:Nat->Hp->Prop
def jk(X:Cx)(pins:List (Addr×Obj))(H:Hp)(b:Addr):Prop:=
 H b=none/\b≠X.env.locals/\b∉X.fs/\(b∈X.ex∨X.s₀.heap.objs.size<=b)/\(∀x c,X.env.cells.lookup x=some c->c≠b)/\∀p∈X.pn++pins,p.1≠b
theorem Inv.fpOk{X:Cx}{pins:List (Addr×Obj)}{σ:St}{H H':Hp}{s:Shared}{b:Addr}(I:Inv X pins σ H s)(hb:s.heap.objs.size<=b)(hn:H' b=none):jk X pins H' b:=by
 refine⟨hn,Nat.ne_of_gt (Zc I.lt hb),I.nofs hb,.inr (Zl I.sz hb),λx c e z=>?_,λp hp z=>?_⟩
 .obtain⟨v,q⟩:=I.cell x c e
  exact absurd (Zc q.lt (by rw[z];exact hb)) (Nat.lt_irrefl _)
 .exact absurd (Zc (Ze (I.pin p hp).1) (by rw[z];exact hb)) (Nat.lt_irrefl _)
structure Turn(P:Program)(w:World)(K:PySem.W.Frag)(tg:Expr)(J:It)(fp:List Addr)(it:Addr)(tn:Nat->Heap->Prop):Prop where
 mem:it∈fp
 obj:∀i h,tn i h->∀b∈fp,∃o,h.get? b=some o/\∀v,o.data≠ .cell v
 keep:∀i h h',tn i h->(∀b∈fp,∀o,h.get? b=some o->h'.get? b=some o)->tn i h'
 item:∀(X:Cx),X.prog=P->X.w=w->X.K=K->X.calm=true->∀(i:Nat)(pins:List (Addr×Obj))(s:Shared)(σ:St)(H:Hp)(E:Value->Shared->Prop),Inv X pins σ H s->(∀b∈fp,jk X pins H b)->tn i s.heap->J.go i H->
  wpAny (model P w) X.A (pyNext (.ref it)) (λr s1=>∃u,r=some u/\
   wpAny (model P w) X.A (letOwnedTupleGo tg (.ref it) u) (λ_ s2=>∃x H',Inv X pins σ H' s2/\RelV x u/\J.yld i H x H'/\tn (i+1) s2.heap/\∀b∈fp,H' b=none) E s1) E s
 done:∀(X:Cx),X.prog=P->X.w=w->X.K=K->X.calm=true->∀(i:Nat)(pins:List (Addr×Obj))(s:Shared)(σ:St)(H:Hp)(E:Value->Shared->Prop),Inv X pins σ H s->(∀b∈fp,jk X pins H b)->tn i s.heap->J.stop i H->
  wpAny (model P w) X.A (pyNext (.ref it)) (λr s1=>r=none/\Inv X pins σ H s1) E s
 self:∀(A:Around)(i:Nat)(s:Shared)(Q:Value->Shared->Prop)(E:Value->Shared->Prop),tn i s.heap->Q (.ref it) s->wpAny (model P w) A (pyIter (.ref it)) Q E s
abbrev TI:=St->Hp->(It->Hp->Prop)->Prop
def PIE(X:Cx)(pins:List (Addr×Obj))(σ:St)(tg:Expr)(R:It->Hp->Prop)(itv:Value)(s2:Shared):Prop:=
 ∃(it:Addr)(fp:List Addr)(tn:Nat->Heap->Prop)(J:It)(H':Hp),itv= .ref it/\Inv X pins σ H' s2/\Turn X.prog X.w X.K tg J fp it tn/\tn 0 s2.heap/\(∀b∈fp,jk X pins H' b)/\R J H'
def PI(X:Cx)(tg iter:Expr)(wi:TI):Prop:=
 ∀(pins:List (Addr×Obj))(s:Shared)(σ:St)(H:Hp)(R:It->Hp->Prop),Inv X pins σ H s->wi σ H R->
  wpAny (model X.prog X.w) X.A (eval iter X.env) (λv s1=>wpAny (model X.prog X.w) X.A (pyIter v) (PIE X pins σ tg R) X.xe s1) X.xe s
theorem Ff{M:Model}{A:Around}{E:Value->Shared->Prop}{s:Shared}{tg:Expr}{it:Addr}{u:Value}{o:Obj}{n:String}{vs:Array Value}{Q:Unit->Shared->Prop}(ho:s.heap.get? it=some o)(hc:o.cls= .type n)(hd:o.data= .fields vs)
  (hn:["enumerate","zip","dict_itemiterator","dict_reverseitemiterator","odict_iterator","itertools.zip_longest","itertools.pairwise"].contains n=false) (hQ:Q () s):wpAny M A (letOwnedTupleGo tg (.ref it) u) Q E s:=by
 unfold letOwnedTupleGo
 cases tg<;>first
  |exact wpAny_pure hQ
  |(cases u<;>first
   |exact wpAny_pure hQ
   |(refine wpAny_bind (wpAny_load ho ?_)
     rw[hc,hd]
     show wpAny M A (if(["enumerate","zip","dict_itemiterator","dict_reverseitemiterator","odict_iterator","itertools.zip_longest","itertools.pairwise"].contains n&&vs[0]? ==some (rawInt _))=true then _ else _) Q E s
     rw[if_neg (by intro h;rw[hn,Bool.false_and]at h;cases h)]
     exact wpAny_pure hQ))
def Itl(K:PySem.W.Frag)(a:Addr):It:=
 ⟨λi H=>∃xs x,SqL K H a xs/\xs[i]? =some x,λi H x H'=>H'=H/\∀xs,SqL K H a xs->xs[i]? =some x,λi H=>∃xs,SqL K H a xs/\xs.length<=i⟩
def Itt(K:PySem.W.Frag)(a:Addr):It:=
 ⟨λi H=>∃xs x,SqT K H a xs/\xs[i]? =some x,λi H x H'=>H'=H/\∀xs,SqT K H a xs->xs[i]? =some x,λi H=>∃xs,SqT K H a xs/\xs.length<=i⟩
def Itr(lo:Int)(n:Nat):It:=⟨λi _=>i<n,λi H x H'=>H'=H/\x= .int (lo+i),λi _=>n<=i⟩
theorem uD{P:Program}{w:World}{K:PySem.W.Frag}{tg:Expr}(a it:Addr):Turn P w K tg (Itl K a) [it] it (λi h=>h.IsListIter it a i) where
 mem:=by simp
 obj:=λi h st b hb=>by
  have e:b=it:=by simpa using hb
  subst e
  obtain⟨o,e,c,d⟩:=st
  exact⟨o,e,λv z=>by rw[d]at z;cases z⟩
 keep:=λi h h' st k=>st.at λo e=>k it (by simp) o e
 item:=by
  intro X hP hw hK hc i pins s σ H E I hf st hg
  subst hP hw hK
  obtain⟨xs,x,hq,hx⟩:=hg
  obtain⟨its,rv,p,hz⟩:=I.list hq
  obtain⟨u,hu,ru⟩:=rv.get hx
  obtain⟨f0,f1,f2,f3,f4,f5⟩:=hf it (by simp)
  refine wpAny_pyNext_list_item st p.isList (x:=u) (by simpa using hu) λh' st' sb=>?_
  have I1:Inv X pins σ H { s with heap:=h'}:=I.turned (t':=s.toks) (λb o hb e=>(sb.2 b hb).trans e) f0 f1 f3 f4 f5
  obtain⟨o,e,c,d⟩:=id st'
  exact⟨u,rfl,Ff (s:={ s with heap:=h'}) e c d (by decide) ⟨x,H,I1,ru,⟨rfl,λys hy=>by rw[I.list_inj hy hq];exact hx⟩,st',λb hb=>(hf b hb).1⟩⟩
 done:=by
  intro X hP hw hK hc i pins s σ H E I hf st hg
  subst hP hw hK
  obtain⟨xs,hq,hx⟩:=hg
  obtain⟨its,rv,p,hz⟩:=I.list hq
  obtain⟨f0,f1,f2,f3,f4,f5⟩:=hf it (by simp)
  have hl:=rv.length
  exact wpAny_pyNext_list_end (I.ok.hd hc) st p.isList (by simp;omega) λh' eb=>⟨rfl,I.turned (t':=s.toks) (λb o hb e=>eb b o hb e) f0 f1 f3 f4 f5⟩
 self:=λ_ _ _ _ _ st h=>wpAny_pyIter_listiter st h
theorem sZ{P:Program}{w:World}{K:PySem.W.Frag}{tg:Expr}(a it:Addr):Turn P w K tg (Itt K a) [it] it (λi h=>h.IsTupleIter it a i) where
 mem:=by simp
 obj:=λi h st b hb=>by
  have e:b=it:=by simpa using hb
  subst e
  obtain⟨o,e,c,d⟩:=st
  exact⟨o,e,λv z=>by rw[d]at z;cases z⟩
 keep:=λi h h' st k=>st.at λo e=>k it (by simp) o e
 item:=by
  intro X hP hw hK hc i pins s σ H E I hf st hg
  subst hP hw hK
  obtain⟨xs,x,hq,hx⟩:=hg
  obtain⟨its,rv,p,hz⟩:=I.tuple hq
  obtain⟨u,hu,ru⟩:=rv.get hx
  obtain⟨f0,f1,f2,f3,f4,f5⟩:=hf it (by simp)
  refine wpAny_pyNext_tuple_item st (show s.heap.IsTuple a its.toArray from p) (x:=u) (by simpa using hu) λh' st' sb=>?_
  have I1:Inv X pins σ H { s with heap:=h'}:=I.turned (t':=s.toks) (λb o hb e=>(sb.2 b hb).trans e) f0 f1 f3 f4 f5
  obtain⟨o,e,c,d⟩:=id st'
  exact⟨u,rfl,Ff (s:={ s with heap:=h'}) e c d (by decide) ⟨x,H,I1,ru,⟨rfl,λys hy=>by rw[I.tuple_inj hy hq];exact hx⟩,st',λb hb=>(hf b hb).1⟩⟩
 done:=by
  intro X hP hw hK hc i pins s σ H E I hf st hg
  subst hP hw hK
  obtain⟨xs,hq,hx⟩:=hg
  obtain⟨its,rv,p,hz⟩:=I.tuple hq
  obtain⟨f0,f1,f2,f3,f4,f5⟩:=hf it (by simp)
  have hl:=rv.length
  exact wpAny_pyNext_tuple_end (I.ok.hd hc) st (show s.heap.IsTuple a its.toArray from p) (by simp;omega) λh' eb=>⟨rfl,I.turned (t':=s.toks) (λb o hb e=>eb b o hb e) f0 f1 f3 f4 f5⟩
 self:=λ_ _ _ _ _ st h=>wpAny_pyIter_tupleiter st h
theorem yX{P:Program}{w:World}{K:PySem.W.Frag}{tg:Expr}(it:Addr)(lo:Int)(n:Nat):Turn P w K tg (Itr lo n) [it] it (λi h=>IsRangeIter h it (lo+(i:Nat)*1) ((n:Int)-(i:Nat)) 1) where
 mem:=by simp
 obj:=λi h st b hb=>by
  have e:b=it:=by simpa using hb
  subst e
  exact⟨_,st,λv z=>by
   have z':Data.fields _=Data.cell v:=z
   cases z'⟩
 keep:=λi h h' st k=>k it (by simp) _ st
 item:=by
  intro X hP hw hK hc i pins s σ H E I hf st hg
  subst hP hw hK
  obtain⟨f0,f1,f2,f3,f4,f5⟩:=hf it (by simp)
  have W:=Walks.range (prog:=X.prog) (w:=X.w) (I.ok.hd hc) it lo 1 n
  refine W.item i s _ _ hg st λv h' tk hv st' kk=>?_
  obtain⟨t,rfl⟩:=hv
  have I1:Inv X pins σ H { s with heap:=h',toks:=tk}:=I.turned (λb o hb e=>kk b o (by simpa using hb) e) f0 f1 f3 f4 f5
  refine⟨_,rfl,Ff (s:={ s with heap:=h',toks:=tk}) (n:="range_iterator") st' rfl rfl (by decide) ⟨.int (lo+i),H,I1,⟨t,?_⟩,⟨rfl,rfl⟩,st',λb hb=>(hf b hb).1⟩⟩
  rw[Int.mul_one]
 done:=by
  intro X hP hw hK hc i pins s σ H E I hf st hg
  subst hP hw hK
  obtain⟨f0,f1,f2,f3,f4,f5⟩:=hf it (by simp)
  exact wpAny_pyNext_range_end (I.ok.hd hc) st (by have:n<=i:=hg;omega) λh' eb=>⟨rfl,I.turned (t':=s.toks) (λb o hb e=>eb b o hb e) f0 f1 f3 f4 f5⟩
 self:=λ_ _ _ _ _ st h=>wpAny_pyIter_rangeiter st h
section
variable {X:Cx} {tg:Expr}
theorem Fd{pins:List (Addr×Obj)}{σ:St}{H:Hp}{s:Shared}{R:It->Hp->Prop}{E:Value->Shared->Prop}{lo hi:Int}{t u v:Tok}{tk:Nat}(I:Inv X pins σ H s)(h1: -(2 ^ 62)<=lo)(h2:lo<2 ^ 62)(h3: -(2 ^ 62)<=hi)(h4:hi<2 ^ 62)
  (q:R (Itr lo (hi-lo).toNat) H):wpAny (model X.prog X.w) X.A (pyIter (.ref s.heap.objs.size)) (PIE X pins σ tg R) E { s with heap:=s.heap.push { cls:=.type "range",data:=.fields #[.int lo t,.int hi u,.int 1 v] },toks:=tk}:=by
 refine wpAny_pyIter_range (IsRange.new ..) (small_one h1 h2 h3 h4) ?_
 have I1:Inv X pins σ H { s with heap:=s.heap.push { cls:=.type "range",data:=.fields #[.int lo t,.int hi u,.int 1 v] },toks:=tk}:=I.kept λb o e=>Zb _ e
 refine⟨(s.heap.push { cls:=.type "range",data:=.fields #[.int lo t,.int hi u,.int 1 v] }).objs.size,[(s.heap.push { cls:=.type "range",data:=.fields #[.int lo t,.int hi u,.int 1 v] }).objs.size],_,_,H,rfl,
  I1.kept (t':=tk) λb o e=>Zb _ e,yX _ lo (hi-lo).toNat,?_,λb hb=>?_,q⟩
 .have e1:lo+((0:Nat):Int)*1=lo:=by simp
  have e2:(((hi-lo).toNat:Nat):Int)-((0:Nat):Int)=Builtin.Range.rangeSize lo hi 1:=by rw[rangeSize_one];split<;>omega
  show IsRangeIter _ _ (lo+((0:Nat):Int)*1) ((((hi-lo).toNat:Nat):Int)-((0:Nat):Int)) 1
  rw[e1,e2]
  exact Zf _ rfl
 .have e:b=(s.heap.push { cls:=.type "range",data:=.fields #[.int lo t,.int hi u,.int 1 v] }).objs.size:=by simpa using hb
  subst e
  exact I1.fpOk (Zg _) (I1.hok.fresh (Zg _))
def Qg(ta:TA):TI:=λσ H R=>ta σ H λvs H1=>∃j:Int,vs=[.int j]/\ -(2 ^ 62)<=j/\j<2 ^ 62/\R (Itr 0 j.toNat) H1
theorem Cy{a:Expr}{ta:TA}{p pos:Pos}(hg:Gl X "range")(hm:X.mg "range"=none)(ha:PA X [a] ta)(hs:starEach [a] X.env=[(false,eval a X.env)]:=by rfl):PI X tg (.Call (.Name "range" p) [a] [] pos) (Qg ta):=by
 intro pins s σ H R I h
 refine Call_ (lZ I hg hm boot_range (PyProof.Rows.callWith_type1 (thn (ha pos pins s σ H _ I h) λus s1 ⟨vs,H1,I1,r1,q1⟩=>?_) hs rfl))
 obtain⟨j,e,q1,q2,q⟩:=q1
 subst e
 cases r1 with
 |cons r rr=>
  cases rr
  obtain⟨t,rfl⟩:=r
  exact call_range_1 (Fd I1 (by omega) (by omega) q1 q2 (by simpa using q))
def tFor(wi:TI)(g:TG)(tb:TS):TS:=λD σ H=>wi σ H λJ H1=>∃W:Nat->Nat->St->Hp->Prop,(∃m,W 0 m σ H1)/\∀i m σ H,W i m σ H->
 (J.stop i H/\D.nx σ H)∨(J.go i H/\∃N:St->Hp->Prop,(∀σ' H',N σ' H'->∃m',m'<m/\W (i+1) m' σ' H')/\∀x H',J.yld i H x H'->g x σ H' λσ2 H2=>tb { D with nx:=N,ct:=N,bk:=D.nx} σ2 H2)
def jm(fp:List Addr)(h:Heap):List (Addr×Obj):=fp.filterMap λb=>(h.get? b).map λo=>(b,o)
theorem bN{fp:List Addr}{h:Heap}{b:Addr}{o:Obj}(hb:b∈fp)(e:h.get? b=some o):(b,o)∈jm fp h:=List.mem_filterMap.mpr ⟨b,hb,by rw[e];rfl⟩
theorem uy{fp:List Addr}{h:Heap}{p:Addr×Obj}(hp:p∈jm fp h):p.1∈fp/\h.get? p.1=some p.2:=by
 obtain⟨b,hb,e⟩:=List.mem_filterMap.mp hp
 cases q:h.get? b with
 |none=>rw[q]at e;cases e
 |some o=>
  rw[q]at e
  have e':(b,o)=p:=Option.some.inj e
  subst e'
  exact⟨hb,q⟩
theorem Inv.pinned{pins:List (Addr×Obj)}{σ:St}{H:Hp}{s:Shared}{fp:List Addr}(I:Inv X pins σ H s)(hf:∀b∈fp,jk X pins H b)(ho:∀b∈fp,∃o,s.heap.get? b=some o/\∀v,o.data≠ .cell v):Inv X (pins++jm fp s.heap) σ H s:=
 I.pins_of λp hp=>(Zm.mp hp).elim (λz=>I.pin p (Zn _ z)) λz=>by
  obtain⟨hb,e⟩:=uy z
  obtain⟨f0,f1,f2,_⟩:=hf p.1 hb
  obtain⟨o,e',d⟩:=ho p.1 hb
  rw[e]at e';cases e'
  exact⟨e,f0,f1,f2,d⟩
theorem Inv.unpinned{pins pl:List (Addr×Obj)}{σ:St}{H:Hp}{s:Shared}(I:Inv X (pins++pl) σ H s):Inv X pins σ H s:=I.pins_of λp hp=>I.pin p (Zn _ (List.mem_append_left _ hp))
theorem Nt{iter:Expr}{body:List Stmt}{wi:TI}{g:TG}{tb:TS}{pos:Pos}(hp:PassesOwn (model X.prog X.w) X.A X.env X.xe)(hc:X.calm=true)(hi:PI X tg iter wi)(hg:PG X tg g)(hb:PSs X body tb)
  (hs:∀x,foldedSetIterable iter X.env x=pure x:=by intro _;rfl):PS X (.For tg iter body [] pos) (tFor wi g tb):=by
 intro pins s σ H D I h
 refine wpAny_For (thn (hi pins s σ H _ I h) λv s1 h1=>thn h1 λitv s2 h2=>?_) hs
 obtain⟨it,fp,tn,J,H2,e,I2,T,st2,f2,W,⟨m0,w0⟩,turn⟩:=h2
 subst e
 have stat:∀{H':Hp},(∀b∈fp,H' b=none)->∀b∈fp,jk X pins H' b:=λhn b hb=>⟨hn b hb,(f2 b hb).2⟩
 refine codeAny_forLoop_any (λn s'=>∃i σ' H',Inv X pins σ' H' s'/\tn i s'.heap/\(∀b∈fp,H' b=none)/\W i n σ' H') ?_ m0 ⟨0,σ,H2,I2,st2,λb hb=>(f2 b hb).1,w0⟩
 rintro n s3 ⟨i,σ3,H3,I3,st3,fr3,w3⟩
 rcases turn i n σ3 H3 w3 with⟨stop,qn⟩|⟨go,N,hN,step⟩
 .refine wpAny_passesOwn hp (thn (T.done X rfl rfl rfl hc i pins s3 σ3 H3 X.xe I3 (stat fr3) st3 stop) λr s4 zq30=>?_)
  obtain⟨hr,I4⟩:=zq30
  subst hr
  exact wpAny_execs_nil ⟨σ3,H3,I4,qn⟩
 .refine wpAny_passesOwn hp (thn (T.item X rfl rfl rfl hc i pins s3 σ3 H3 X.xe I3 (stat fr3) st3 go) λr s4 zq31=>?_)
  obtain⟨u,hr,h4⟩:=zq31
  subst hr
  refine wpAny_passesOwn hp (thn h4 λ_ s5 zq32=>?_)
  obtain⟨x,H5,I5,r5,y5,st5,fr5⟩:=zq32
  have I5':=I5.pinned (stat fr5) (T.obj _ _ st5)
  refine wpAny_passesOwn hp (thn (hg _ s5 σ3 H5 x u _ I5' r5 (step x H5 y5)) λ_ s6 zq33=>?_)
  obtain⟨σ6,H6,I6,q6⟩:=zq33
  refine wpAny_passesOwn hp (thn (hb _ s6 σ6 H6 _ I6 q6) λf s7 q7=>?_)
  have again:∀{σ7:St}{H7:Hp},Inv X (pins++jm fp s5.heap) σ7 H7 s7->N σ7 H7->∃m,m<n/\∃i σ' H',Inv X pins σ' H' s7/\tn i s7.heap/\(∀b∈fp,H' b=none)/\W i m σ' H':=λ{σ7 H7} I7 n7=>by
   obtain⟨m',hm,w7⟩:=hN σ7 H7 n7
   refine⟨m',hm,i+1,σ7,H7,I7.unpinned,T.keep _ _ _ st5 λb hb o e=>(I7.pin (b,o) (Zn _ (Zn _ (bN hb e)))).1,λb hb=>?_,w7⟩
   obtain⟨o,e,d⟩:=T.obj _ _ st5 b hb
   exact(I7.pin (b,o) (Zn _ (Zn _ (bN hb e)))).2.1
  cases f with
  |next=>obtain⟨σ7,H7,I7,n7⟩:=q7;exact again I7 n7
  |cont=>obtain⟨σ7,H7,I7,n7⟩:=q7;exact again I7 n7
  |brk=>obtain⟨σ7,H7,I7,q7⟩:=q7;exact⟨σ7,H7,I7.unpinned,q7⟩
  |ret v=>obtain⟨x7,σ7,H7,I7,r7,q7⟩:=q7;exact⟨x7,σ7,H7,I7.unpinned,r7,q7⟩
end
abbrev R2:=V->V->Hp->VK->Prop
def OpR(X:Cx)(f:Value->Value->Sem Value)(r:R2):Prop:=
 ∀(pins:List (Addr×Obj))(s:Shared)(σ:St)(H:Hp)(x y:V)(v u:Value)(Q:VK),Inv X pins σ H s->RelV x v->RelV y u->r x y H Q->
  wpAny (model X.prog X.w) X.A (f v u) (EP X pins σ Q) X.xe s
def UnR(X:Cx)(f:Value->Sem Value)(r:V->Hp->VK->Prop):Prop:=
 ∀(pins:List (Addr×Obj))(s:Shared)(σ:St)(H:Hp)(x:V)(v:Value)(Q:VK),Inv X pins σ H s->RelV x v->r x H Q->
  wpAny (model X.prog X.w) X.A (f v) (EP X pins σ Q) X.xe s
def iI(X:Cx)(f:Value)(r:List V->Hp->VK->Prop):Prop:=
 ∀(pins:List (Addr×Obj))(s:Shared)(σ:St)(H:Hp)(xs:List V)(us:List Value)(Q:VK),Inv X pins σ H s->Vals xs us->r xs H Q->
  wpAny (model X.prog X.w) X.A (call f us) (EP X pins σ Q) X.xe s
def TruR(X:Cx)(r:V->Hp->(Bool->Hp->Prop)->Prop):Prop:=
 ∀(pins:List (Addr×Obj))(s:Shared)(σ:St)(H:Hp)(x:V)(v:Value)(Q:Bool->Hp->Prop),Inv X pins σ H s->RelV x v->r x H Q->
  wpAny (model X.prog X.w) X.A (truthy v) (TP X pins σ Q) X.xe s
def tOp(r:R2)(ta tb:TE):TE:=λσ H Q=>ta σ H λx H1=>tb σ H1 λy H2=>r x y H2 Q
def tUn(r:V->Hp->VK->Prop)(ta:TE):TE:=λσ H Q=>ta σ H λx H1=>r x H1 Q
def rI(C:Int->Int->Prop)(g:Int->Int->V):R2:=λx y H Q=>∃i j,x= .int i/\y= .int j/\C i j/\Q (g i j) H
def rI0(g:Int->Int->V):R2:=λx y H Q=>∃i j,x= .int i/\y= .int j/\Q (g i j) H
def rU(g:Int->V):V->Hp->VK->Prop:=λx H Q=>∃i,x= .int i/\Q (g i) H
section
variable {X:Cx} {a b c:Expr} {ta tb tc:TE} {pos:Pos}
theorem Ma(ha:PE X a ta)(hb:PE X b tb){pins:List (Addr×Obj)}{s:Shared}{σ:St}{H:Hp}{R:V->V->Hp->Prop}(I:Inv X pins σ H s)
  (h:ta σ H λx H1=>tb σ H1 λy H2=>R x y H2) {Q:Value->Shared->Prop} {f:Value->Value->Sem Value}
  (hf:∀v u s2 x y H2,Inv X pins σ H2 s2->RelV x v->RelV y u->R x y H2->wpAny (model X.prog X.w) X.A (f v u) Q X.xe s2):
  wpAny (model X.prog X.w) X.A (eval a X.env) (λv s₁=>wpAny (model X.prog X.w) X.A (eval b X.env) (λu s₂=>wpAny (model X.prog X.w) X.A (f v u) Q X.xe s₂) X.xe s₁) X.xe s:=by
 refine thn (ha pins s σ H _ I h) λv s1 zq34=>?_
 obtain⟨x,H1,I1,r1,q1⟩:=zq34
 refine thn (hb pins s1 σ H1 _ I1 q1) λu s2 zq35=>?_
 obtain⟨y,H2,I2,r2,q2⟩:=zq35
 exact hf v u s2 x y H2 I2 r1 r2 q2
theorem KQ{op:Operator}{r:R2}(ho:OpR X (binaryOp op) r)(ha:PE X a ta)(hb:PE X b tb):PE X (.BinOp a op b pos) (tOp r ta tb):=by
 intro pins s σ H Q I h
 exact wpAny_BinOp (Ma ha hb I h λv u s2 x y H2 I2 rx ry q=>ho pins s2 σ H2 x y v u Q I2 rx ry q)
theorem KJ{op:UnaryOp}{r:V->Hp->VK->Prop}(ho:UnR X (unaryOp op) r)(ha:PE X a ta):PE X (.UnaryOp op a pos) (tUn r ta):=by
 intro pins s σ H Q I h
 exact UnaryOp_ (thn (ha pins s σ H _ I h) λv s1 ⟨x,H1,I1,r1,q1⟩=>ho pins s1 σ H1 x v Q I1 r1 q1)
theorem opI{f:Value->Value->Sem Value}{C:Int->Int->Prop}{g:Int->Int->Int}
  (rule:∀(i j:Int)(t u:Tok)(s:Shared)(Q:Value->Shared->Prop)(E:Value->Shared->Prop),C i j->Q (.int (g i j) s.toks) { s with toks:=s.toks+1}->wpAny (model X.prog X.w) X.A (f (.int i t) (.int j u)) Q E s):
  OpR X f (rI C λi j=>.int (g i j)):=by
 intro pins s σ H x y v u Q I rx ry h
 obtain⟨i,j,rfl,rfl,hc,q⟩:=h
 obtain⟨t,rfl⟩:=rx
 obtain⟨t',rfl⟩:=ry
 exact rule i j t t' s _ _ hc ⟨.int (g i j),H,I.tok _,⟨_,rfl⟩,q⟩
theorem PJ{f:Value->Value->Sem Value}{g:Int->Int->Int}
  (rule:∀(i j:Int)(t u:Tok)(s:Shared)(Q:Value->Shared->Prop)(E:Value->Shared->Prop),Q (.int (g i j) s.toks) { s with toks:=s.toks+1}->wpAny (model X.prog X.w) X.A (f (.int i t) (.int j u)) Q E s):
  OpR X f (rI0 λi j=>.int (g i j)):=by
 intro pins s σ H x y v u Q I rx ry h
 obtain⟨i,j,rfl,rfl,q⟩:=h
 obtain⟨t,rfl⟩:=rx
 obtain⟨t',rfl⟩:=ry
 exact rule i j t t' s _ _ ⟨.int (g i j),H,I.tok _,⟨_,rfl⟩,q⟩
theorem Oi{f:Value->Value->Sem Value}{g:Int->Int->Bool}
  (rule:∀(i j:Int)(t u:Tok)(s:Shared)(Q:Value->Shared->Prop)(E:Value->Shared->Prop),Q (.bool (g i j)) s->wpAny (model X.prog X.w) X.A (f (.int i t) (.int j u)) Q E s):
  OpR X f (rI0 λi j=>.bl (g i j)):=by
 intro pins s σ H x y v u Q I rx ry h
 obtain⟨i,j,rfl,rfl,q⟩:=h
 obtain⟨t,rfl⟩:=rx
 obtain⟨t',rfl⟩:=ry
 exact rule i j t t' s _ _ ⟨.bl (g i j),H,I,rfl,q⟩
theorem OJ:OpR X (binaryOp .Add) (rI0 λi j=>.int (i+j)):=PJ λ_ _ _ _ _ _ _ q=>add_int q
theorem Nu:OpR X (binaryOp .Sub) (rI0 λi j=>.int (i-j)):=PJ λ_ _ _ _ _ _ _ q=>sub_int q
theorem Kc:OpR X (binaryOp .Mod) (rI (λ_ j=>j≠0) λi j=>.int (i.fmod j)):=opI λ_ _ _ _ _ _ _ hc q=>mod_int' hc q
theorem unI{f:Value->Sem Value}{g:Int->Int}
  (rule:∀(i:Int)(t:Tok)(s:Shared)(Q:Value->Shared->Prop)(E:Value->Shared->Prop),Q (.int (g i) s.toks) { s with toks:=s.toks+1}->wpAny (model X.prog X.w) X.A (f (.int i t)) Q E s):
  UnR X f (rU λi=>.int (g i)):=by
 intro pins s σ H x v Q I rx h
 obtain⟨i,rfl,q⟩:=h
 obtain⟨t,rfl⟩:=rx
 exact rule i t s _ _ ⟨.int (g i),H,I.tok _,⟨_,rfl⟩,q⟩
theorem Gy:UnR X (unaryOp .USub) (rU λi=>.int (-i)):=unI λ_ _ _ _ _ q=>neg_int q
end
section
variable {X:Cx} {a b c:Expr} {ta tb tc:TE} {pos:Pos}
theorem Qf:OpR X (compareOp .Lt) (rI0 λi j=>.bl (decide (i<j))):=Oi λ_ _ _ _ _ _ _ q=>lt_int q
theorem Rj:OpR X (compareOp .Gt) (rI0 λi j=>.bl (decide (j<i))):=Oi λ_ _ _ _ _ _ _ q=>gt_int q
theorem Qw:OpR X (compareOp .GtE) (rI0 λi j=>.bl (decide (j<=i))):=Oi λ_ _ _ _ _ _ _ q=>ge_int q
theorem OpR.or{f:Value->Value->Sem Value}{r r':R2}(h:OpR X f r)(h':OpR X f r'):OpR X f (λx y H Q=>r x y H Q∨r' x y H Q):=by
 intro pins s σ H x y v u Q I rx ry q
 rcases q with q|q
 .exact h pins s σ H x y v u Q I rx ry q
 .exact h' pins s σ H x y v u Q I rx ry q
theorem Ie{op:CmpOp}{r:R2}(ho:OpR X (compareOp op) r)(ha:PE X a ta)(hb:PE X b tb)(hm:behindInMarks op b=false):PE X (.Compare a [op] [b] pos) (tOp r ta tb):=by
 intro pins s σ H Q I h
 exact wpAny_Compare1 (Ma ha hb I h λv u s2 x y H2 I2 rx ry q=>ho pins s2 σ H2 x y v u Q I2 rx ry q) hm
def Rp(t:TE):TT:=λσ H Q=>t σ H λx H'=>∃k,x= .bl k/\Q k H'
theorem Kl{op:CmpOp}{r:R2}(ho:OpR X (compareOp op) r)(ha:PE X a ta)(hb:PE X b tb)(hm:behindInMarks op b=false):PT X (.Compare a [op] [b] pos) (Rp (tOp r ta tb)):=by
 intro pins s σ H Q I h
 refine wpAny_isTrue_Compare1 (thn (ha pins s σ H _ I h) λv s1 ⟨x,H1,I1,r1,q1⟩=>thn (hb pins s1 σ H1 _ I1 q1) λu s2 ⟨y,H2,I2,r2,q2⟩=>
  thn (ho pins s2 σ H2 x y v u _ I2 r1 r2 q2) λc s3 ⟨z,H3,I3,r3,k,e,q3⟩=>?_) hm
 subst e
 cases r3
 exact wpAny_truthy_bool ⟨H3,I3,q3⟩
def MN(K:PySem.W.Frag)(x:V)(H:Hp)(k:Bool):Prop:=
 match x with
 | .non=>k=false
 | .bl b=>k=b
 | .int i=>k=(i != 0)
 | .str y=>y.length<=sizeLine/\k=((y.length:Int) != 0)
 | .byt y=>y.size<=sizeLine/\k=((y.size:Int) != 0)
 | .ref p=>(∃xs,SqL K H p xs/\k= !xs.isEmpty)∨(∃xs,SqT K H p xs/\k= !xs.isEmpty)∨∃kvs,H p=some (.dK kvs)/\k= !kvs.isEmpty
 |_=>False
theorem zF{κ:Type}{kvs:List (κ×V)}{vs:List (κ×Value)}(r:KV kvs vs):(!vs.isEmpty)= !kvs.isEmpty:=by
 cases r<;>rfl
theorem qR{xs:List V}{its:List Value}(r:Vals xs its):(!its.toArray.isEmpty)= !xs.isEmpty:=by
 cases r<;>simp
theorem nU:(sizeLine:Nat)<2 ^ 63:=by rw[sizeLine_eq];decide
theorem Ng:TruR X (λx H Q=>∃k,MN X.K x H k/\Q k H):=by
 intro pins s σ H x v Q I rx h
 obtain⟨k,e,q⟩:=h
 have hl:=nU
 have hs:sizeLine=16777216:=sizeLine_eq
 cases x with
 |non=>
  cases rx
  have e':k=false:=e
  subst e'
  exact truthy_none ⟨H,I,q⟩
 |bl b=>
  cases rx
  have e':k=b:=e
  subst e'
  exact wpAny_truthy_bool ⟨H,I,q⟩
 |int i=>
  obtain⟨t,rfl⟩:=rx
  have e':k=(i != 0):=e
  subst e'
  exact PySem.P.truthy_int ⟨H,I,q⟩
 |str y=>
  obtain⟨t,rfl⟩:=rx
  obtain⟨hy,e'⟩:y.length<=sizeLine/\k=((y.length:Int) != 0):=e
  subst e'
  exact PySem.P.truthy_str (by omega) ⟨H,I.tok _,q⟩
 |byt y=>
  obtain⟨t,rfl⟩:=rx
  obtain⟨hy,e'⟩:y.size<=sizeLine/\k=((y.size:Int) != 0):=e
  subst e'
  exact PySem.W.truthy_bytes (by omega) ⟨H,I.tok _,q⟩
 |ref p=>
  cases rx
  have e':(∃xs,SqL X.K H p xs/\k= !xs.isEmpty)∨(∃xs,SqT X.K H p xs/\k= !xs.isEmpty)∨∃kvs,H p=some (.dK kvs)/\k= !kvs.isEmpty:=e
  rcases e' with⟨xs,hx,e'⟩|⟨xs,hx,e'⟩|⟨kvs,hx,e'⟩
  .subst e'
   obtain⟨its,r,pl,hz⟩:=I.list hx
   have hlen:=r.length
   exact wpAny_truthy_list pl.isList (by simp only[Zd];omega) ⟨H,I.tok _,by rw[qR r];exact q⟩
  .subst e'
   obtain⟨its,r,pl,hz⟩:=I.tuple hx
   have hlen:=r.length
   exact truthy_tuple pl (by simp only[Zd];omega) ⟨H,I.tok _,by rw[qR r];exact q⟩
  .subst e'
   obtain⟨hz,hS,vs,r,m⟩:kvs.length<=sizeLine/\(p==sysModules)=false/\∃vs,KV kvs vs/\s.heap.DictOf (vW X.prog X.w) p vs:=I.hok p _ hx
   have hlen:kvs.length=vs.length:=Paired.length r
   exact wpAny_truthy_dict hS m (by omega) ⟨H,I.tok _,by rw[zF r];exact q⟩
 |_=>exact(show False from e).elim
theorem Hb(ha:PE X a ta)(he:∀whole,isTrue a X.env whole=(do let v<-whole;standAt a.pos;holding [v] (truthy v))):
  PT X a (λσ H Q=>ta σ H λx H'=>∃k,MN X.K x H' k/\Q k H'):=by
 intro pins s σ H Q I h
 exact isTrue_plain (thn (ha pins s σ H _ I h) λv s1 ⟨x,H1,I1,r1,q1⟩=>Ng pins s1 σ H1 x v Q I1 r1 q1) (he _)
theorem yN:OpR X (binaryOp .Add) (λx y H Q=>∃i j,x= .str i/\y= .str j/\i.length+j.length<=sizeLine/\Q (.str (i++j)) H):=by
 intro pins s σ H x y v u Q I rx ry h
 obtain⟨i,j,rfl,rfl,hz,q⟩:=h
 obtain⟨t,rfl⟩:=rx
 obtain⟨t',rfl⟩:=ry
 exact add_str (λt' tk=>⟨.str (i++j),H,I.tok _,⟨_,rfl⟩,q⟩) hz
theorem vals1{x:V}{us:List Value}(r:Vals [x] us):∃u,us=[u]/\RelV x u:=by
 cases r with
 |cons r1 r2=>cases r2;exact⟨_,rfl,r1⟩
theorem vals2{x y:V}{us:List Value}(r:Vals [x,y] us):∃u w',us=[u,w']/\RelV x u/\RelV y w':=by
 cases r with
 |cons r1 r2=>
  cases r2 with
  |cons r3 r4=>cases r4;exact⟨_,_,rfl,r1,r3⟩
theorem DK:iI X (.builtin "abs") (λxs H Q=>∃i,xs=[.int i]/\Q (.int (if i<0 then -i else i)) H):=by
 intro pins s σ H xs us Q I r h
 obtain⟨i,rfl,q⟩:=h
 obtain⟨u,rfl,t,rfl⟩:=vals1 r
 exact call_abs_int λu tk=>⟨.int (if i<0 then -i else i),H,I.tok _,⟨_,rfl⟩,q⟩
theorem Cz(hc:X.calm=true):iI X (.builtin "max") (λxs H Q=>∃i j,xs=[.int i,.int j]/\Q (.int (if j>i then j else i)) H):=by
 intro pins s σ H xs us Q I r h
 obtain⟨i,j,rfl,q⟩:=h
 obtain⟨u,w',rfl,⟨t,rfl⟩,⟨t',rfl⟩⟩:=vals2 r
 refine max_two_ints (I.ok.hd hc) λh' tk k=>⟨_,H,I.kept k,?_,q⟩
 by_cases hj:j>i
 .rw[if_pos hj,if_pos hj];exact⟨_,rfl⟩
 .rw[if_neg hj,if_neg hj];exact⟨_,rfl⟩
theorem Bv(hc:X.calm=true):iI X (.builtin "min") (λxs H Q=>∃i j,xs=[.int i,.int j]/\Q (.int (if j<i then j else i)) H):=by
 intro pins s σ H xs us Q I r h
 obtain⟨i,j,rfl,q⟩:=h
 obtain⟨u,w',rfl,⟨t,rfl⟩,⟨t',rfl⟩⟩:=vals2 r
 refine min_two_ints (I.ok.hd hc) λh' tk k=>⟨_,H,I.kept k,?_,q⟩
 by_cases hj:j<i
 .rw[if_pos hj,if_pos hj];exact⟨_,rfl⟩
 .rw[if_neg hj,if_neg hj];exact⟨_,rfl⟩
end
def Gm(f:Str)(v:V):List (Str×V)->List (Str×V)
 | []=>[(f,v)]
 |(g,x)::r=>if g=f then(g,v)::r else(g,x)::Gm f v r
structure cL(k:Nat)(A:Around):Prop where
 hd:A.handled=none
 dp:A.depth+3*k+5<recursionLimit
 un:A.units+16*k+200<cLine
theorem cL.mono{j k:Nat}{A:Around}(r:cL k A)(h:j<=k):cL j A:=⟨r.hd,by have:=r.dp;omega,by have:=r.un;omega⟩
theorem cL.deeper{k:Nat}{A:Around}(r:cL (k+1) A)(env:Env):cL k (A.deeper env):=
 ⟨r.hd,by have:=r.dp;show A.depth+1+3*k+5<_;omega,by have:=r.un;show A.units+3+16*k+200<_;omega⟩
theorem cL.depth{k:Nat}{A:Around}(r:cL k A):A.depth<recursionLimit:=by have:=r.dp;omega
def tNil:TA:=λ_ H Q=>Q [] H
def QH(ta:TE)(tr:TA):TA:=λσ H Q=>ta σ H λx H1=>tr σ H1 λxs H2=>Q (x::xs) H2
section
variable {X:Cx} {e:Expr} {es:List Expr} {te:TE} {t:TA} {pos:Pos}
theorem vG:PA X [] tNil:=λ_ _ _ _ H Q I h=>Calls.spliced_nil ⟨[],H,I,.nil,h⟩
theorem oW(ha:PE X e te)(hr:PA X es t)(hs:starEach (e::es) X.env=(false,eval e X.env)::starEach es X.env:=by rfl):PA X (e::es) (QH te t):=by
 intro pos pins s σ H Q I h
 rw[hs]
 show wpAny _ _ (spliced ((false,eval e X.env)::backTo pos (starEach es X.env))) _ _ s
 refine Calls.spliced_cons (thn (ha pins s σ H _ I h) λu s1 zq46=>?_)
 obtain⟨x,H1,I1,r1,q1⟩:=zq46
 exact thn (hr pos pins s1 σ H1 _ I1 q1) λus s2 ⟨xs,H2,I2,r2,q2⟩=>⟨x::xs,H2,I2,.cons r1 r2,q2⟩
def tTup(t:TA):TE:=λσ H Q=>t σ H λxs H1=>xs.length<=sizeLine/\∀p,H1 p=none->Q (.ref p) (upd H1 p (.tup xs))
def tLst(t:TA):TE:=λσ H Q=>t σ H λxs H1=>xs.length<=sizeLine/\∀p,H1 p=none->Q (.ref p) (upd H1 p (.lst xs))
theorem Ml{x1}(h:PA X es t):PE X (.Tuple es x1 pos) (tTup t):=by
 intro pins s σ H Q I hq
 refine wpAny_Tuple_spliced (thn (h pos pins s σ H _ I hq) λus s1 ⟨xs,H1,I1,r,z,q⟩=>⟨by rw[<-r.length];exact z,?_⟩)
 have hf:H1 s1.heap.objs.size=none:=I1.hok.fresh (Zg _)
 refine⟨.ref s1.heap.objs.size,upd H1 s1.heap.objs.size (.tup xs),I1.laid (t':=s1.toks) (λb u e=>Zb _ e) (Zg _) ?_,rfl,q _ hf⟩
 exact⟨z,us,r,⟨_,Zf _ rfl,rfl,_,rfl⟩⟩
theorem Dm(h:PA X es t):PE X (.List es pos) (tLst t):=by
 intro pins s σ H Q I hq
 refine wpAny_List_spliced (thn (h pos pins s σ H _ I hq) λus s1 ⟨xs,H1,I1,r,z,q⟩=>⟨by rw[<-r.length];exact z,?_⟩)
 have hf:H1 s1.heap.objs.size=none:=I1.hok.fresh (Zg _)
 refine⟨.ref s1.heap.objs.size,upd H1 s1.heap.objs.size (.lst xs),I1.laid (t':=s1.toks) (λb u e=>Zb _ e) (Zg _) ?_,rfl,q _ hf⟩
 exact⟨z,us,0,r,Zf _ rfl⟩
end
abbrev Sp:=List V->Hp->VK->XK->Prop
abbrev CXT:=List Env->Hp->Shared->XK->Value->Shared->Prop
structure Ik(P:Program)(w:World)(K:PySem.W.Frag)(mg:Str->Option Value)(base:Heap)(A:Around)(outer:List Env)(s:Shared)(H:Hp):Prop where
 frames:A.frames=some outer
 mod:Mod K mg base
 bs:∀b o,base.get? b=some o->s.heap.get? b=some o/\H b=none
 bsz:base.objs.size<=s.heap.objs.size
 funs:s.heap.FunFrames base outer
 frf:∀b∈frs outer,H b=none
 hok:HOk P w H s.heap
 bare:AllBare s.gens
def CE(outer:List Env)(P:Program)(w:World)(H:Hp)(s:Shared)(Q:VK)(u:Value)(s':Shared):Prop:=
 ∃v H',s'.os=s.os/\GK s.gens s'.gens/\Un (frs outer) [] H H' s.heap s'.heap/\HOk P w H' s'.heap/\RelV v u/\Q v H'
def CR(CX:CXT)(outer:List Env)(P:Program)(w:World)(H:Hp)(s:Shared)(Q:VK)(E:XK)(r:Result)(s':Shared):Prop:=
 match r with
 | .ok (.ret u)=>CE outer P w H s Q u s'
 | .ok _=>False
 | .error e=>CX outer H s E e s'
structure qp(P:Program)(w:World)(K:PySem.W.Frag)(mg:Str->Option Value)(base:Heap)(CX:CXT)(k:Nat)(f:Addr)(fd:FuncData)(ps:List Str)(sp:Sp):Prop where
 len:∀vs H Q E,sp vs H Q E->vs.length=ps.length
 run:∀(A:Around)(outer:List Env)(s:Shared)(H:Hp)(args:Args)(us:List Value)(vs:List V)(Q:VK)(E:XK),cL k A->Ik P w K mg base A outer s H->BindsTo s fd args (ps.zip us)->Vals vs us->sp vs H Q E->
  codeAny (model P w) A (.call (.ref f) args) (CR CX outer P w H s Q E) s
theorem qp.imp{P:Program}{w:World}{K:PySem.W.Frag}{mg:Str->Option Value}{base:Heap}{CX:CXT}{k:Nat}{f:Addr}{fd:FuncData}{ps:List Str}{sp sp':Sp}(F:qp P w K mg base CX k f fd ps sp)
  (h:∀vs H Q E,sp' vs H Q E->sp vs H Q E):qp P w K mg base CX k f fd ps sp':=
 ⟨λvs H Q E q=>F.len vs H Q E (h _ _ _ _ q),λA outer s H args us vs Q E hr he hb hv hs=>F.run A outer s H args us vs Q E hr he hb hv (h _ _ _ _ hs)⟩
section
variable {X:Cx} {pins:List (Addr×Obj)} {σ:St} {H:Hp} {s s':Shared}
theorem Inv.env0(I:Inv X pins σ H s):Ik X.prog X.w X.K X.mg X.base X.A X.stack s H:=
 ⟨I.ok.frames,I.ok.mod,I.bs,Zl I.ok.bsz I.sz,I.stack,I.stkFree,I.hok,I.bare.bare⟩
theorem Inv.after{Q:VK}{u:Value}(I:Inv X pins σ H s)(h:CE X.stack X.prog X.w H s Q u s'):EP X pins σ Q u s':=by
 obtain⟨v,H',os,bare,un,hok,r,q⟩:=h
 obtain⟨hh,g,d,t,os'⟩:=s'
 obtain rfl:os'=s.os:=os
 exact⟨v,H',I.call (h':=hh) (g':=g) (d':=d) (t':=t) (ch:=[]) un hok bare (λb z=>absurd z (by simp)),r,q⟩
end
def Ro(sp:Sp)(dvs:List V)(E:XK)(t:TA):TE:=λσ H Q=>t σ H λvs H1=>sp (vs++dvs) H1 Q E
def Binds(K:PySem.W.Frag)(fd:FuncData)(ps:List Str)(ds:List Value):Prop:=
 ∀(s:Shared)(us:List Value),K.In s.heap->(us++ds).length=ps.length->BindsTo s fd ⟨us,[]⟩ (ps.zip (us++ds))
theorem Binds.all{K:PySem.W.Frag}{fd:FuncData}{ps:List Str}(h:∀us:List Value,us.length=ps.length->bindArgs fd ⟨us,[]⟩=pure (ps.zip us)):Binds K fd ps []:=λs us _ hl=>by
 rw[List.append_nil]at hl ⊢
 exact .of_eq (h us hl)
def zL(CX:CXT)(X:Cx)(E:XK):Prop:=∀(pins:List (Addr×Obj))(σ:St)(H:Hp)(s:Shared)(e:Value)(s':Shared),Inv X pins σ H s->CX X.stack H s E e s'->X.xe e s'
section
variable {X:Cx} {CX:CXT} {k:Nat} {f C:Addr} {fd:FuncData} {ps:List Str} {sp:Sp} {dvs:List V} {ds:List Value} {E:XK} {x m:Str} {p pos apos:Pos} {e o:Expr} {es:List Expr} {ta:TE} {t:TA}
theorem Mh{pins:List (Addr×Obj)}{σ:St}{H:Hp}{s:Shared}{Q:VK}{us:List Value}{vs:List V}(F:qp X.prog X.w X.K X.mg X.base CX k f fd ps sp)(hr:cL k X.A)(hb:Binds X.K fd ps ds)(hd:Vals dvs ds)(hx:zL CX X E)
  (I:Inv X pins σ H s) (r:Vals vs us) (h:sp (vs++dvs) H Q E):wpAny (model X.prog X.w) X.A (call (.ref f) us) (EP X pins σ Q) X.xe s:=by
 have r2:Vals (vs++dvs) (us++ds):=r.append hd
 have hl:(us++ds).length=ps.length:=by rw[<-r2.length];exact F.len _ _ _ _ h
 refine wpAny_call (codeAny_mono (F.run X.A X.stack s H ⟨us,[]⟩ (us++ds) (vs++dvs) Q E hr I.env0 (hb s us I.kIn hl) r2 h) λr s' hq=>?_)
 cases r with
 |error e=>exact hx pins σ H s e s' I hq
 |ok fl=>
  cases fl with
  |ret u=>exact I.after hq
  |next=>exact False.elim hq
  |brk=>exact False.elim hq
  |cont=>exact False.elim hq
theorem JN(F:qp X.prog X.w X.K X.mg X.base CX k f fd ps sp)(hr:cL k X.A)(hg:Gl X x)(hm:X.mg x=some (.ref f))(hk:PySem.W.keepIn X.K (.ref f)=true)(hb:Binds X.K fd ps ds)(hd:Vals dvs ds)(hx:zL CX X E)
  (ha:PA X (e::es) t) (hdb:(x==("__debug__":Str))=false:=by decide) (he:starEach (e::es) X.env=(false,eval e X.env)::starEach es X.env:=by rfl) (hpl:(backTo pos (starEach es X.env)).any (·.1)=false:=by rfl):
  PE X (.Call (.Name x p) (e::es) [] pos) (Ro sp dvs E t):=by
 intro pins s σ H Q I h
 refine wpAny_Call_Name_kw (JC I hg hm ?_ hdb)
 refine PySem.W.callWith_K (h₀:=X.base) I.ok.mod.kin hk (thn (ha pos pins s σ H _ I h) λus s1 ⟨vs,H1,I1,r,q⟩=>⟨I1.kIn,?_⟩) he hpl
 exact Mh F hr hb hd hx I1 r q
end
structure bx(N P:List Str)(sc:Scope):Prop where
 kind:sc.kind= .function
 co:sc.isCoroutine=false
 gen:sc.isGenerator=false
 nd:N.Nodup
 pre:N.take P.length=P
 par:∀x∈P,sc.names.lookup x=some .local∨sc.names.lookup x=some .cell
 nofree:∀y∈sc.names,y.2≠ .free
theorem uE{kindOf:Str->Option NameKind}{x:Str}:∀{binds:List (Str×Value)}{m:Str->Option Value},(∀v,(x,v)∉binds)->bindL kindOf binds m x=m x
 | [],_,_=>rfl
 |(n,v)::r,m,h=>by
  unfold bindL
  rw[uE λw hw=>h w (List.mem_cons_of_mem _ hw)]
  split
  .have:x≠n:=by rintro rfl;exact h v List.mem_cons_self
   simp[this]
  .rfl
theorem uR{kindOf:Str->Option NameKind}{x:Str}:∀{binds:List (Str×Value)}{m:Str->Option Value},(∀v,(x,v)∉binds)->bindC kindOf binds m x=m x
 | [],_,_=>rfl
 |(n,v)::r,m,h=>by
  unfold bindC
  rw[uR λw hw=>h w (List.mem_cons_of_mem _ hw)]
  split
  .rfl
  .have:x≠n:=by rintro rfl;exact h v List.mem_cons_self
   simp[this]
theorem uU{kindOf:Str->Option NameKind}{x:Str}{v:Value}:∀{P:List Str}{vs:List Value}{i:Nat}{m:Str->Option Value},P.Nodup->P[i]? =some x->vs[i]? =some v->kindOf x=some .local->
  bindL kindOf (P.zip vs) m x=some v
 | [],_,_,_,_,h,_,_=>by simp at h
 |_::_,[],_,_,_,_,h,_=>by simp at h
 |p::P,w::vs,0,m,nd,h1,h2,hk=>by
  simp at h1 h2;subst h1;subst h2
  show bindL kindOf ((p,w)::P.zip vs) m p=_
  unfold bindL
  rw[uE λv hv=>(List.nodup_cons.mp nd).1 (List.of_mem_zip hv).1,if_pos hk]
  simp
 |p::P,w::vs,i+1,m,nd,h1,h2,hk=>by
  show bindL kindOf ((p,w)::P.zip vs) m x=_
  unfold bindL
  exact uU (i:=i) (List.nodup_cons.mp nd).2 (by simpa using h1) (by simpa using h2) hk
theorem uY{kindOf:Str->Option NameKind}{x:Str}{v:Value}:∀{P:List Str}{vs:List Value}{i:Nat}{m:Str->Option Value},P.Nodup->P[i]? =some x->vs[i]? =some v->kindOf x≠some .local->
  bindC kindOf (P.zip vs) m x=some v
 | [],_,_,_,_,h,_,_=>by simp at h
 |_::_,[],_,_,_,_,h,_=>by simp at h
 |p::P,w::vs,0,m,nd,h1,h2,hk=>by
  simp at h1 h2;subst h1;subst h2
  show bindC kindOf ((p,w)::P.zip vs) m p=_
  unfold bindC
  rw[uR λv hv=>(List.nodup_cons.mp nd).1 (List.of_mem_zip hv).1,if_neg hk]
  simp
 |p::P,w::vs,i+1,m,nd,h1,h2,hk=>by
  show bindC kindOf ((p,w)::P.zip vs) m x=_
  unfold bindC
  exact uY (i:=i) (List.nodup_cons.mp nd).2 (by simpa using h1) (by simpa using h2) hk
def start(N:List Str)(vs:List V):St:=vs.map some++List.replicate (N.length-vs.length) none
def zE(CX:CXT)(P:Program)(w:World)(K:PySem.W.Frag)(mg:Str->Option Value)(base:Heap)(N:List Str)(qual:Str)(scope:Scope)(f:Addr)(cd:Value)(A:Around)(outer:List Env)(s:Shared)(H:Hp)(E:XK):Cx where
 prog:=P
 w:=w
 K:=K
 mg:=mg
 base:=base
 A:=A.deeper (envOfC qual scope s.heap.objs.size f cd)
 N:=N
 s₀:=s
 H₀:=H
 env:=envOfC qual scope s.heap.objs.size f cd
 outer:=outer
 stack:=envOfC qual scope s.heap.objs.size f cd::outer
 ex:=[]
 calm:=true
 fn:=λ_=>true
 pn:=[]
 xe:=λe s'=>wpAny (model P w) (A.deeper (envOfC qual scope s.heap.objs.size f cd)) (leaving (envOfC qual scope s.heap.objs.size f cd) e) (λ_ s''=>CX outer H s E e s'') (λe' s''=>CX outer H s E e' s'') s'
theorem yI{sc:Scope}{n:Nat}{x:Str}(h:sc.names.lookup x=some .cell):∃c,(cellsFrom n sc.names []).lookup x=some c:=by
 have q:=PySem.W.cellsFrom_some sc.names n [] (.inl h)
 exact Option.isSome_iff_exists.mp q
theorem Cr{CX:CXT}{P:Program}{w:World}{K:PySem.W.Frag}{mg:Str->Option Value}{base:Heap}{N ps:List Str}{qual:Str}{scope:Scope}{f:Addr}{cd:Value}{A:Around}{outer:List Env}{s s1:Shared}{H:Hp}{E:XK}{us:List Value}{vs:List V}
  (S:bx N ps scope) (hd:A.handled=none) (e0:Ik P w K mg base A outer s H) (hl:vs.length=ps.length) (r:Vals vs us)
  (x:InCallC s s.heap.objs.size (bindL (envOfC qual scope s.heap.objs.size f cd).kindOf (ps.zip us) λ_=>none) (cellsFrom (s.heap.objs.size+1) scope.names []) (bindC (envOfC qual scope s.heap.objs.size f cd).kindOf (ps.zip us) λ_=>none) s1):
  Inv (zE CX P w K mg base N qual scope f cd A outer s H E) [] (start N vs) H s1:=by
 have hpl:ps.length<=N.length:=by have:=congrArg List.length S.pre;rw[List.length_take]at this;omega
 obtain⟨h1,tk,rfl,hk⟩:=x.done
 have noA:∀b:Addr,b∉(zE CX P w K mg base N qual scope f cd A outer s H E).ex:=λb z=>absurd (show b∈([]:List Addr)from z) (by simp)
 refine⟨⟨e0.mod,S.kind,rfl,rfl,Zg _,λy z c h1 h2=>?_,λy hy=>?_,λy c _ h=>?_,λ_=>hd,Around.frames_deeper e0.frames,.inr ⟨rfl,rfl⟩,λb z=>absurd z (noA b),e0.bs,e0.bsz,λb _ _=>noA b,λb z=>absurd z (noA b),e0.funs,e0.frf⟩,
  rfl,GK.refl e0.bare,Un.kept hk,⟨_,x.toInCall.ns,λi y v h1 h2 h3=>?_⟩,λy c h=>⟨_,x.cell y c h⟩,e0.hok.fresh (Zg _),λy c h=>?_,λp hp=>absurd (show p∈([]:List (Addr×Obj))from hp) (by simp),e0.hok.kept hk,?_⟩
 .exact name_of_addr x.apart (Zt h1) (Zt h2)
 .have hy:scope.names.lookup y=some .cell∨scope.names.lookup y=some .free:=hy
  rcases hy with hy|hy
  .exact yI hy
  .exact absurd rfl (S.nofree _ (Zt hy))
 .exact Nat.le_of_lt (x.above y c (Zt h))
 .have hi:i<vs.length:=by
   unfold start at h2
   by_cases hi:i<vs.length
   .exact hi
   .rw[List.getElem?_append_right (by simpa using hi)]at h2
    rw[List.getElem?_replicate]at h2
    split at h2<;>cases h2
  have ha:vs[i]? =some v:=by
   unfold start at h2
   rw[Zs (by simpa using hi),List.getElem?_map]at h2
   cases e:vs[i]? with
   |none=>rw[e]at h2;cases h2
   |some a=>rw[e]at h2;cases h2;rfl
  obtain⟨u,hu,rv⟩:=r.get ha
  have hp:ps[i]? =some y:=by
   rw[<-S.pre,List.getElem?_take_of_lt (by omega)];exact h1
  have ndP:ps.Nodup:=by rw[<-S.pre];exact S.nd.sublist (List.take_sublist _ _)
  refine⟨u,rv,?_⟩
  rcases S.par y (List.mem_of_getElem? hp)with k|k
  .exact .inl ⟨k,uU ndP hp hu k⟩
  .obtain⟨c,e⟩:=yI (n:=s.heap.objs.size+1) k
   refine .inr ⟨.inl k,c,e,?_⟩
   have q:=x.cell y c e
   rw[uY ndP hp hu (by show scope.names.lookup y≠_;rw[k];decide)]at q
   exact q
 .exact e0.hok.fresh (Nat.le_of_lt (x.above y c (Zt h)))
 .unfold start
  show _=N.length
  rw[List.length_append,Zu,List.length_replicate]
  omega
theorem Li{CX:CXT}{P:Program}{w:World}{K:PySem.W.Frag}{mg:Str->Option Value}{base:Heap}{k:Nat}{f:Addr}{name qual:Str}{params:Arguments}{body:List Stmt}{scope:Scope}{dV kV doc pm cdv ct oc:Value}{an od:Option Addr}
  {osl:Array (Option Value)} {N ps:List Str} {sp:Sp} (lk:K.lookup f=some ⟨oc,od,.func (PySem.W.fnOf name qual params body scope dV kV doc pm an cdv ct),osl⟩) (hcd:PySem.W.codeIn K cdv qual=true) (S:bx N ps scope)
  (len:∀vs H Q E,sp vs H Q E->vs.length=ps.length)
  (hbody:∀(A:Around)(outer:List Env)(s:Shared)(H:Hp)(vs:List V)(Q:VK)(E:XK),cL k (A.deeper (envOfC qual scope s.heap.objs.size f cdv))->sp vs H Q E->
   ∃t,PSs (zE CX P w K mg base N qual scope f cdv A outer s H E) body t/\t { nx:=λ_ H'=>Q .non H',rt:=Q} (start N vs) H):
  qp P w K mg base CX (k+1) f (PySem.W.fnOf name qual params body scope dV kV doc pm an cdv ct) ps sp:=by
 refine⟨len,λA outer s H args us vs Q E hr e0 hb r hsp=>?_⟩
 have hl:=len _ _ _ _ hsp
 have KX:K.In s.heap:=e0.mod.kin.keeps λb o e=>(e0.bs b o e).1
 have lim:s.heap.NoLimit:=e0.mod.nolimit.keeps λb o e=>(e0.bs b o e).1
 have hkind:∀y∈ps.zip us,scope.names.lookup y.1=some .local∨(scope.names.lookup y.1=some .cell/\((cellsFrom (s.heap.objs.size+1) scope.names []).lookup y.1).isSome=true):=λzq49 hy=>by
  obtain⟨n,v⟩:=zq49
  rcases S.par n (List.of_mem_zip hy).1 with q|q
  .exact .inl q
  .exact .inr ⟨q,PySem.W.cellsFrom_some _ _ _ (.inl q)⟩
 refine codeAny_call_function hr.depth (KX _ _ lk) rfl S.co S.gen rfl (PySem.W.codeRec_of KX hcd) (hb _ _ _ _ ?_)
 refine wpAny_newFunctionEnv_cells S.kind hkind λenv he s1 x=>?_
 subst he
 refine⟨lim.keeps x.toInCall.keep,codeAny_func ?_⟩
 obtain⟨t,ht,hq⟩:=hbody A outer s H vs Q E (hr.deeper _) hsp
 have I:Inv (zE CX P w K mg base N qual scope f cdv A outer s H E) [] (start N vs) H s1:=Cr S hr.hd e0 hl r x
 refine wpAny_mono (ht [] s1 (start N vs) H _ I hq) (λfl s' hs=>?_) λe s' hs=>hs
 have fin:∀{σ':St}{H':Hp}{v:V}{u:Value},Inv (zE CX P w K mg base N qual scope f cdv A outer s H E) [] σ' H' s'->RelV v u->Q v H'->CE outer P w H s Q u s':=
  λ{σ' H' v u} J rv q=>⟨v,H',J.os,J.bare,J.base,J.hok,rv,q⟩
 cases fl with
 |ret u=>
  obtain⟨v,σ',H',J,rv,q⟩:=hs
  exact fin J rv q
 |next=>
  obtain⟨σ',H',J,q⟩:=hs
  exact fin (v:=V.non) (u:=Value.none) J rfl q
 |brk=>
  obtain⟨_,_,_,q⟩:=hs
  exact False.elim q
 |cont=>
  obtain⟨_,_,_,q⟩:=hs
  exact False.elim q
section
variable {X:Cx} {x:Str} {p pos:Pos} {e:Expr} {es:List Expr} {t:TA} {id T:String} {r:List V->Hp->VK->Prop}
def tCB(r:List V->Hp->VK->Prop)(t:TA):TE:=λσ H Q=>t σ H λvs H1=>r vs H1 Q
theorem jU(hc:iI X (.builtin id) r)(hg:Gl X x)(hm:X.mg x=none)(hv:bootBuiltins x=some (.builtin id))(ha:PA X (e::es) t)(hn:x≠"__name__":=by decide)(hdb:(x==("__debug__":Str))=false:=by decide)
  (he:starEach (e::es) X.env=(false,eval e X.env)::starEach es X.env:=by rfl) (hpl:(backTo pos (starEach es X.env)).any (·.1)=false:=by rfl):PE X (.Call (.Name x p) (e::es) [] pos) (tCB r t):=by
 intro pins s σ H Q I h
 refine wpAny_Call_Name_kw (lZ I hg hm hv ?_ hn hdb)
 exact PyProof.Rows.callWith_builtin1 (thn (ha pos pins s σ H _ I h) λus s1 ⟨vs,H1,I1,r1,q1⟩=>hc pins s1 σ H1 vs us Q I1 r1 q1) he hpl
theorem mJ(hc:iI X (.type T) r)(hg:Gl X x)(hm:X.mg x=none)(hv:bootBuiltins x=some (.type T))(ha:PA X (e::es) t)(hn:x≠"__name__":=by decide)(hdb:(x==("__debug__":Str))=false:=by decide)
  (he:starEach (e::es) X.env=(false,eval e X.env)::starEach es X.env:=by rfl) (hpl:(backTo pos (starEach es X.env)).any (·.1)=false:=by rfl):PE X (.Call (.Name x p) (e::es) [] pos) (tCB r t):=by
 intro pins s σ H Q I h
 refine wpAny_Call_Name_kw (lZ I hg hm hv ?_ hn hdb)
 exact PyProof.Rows.callWith_type1 (thn (ha pos pins s σ H _ I h) λus s1 ⟨vs,H1,I1,r1,q1⟩=>hc pins s1 σ H1 vs us Q I1 r1 q1) he hpl
end
end L2
namespace HT
open PySem PyProof.Rows
section
variable {prog:Program} {w:World} {A:Around} {E:Value->Shared->Prop} {s:Shared}
theorem cat_tup{t b:Addr}{vs ws:List Value}{Q:Value->Shared->Prop}(ht:IsTup s.heap t vs.toArray)(hb:IsTup s.heap b ws.toArray)(hv:vs≠[])
  (h1:ws=[]->Q (.ref t) s) (h2:ws≠[]->Q (.ref s.heap.objs.size) { s with heap:=s.heap.push { cls:=.type "tuple",data:=.seq (vs++ws).toArray} })
  (hsz:vs.length+ws.length<=sizeLine):wpAny (model prog w) A (binaryOp .Add (.ref t) (.ref b)) Q E s:=by
 obtain⟨⟨cls,dd,data,sl⟩,ho,hc,n,hd⟩:=id ht
 obtain⟨⟨cls2,dd2,data2,sl2⟩,ho2,hc2,n2,hd2⟩:=id hb
 simp only at hc hd hc2 hd2
 subst hc hd hc2 hd2
 have e:vs.toArray++ws.toArray=(vs++ws).toArray:=by simp
 by_cases hw:ws=[]
 .exact concat_meets ⟨_,ho,rfl⟩ ⟨_,ho2,rfl⟩ noFill_tuple_add seq_tuple_add PySem.F.slot_tuple_add PySem.F.entry_tuple_add (PySem.F.args_tuple_add_2 _ _)
   (tuple_addW1 t b vs.toArray ws.toArray n n2 dd dd2 sl sl2 (by simpa using hv) (by simp[hw])) ⟨ho,ho2,h1 hw⟩
 .refine concat_meets ⟨_,ho,rfl⟩ ⟨_,ho2,rfl⟩ noFill_tuple_add seq_tuple_add PySem.F.slot_tuple_add PySem.F.entry_tuple_add (PySem.F.args_tuple_add_2 _ _)
   (tuple_addW2 t b vs.toArray ws.toArray n n2 dd dd2 sl sl2 (by simpa using hv) (by simpa using hw) (by rw[Zd,Zd];exact hsz)) ⟨ho,ho2,?_⟩
  rw[e]
  exact h2 hw
def sIx(n d:Nat):Option Int->Nat
 |none=>d
 |some v=>if v<0 then(v+(n:Int)).toNat else min v.toNat n
theorem Oz(n d:Nat)(hd:d<=n)(o:Option Int):sIx n d o<=n:=by
 cases o with
 |none=>exact hd
 |some v=>
  show(if v<0 then(v+(n:Int)).toNat else min v.toNat n)<=n
  by_cases hv:v<0
  .rw[if_pos hv];omega
  .rw[if_neg hv];exact Nat.min_le_right _ _
theorem Bt(v:Int)(n d:Nat):(if v<0 then max (v+(n:Int)) 0 else min v (n:Int))=((sIx n d (some v):Nat):Int):=by
 show(if v<0 then max (v+(n:Int)) 0 else min v (n:Int))=(((if v<0 then(v+(n:Int)).toNat else min v.toNat n):Nat):Int)
 by_cases hv:v<0
 .simp only[if_pos hv];omega
 .simp only[if_neg hv];omega
theorem zf(lo hi:Option Int)(n:Nat):Builtin.Slice.sliceAdjust lo hi 1 (n:Int)=(((sIx n 0 lo:Nat):Int),((sIx n n hi:Nat):Int)):=by
 have h1:¬((1:Int)<0):=by omega
 unfold Builtin.Slice.sliceAdjust
 simp only[h1,if_false]
 refine Prod.ext ?_ ?_
 .cases lo with
  |none=>rfl
  |some v=>exact Bt v n 0
 .cases hi with
  |none=>rfl
  |some v=>exact Bt v n n
theorem yV(i j:Nat):Builtin.Slice.slicePlaces (i:Int) (j:Int) 1=j-i:=by
 unfold Builtin.Slice.slicePlaces
 have h1:(1:Int)>0:=by omega
 simp only[h1,if_true,Int.ediv_one]
 split<;>omega
theorem rG{v:Value}{o:Option Int}{Q:Option Int->Shared->Prop}(p:IsPart v o)(h:Q o s):wpAny (model prog w) A (Builtin.Slice.slicePartIndex v) Q E s:=by
 cases p with
 |none=>exact slicePart_none h
 |int i t=>exact slicePart_int h
theorem jK{sl:Addr}{vl vu:Value}{lo hi:Option Int}{n:Nat}{Q:Int×Int×Nat->Shared->Prop}(hs:s.heap.IsSliceOf sl vl vu .none)(pl:IsPart vl lo)(pu:IsPart vu hi)
  (h:Q (((sIx n 0 lo:Nat):Int),1,sIx n n hi-sIx n 0 lo) s):wpAny (model prog w) A (Builtin.Slice.sliceApplied (.ref sl) (pure (n:Int))) Q E s:=by
 obtain⟨os,hos,hcs,hds⟩:=id hs
 unfold Builtin.Slice.sliceApplied Builtin.Slice.sliceFields
 refine wpAny_bind (wpAny_bind (wpAny_field hos hds (x:=vl) rfl (wpAny_bind (wpAny_field hos hds (x:=vu) rfl (wpAny_bind (wpAny_field hos hds (x:=.none) rfl (wpAny_pure ?_)))))))
 refine wpAny_bind (slicePart_none ?_)
 show wpAny _ _ (if((1:Int)==0)=true then _ else _) _ _ s
 rw[if_neg (by decide)]
 refine wpAny_bind (rG pl (wpAny_bind (rG pu (wpAny_bind (wpAny_pure ?_)))))
 show wpAny _ _ (match Builtin.Slice.sliceAdjust lo hi 1 (n:Int)with|(lo,hi)=>pure (lo,(1:Int),Builtin.Slice.slicePlaces lo hi 1)) _ _ s
 rw[zf lo hi n]
 show wpAny _ _ (pure (((sIx n 0 lo:Nat):Int),(1:Int),Builtin.Slice.slicePlaces ((sIx n 0 lo:Nat):Int) ((sIx n n hi:Nat):Int) 1)) _ _ s
 rw[yV]
 exact wpAny_pure h
theorem GX(xs:Array Value)(i k:Nat):((List.range k).filterMap λ(m:Nat)=>xs[((i:Int)+(m:Int)*1).toNat]?).toArray=((xs.toList.drop i).take k).toArray:=by
 have e:(λ(m:Nat)=>xs[((i:Int)+(m:Int)*1).toNat]?)=λm=>xs[i+m]? :=by
  funext m
  have:((i:Int)+(m:Int)*1).toNat=i+m:=by omega
  rw[this]
 rw[e]
 have:=pick_run xs i k
 rw[List.filterMap_map]at this
 have e2:((λx=>xs[x]?)∘λx=>i+x)=λm=>xs[i+m]? :=rfl
 rw[e2]at this
 rw[this]
theorem getItem_tuple_cut{t sl:Addr}{items:Array Value}{vl vu:Value}{lo hi:Option Int}{Q:Value->Shared->Prop}(ht:IsTup s.heap t items)(hs:s.heap.IsSliceOf sl vl vu .none)(pl:IsPart vl lo)(pu:IsPart vu hi)
  (hw:¬(sIx items.size 0 lo=0/\sIx items.size items.size hi=items.size))
  (h:Q (.ref s.heap.objs.size) { s with heap:=s.heap.push { cls:=.type "tuple",data:=.seq ((items.toList.drop (sIx items.size 0 lo)).take (sIx items.size items.size hi-sIx items.size 0 lo)).toArray} })
  (hsz:items.size<=sizeLine):wpAny (model prog w) A (getItem (.ref t) (.ref sl)) Q E s:=by
 have htake:sizeOk (.seq ((items.toList.drop (sIx items.size 0 lo)).take (sIx items.size items.size hi-sIx items.size 0 lo)).toArray):=by
  show((items.toList.drop (sIx items.size 0 lo)).take (sIx items.size items.size hi-sIx items.size 0 lo)).toArray.size<=sizeLine
  rw[Zd,List.length_take,List.length_drop,Array.length_toList]
  omega
 have hj:sIx items.size items.size hi<=items.size:=Oz _ _ (Zg _) hi
 obtain⟨os,hos,hcs,hds⟩:=id hs
 have hTs:s.TypeIs (.ref sl) "slice":=⟨os,hos,hcs⟩
 unfold getItem
 try with_reducible refine wpAny_holding ?_
 first|refine wpAny_bind (wpAny_pure ?_)|skip
 refine wpAny_bind (wpAny_sequenceKey ht.typeIs (by decide) ?_)
 refine wpAny_bind (wpAny_callSpecial?_slot (name:=Str.ofString "__getitem__") ht.typeIs PyProof.Rows.slot_tuple_getitem
  (wpAny_call_entry PyProof.Rows.slot_tuple_getitem ht.typeIs entry_tuple_getitem ?_ (args_tuple_getitem _ _)))
 show wpAny _ _ (Builtin.Tuple.tupleItemsOf (.ref t) >>= _) _ _ s
 refine wpAny_bind (tupleItemsOf_ ht ?_)
 refine wpAny_bind (wpAny_typeOf hTs ?_)
 rw[if_pos (by decide)]
 refine wpAny_bind (jK hs pl pu ?_)
 have hno:¬((((sIx items.size 0 lo:Nat):Int)==0&&(1:Int)==1&&(sIx items.size items.size hi-sIx items.size 0 lo)==items.size)=true):=by
  intro q
  rw[Zo,Zo]at q
  have q1:((sIx items.size 0 lo:Nat):Int)=0:=eq_of_beq q.1.1
  have q2:sIx items.size items.size hi-sIx items.size 0 lo=items.size:=eq_of_beq q.2
  exact hw ⟨by omega,by omega⟩
 show wpAny _ _ (if(((sIx items.size 0 lo:Nat):Int)==0&&(1:Int)==1&&(sIx items.size items.size hi-sIx items.size 0 lo)==items.size)=true then _ else _) _ _ s
 rw[if_neg hno,GX]
 first
  |exact wpAny_bind (m:=Builtin.Tuple.tupleExact _) (wpAny_newObj_type (wpAny_pure ⟨_,rfl,wpAny_pure h⟩) htake)
  |exact wpAny_bind (m:=Builtin.Tuple.tupleExact _) (wpAny_newObj_type (wpAny_bind (wpAny_pure (wpAny_pure ⟨_,rfl,wpAny_pure h⟩))) htake)
  |exact wpAny_bind (wpAny_bind (m:=Builtin.Tuple.tupleExact _) (wpAny_newObj_type (wpAny_pure (wpAny_pure ⟨_,rfl,wpAny_pure h⟩)) htake))
  |exact wpAny_bind (wpAny_bind (m:=Builtin.Tuple.tupleExact _) (wpAny_newObj_type (wpAny_pure ⟨_,rfl,wpAny_pure h⟩) htake))
end
end HT
namespace L2
open PySem PySem.Spec PyProof.Rows
abbrev TO:=St->Hp->(Option Int->Hp->Prop)->Prop
def PO(X:Cx)(e:Option Expr)(t:TO):Prop:=
 ∀(pins:List (Addr×Obj))(s:Shared)(σ:St)(H:Hp)(Q:Option Int->Hp->Prop),Inv X pins σ H s->t σ H Q->
  wpAny (model X.prog X.w) X.A (evalPart e X.env) (λu s'=>∃o H',Inv X pins σ H' s'/\IsPart u o/\Q o H') X.xe s
def HY:TO:=λ_ H Q=>Q none H
def QZ(t:TE):TO:=λσ H Q=>t σ H λx H1=>∃i,x= .int i/\Q (some i) H1
section
variable {X:Cx} {e:Expr} {te:TE} {lo hi:Option Expr} {tl th:TO} {pos p2:Pos}
theorem Km:PO X none HY:=by
 intro pins s σ H Q I h
 rw[evalPart_none]
 exact wpAny_pure ⟨none,H,I,.none,h⟩
theorem Kg(h:PE X e te):PO X (some e) (QZ te):=by
 intro pins s σ H Q I hw
 rw[evalPart_some]
 refine thn (h pins s σ H _ I hw) λu s1 zq50=>?_
 obtain⟨x,H1,I1,r1,q1⟩:=zq50
 obtain⟨i,rfl,q⟩:=q1
 obtain⟨t,rfl⟩:=r1
 exact⟨some i,H1,I1,.int i t,q⟩
def SlR(X:Cx)(r:V->Option Int->Option Int->Hp->VK->Prop):Prop:=
 ∀(pins:List (Addr×Obj))(s:Shared)(σ:St)(H:Hp)(x:V)(v vl vu:Value)(lo hi:Option Int)(sl:Addr)(Q:VK),Inv X pins σ H s->RelV x v->s.heap.IsSliceOf sl vl vu .none->IsPart vl lo->IsPart vu hi->r x lo hi H Q->
  ∃T id,typeLookup (.type T) "__getitem__"=pure (some (.builtin id))/\s.TypeIs v T/\wpAny (model X.prog X.w) X.A (getItem v (.ref sl)) (EP X pins σ Q) X.xe s
theorem SlR.or{r r':V->Option Int->Option Int->Hp->VK->Prop}(h:SlR X r)(h':SlR X r'):SlR X (λx lo hi H Q=>r x lo hi H Q∨r' x lo hi H Q):=by
 intro pins s σ H x v vl vu lo hi sl Q I rx hs pl pu q
 rcases q with q|q
 .exact h pins s σ H x v vl vu lo hi sl Q I rx hs pl pu q
 .exact h' pins s σ H x v vl vu lo hi sl Q I rx hs pl pu q
def tSl(r:V->Option Int->Option Int->Hp->VK->Prop)(te:TE)(tl th:TO):TE:=λσ H Q=>te σ H λx H1=>tl σ H1 λl H2=>th σ H2 λu H3=>r x l u H3 Q
theorem Fw{r:V->Option Int->Option Int->Hp->VK->Prop}(hr:SlR X r)(he:PE X e te)(hl:PO X lo tl)(hu:PO X hi th):PE X (.Subscript e (.Slice lo hi none p2) pos) (tSl r te tl th):=by
 intro pins s σ H Q I h
 refine Subscript_ (thn (he pins s σ H _ I h) λv s1 zq51=>?_)
 obtain⟨x,H1,I1,r1,q1⟩:=zq51
 refine wpAny_Slice (thn (hl pins s1 σ H1 _ I1 q1) λvl s2 ⟨l,H2,I2,pl,q2⟩=>thn (hu pins s2 σ H2 _ I2 q2) λvu s3 zq52=>?_)
 obtain⟨u,H3,I3,pu,q3⟩:=zq52
 rw[evalPart_none]
 refine wpAny_pure ?_
 have I4:Inv X pins σ H3 { s3 with heap:=s3.heap.push { cls:=.type "slice",data:=.fields #[vl,vu,.none] } }:=I3.kept (t':=s3.toks) λb ob q=>Zb _ q
 obtain⟨T,id,hT,ht,hg⟩:=hr pins { s3 with heap:=s3.heap.push { cls:=.type "slice",data:=.fields #[vl,vu,.none] } } σ H3 x v vl vu l u s3.heap.objs.size Q I4 r1 (Heap.IsSliceOf.new ..) pl pu q3
 show wpAny (model X.prog X.w) X.A (subscriptTail e (.Slice lo hi none p2) v (.ref s3.heap.objs.size)) (EP X pins σ Q) X.xe { s3 with heap:=s3.heap.push { cls:=.type "slice",data:=.fields #[vl,vu,.none] } }
 exact tail_any (ops:=[.ref s3.heap.objs.size,v]) ht hT hg (by with_unfolding_all rfl)
def yp(xs:List V)(lo hi:Option Int):List V:=(xs.drop (HT.sIx xs.length 0 lo)).take (HT.sIx xs.length xs.length hi-HT.sIx xs.length 0 lo)
theorem qg(xs:List V)(lo hi:Option Int):(yp xs lo hi).length<=xs.length:=by
 unfold yp
 rw[List.length_take,List.length_drop]
 omega
def rSlT(K:PySem.W.Frag):V->Option Int->Option Int->Hp->VK->Prop:=λx lo hi H Q=>∃a xs,x= .ref a/\SqT K H a xs/\
 ¬(HT.sIx xs.length 0 lo=0/\HT.sIx xs.length xs.length hi=xs.length)/\∀p,H p=none->Q (.ref p) (upd H p (.tup (yp xs lo hi)))
theorem My:SlR X (rSlT X.K):=by
 intro pins s σ H x v vl vu lo hi sl Q I rx hs pl pu h
 obtain⟨a,xs,rfl,hx,hw,q⟩:=h
 cases rx
 obtain⟨its,r,ht,hz⟩:=I.tuple hx
 have hlen:its.toArray.size=xs.length:=by rw[Zd];exact r.length.symm
 refine⟨"tuple",_,PyProof.Rows.slot_tuple_getitem.lookup,ht.typeIs,?_⟩
 refine HT.getItem_tuple_cut ht hs pl pu (by rw[hlen];exact hw) ?_ (by rw[hlen];exact hz)
 rw[hlen]
 refine⟨.ref s.heap.objs.size,_,I.laid (t':=s.toks) (o:=.tup (yp xs lo hi)) (λb ob q=>Zb _ q) (Zg _) ?_,rfl,q _ (I.hok.fresh (Zg _))⟩
 exact⟨Zl (qg xs lo hi) hz,_,(r.drop (HT.sIx xs.length 0 lo)).take (HT.sIx xs.length xs.length hi-HT.sIx xs.length 0 lo),IsTup.new _ _⟩
def PB(K:PySem.W.Frag):R2:=λx y H Q=>∃a b xs ys,x= .ref a/\y= .ref b/\SqT K H a xs/\SqT K H b ys/\xs≠[]/\xs.length+ys.length<=sizeLine/\
 (ys=[]->Q (.ref a) H)/\(ys≠[]->∀p,H p=none->Q (.ref p) (upd H p (.tup (xs++ys))))
theorem Vals.jX{xs:List V}{us:List Value}(r:Vals xs us):us=[]↔xs=[]:=by
 cases r with
 |nil=>simp
 |cons _ _=>simp
theorem JD:OpR X (binaryOp .Add) (PB X.K):=by
 intro pins s σ H x y v u Q I rx ry h
 obtain⟨a,b,xs,ys,rfl,rfl,ha,hb,hx,hz,q1,q2⟩:=h
 cases rx
 cases ry
 obtain⟨its,r1,p1,_⟩:=I.tuple ha
 obtain⟨its2,r2,p2,_⟩:=I.tuple hb
 refine HT.cat_tup p1 p2 (λz=>hx (r1.jX.mp z)) (λz=>⟨.ref a,H,I,rfl,q1 (r2.jX.mp z)⟩) (λz=>?_) (by rw[<-r1.length,<-r2.length];exact hz)
 refine⟨.ref s.heap.objs.size,_,I.laid (t':=s.toks) (o:=.tup (xs++ys)) (λb ob q=>Zb _ q) (Zg _) ?_,rfl,q2 (λw=>z (r2.jX.mpr w)) _ (I.hok.fresh (Zg _))⟩
 exact⟨by rw[List.length_append];exact hz,_,r1.append r2,IsTup.new _ _⟩
end
def ixN(n:Nat)(i:Int):Option Nat:=if 0<=i then(if i<n then some i.toNat else none)else if -(n:Int)<=i then some (i+n).toNat else none
def atI{α:Type}(xs:List α)(i:Int):Option α:=(ixN xs.length i).bind λj=>xs[j]?
theorem Av{n:Nat}{i:Int}{j:Nat}(h:ixN n i=some j):seqIndex? i n=some j/\j<n/\ -(n:Int)<=i/\i<n:=by
 unfold ixN at h
 by_cases h0:0<=i
 .rw[if_pos h0]at h
  by_cases h1:i<n
  .rw[if_pos h1]at h
   have e:i.toNat=j:=Option.some.inj h
   exact⟨by rw[seqIndex_of h0 h1,e],by omega,by omega,h1⟩
  .rw[if_neg h1]at h;cases h
 .rw[if_neg h0]at h
  by_cases h1: -(n:Int)<=i
  .rw[if_pos h1]at h
   have e:(i+n).toNat=j:=Option.some.inj h
   exact⟨by rw[seqIndex_neg (by omega) h1,e],by omega,h1,by omega⟩
  .rw[if_neg h1]at h;cases h
theorem qI{α:Type}{xs:List α}{i:Int}{v:α}(h:atI xs i=some v):∃j,seqIndex? i xs.length=some j/\xs[j]? =some v/\j<xs.length/\ -(xs.length:Int)<=i/\i<xs.length:=by
 unfold atI at h
 cases e:ixN xs.length i with
 |none=>rw[e]at h;cases h
 |some j=>
  rw[e]at h
  obtain⟨h1,h2,h3,h4⟩:=Av e
  exact⟨j,h1,h,h2,h3,h4⟩
theorem Ih{α:Type}{xs:List α}{j:Nat}{v:α}(h:xs[j]? =some v):atI xs (j:Int)=some v:=by
 have hj:j<xs.length:=(Zh.mp h).1
 have e:ixN xs.length (j:Int)=some j:=by
  unfold ixN
  rw[if_pos (by omega),if_pos (by omega)];simp
 unfold atI;rw[e];exact h
theorem yj{α:Type}(xs:List α)(v:α):atI (xs++[v]) (-1)=some v:=by
 have hl:(xs++[v]).length=xs.length+1:=by simp
 have e:ixN (xs++[v]).length (-1)=some xs.length:=by
  unfold ixN
  rw[hl,if_neg (by decide),if_pos (by omega)]
  congr 1
  omega
 unfold atI
 rw[e]
 show(xs++[v])[xs.length]? =some v
 simp
def Af(b:Expr):Prop:=∀o i,subscripted b false o i=operate [o,i] (getItem o i)
def IxR(X:Cx)(r:R2):Prop:=
 ∀(value slice:Expr)(pins:List (Addr×Obj))(s:Shared)(σ:St)(H:Hp)(x y:V)(v u:Value)(Q:VK),Inv X pins σ H s->RelV x v->RelV y u->r x y H Q->
  subscripted slice false v u=operate [v,u] (getItem v u)->wpAny (model X.prog X.w) X.A (subscriptTail value slice v u) (EP X pins σ Q) X.xe s
def MtR(X:Cx)(id:String)(r:V->List V->Hp->VK->Prop):Prop:=
 ∀(pins:List (Addr×Obj))(s:Shared)(σ:St)(H:Hp)(x:V)(xs:List V)(v:Value)(us:List Value)(Q:VK),Inv X pins σ H s->RelV x v->Vals xs us->r x xs H Q->
  wpAny (model X.prog X.w) X.A (call (.builtin id) (v::us)) (EP X pins σ Q) X.xe s
section
variable {X:Cx} {a b:Expr} {ta tb:TE} {pos:Pos}
theorem IxR.or{r r':R2}(h:IxR X r)(h':IxR X r'):IxR X (λx y H Q=>r x y H Q∨r' x y H Q):=by
 intro value slice pins s σ H x y v u Q I rx ry q hs
 rcases q with q|q
 .exact h value slice pins s σ H x y v u Q I rx ry q hs
 .exact h' value slice pins s σ H x y v u Q I rx ry q hs
theorem PX{r:R2}(hr:IxR X r)(ha:PE X a ta)(hb:PE X b tb)(hs:Af b):PE X (.Subscript a b pos) (tOp r ta tb):=by
 intro pins s σ H Q I h
 exact Subscript_ (Ma ha hb I h λv u s2 x y H2 I2 rx ry q=>hr a b pins s2 σ H2 x y v u Q I2 rx ry q (hs _ _))
def QV(K:PySem.W.Frag):R2:=λx y H Q=>∃p xs i v,x= .ref p/\y= .int i/\SqL K H p xs/\atI xs i=some v/\Q v H
def QR(K:PySem.W.Frag):R2:=λx y H Q=>∃p xs i v,x= .ref p/\y= .int i/\SqT K H p xs/\atI xs i=some v/\Q v H
def Ra:R2:=λx y H Q=>∃z i c,x= .str z/\y= .int i/\z.length<=sizeLine/\atI z.cps.toList i=some c/\Q (.str ⟨#[c]⟩) H
theorem Jk:IxR X (QV X.K):=by
 intro value slice pins s σ H x y v u Q I rx ry h hs
 obtain⟨p,xs,i,z,rfl,rfl,hq,he,q⟩:=h
 cases rx
 obtain⟨t,rfl⟩:=ry
 obtain⟨its,r,pl,hz⟩:=I.list hq
 obtain⟨j,h1,h2,h3,h4,h5⟩:=qI he
 obtain⟨w,ew,rw'⟩:=r.get h2
 have hl:=r.length
 have hn:=nU
 have fin:EP X pins σ Q w s:=⟨z,H,I,rw',q⟩
 by_cases h0:0<=i
 .have hj:i.toNat=j:=by
   rw[seqIndex_of h0 h5]at h1
   exact Option.some.inj h1
  exact item_listR pl.isList h0 (by omega) (by rw[hj];simpa using ew) fin hs
 .have hj:(i+(its.toArray.size:Int)).toNat=j:=by
   rw[seqIndex_neg (by omega) h4]at h1
   rw[Zd,<-hl]
   exact Option.some.inj h1
  exact subscriptTail_builtinR (x:=w) pl.isList.typeIs slot_list_getitem.lookup
   (wpAny_getItem_list_neg (Q:=λr s'=>r=w/\EP X pins σ Q r s') pl.isList (by omega) (by rw[Zd]<;>omega) (by omega) (by rw[hj];simpa using ew) ⟨rfl,fin⟩) hs
theorem Pb:IxR X (QR X.K):=by
 intro value slice pins s σ H x y v u Q I rx ry h hs
 obtain⟨p,xs,i,z,rfl,rfl,hq,he,q⟩:=h
 cases rx
 obtain⟨t,rfl⟩:=ry
 obtain⟨its,r,pl,hz⟩:=I.tuple hq
 obtain⟨j,h1,h2,h3,h4,h5⟩:=qI he
 obtain⟨w,ew,rw'⟩:=r.get h2
 have hl:=r.length
 have hn:=nU
 have fin:EP X pins σ Q w s:=⟨z,H,I,rw',q⟩
 exact subscriptTail_builtinR (x:=w) pl.typeIs slot_tuple_getitem.lookup
  (getItem_tuple (j:=j) (Q:=λr s'=>r=w/\EP X pins σ Q r s') pl (by omega) (by omega) (by rw[Zd,<-hl];exact h1) (by simpa using ew) ⟨rfl,fin⟩) hs
theorem Lk:IxR X Ra:=by
 intro value slice pins s σ H x y v u Q I rx ry h hs
 obtain⟨z,i,c,rfl,rfl,hz,he,q⟩:=h
 obtain⟨t,rfl⟩:=rx
 obtain⟨t',rfl⟩:=ry
 obtain⟨j,h1,h2,h3,h4,h5⟩:=qI he
 have hl:z.cps.toList.length=z.length:=by simp[Str.length]
 rw[hl]at h1 h4 h5
 have hn:=nU
 exact tail_any (typeIs_str s z t) slot_str_getitem.lookup (getItem_str (c:=c) (by
  have e1:decide (i< -(2 ^ 63:Int))=false:=decide_eq_false (by omega)
  have e2:decide (i>=2 ^ 63)=false:=decide_eq_false (by omega)
  rw[e1,e2,Bool.or_false]) (by rw[h1];simpa using h2) ⟨.str ⟨#[c]⟩,H,I.tok _,⟨_,rfl⟩,q⟩) hs
def rIx(K:PySem.W.Frag):R2:=λx y H Q=>QV K x y H Q∨QR K x y H Q∨Ra x y H Q
theorem MT:IxR X (rIx X.K):=Jk.or (Pb.or Lk)
theorem Aa(its:List Value)(n j:Nat)(u:Value):Obj.mapSeq (·.setIfInBounds j u) { cls:=.type "list",data:=.seq its.toArray n}={ cls:=.type "list",data:=.seq (its.set j u).toArray n}:=by
 simp[Obj.mapSeq]
theorem Inv.lst{pins:List (Addr×Obj)}{σ:St}{H:Hp}{s:Shared}{p:Addr}{xs:List V}(I:Inv X pins σ H s)(h:H p=some (.lst xs)):
  ∃(its:List Value)(n:Nat),Vals xs its/\s.heap.get? p=some { cls:=.type "list",data:=.seq its.toArray n}/\xs.length<=sizeLine:=by
 obtain⟨z,its,n,r,e⟩:=I.hok p _ h
 exact⟨its,n,r,e,z⟩
theorem Inv.lstUpd{pins:List (Addr×Obj)}{σ:St}{H:Hp}{s:Shared}{p:Addr}{xs ys:List V}{its its':List Value}{n n':Nat}{f:Obj->Obj}(I:Inv X pins σ H s)(h:H p=some (.lst xs))
  (ho:s.heap.get? p=some { cls:=.type "list",data:=.seq its.toArray n}) (hf:f { cls:=.type "list",data:=.seq its.toArray n}={ cls:=.type "list",data:=.seq its'.toArray n'}) (r:Vals ys its') (hz:ys.length<=sizeLine) (t:Nat):
  Inv X pins σ (upd H p (.lst ys)) { s with heap:=s.heap.update p f,toks:=t}:=by
 have e:(s.heap.update p f).get? p=some { cls:=.type "list",data:=.seq its'.toArray n'}:=by
  rw[Heap.get?_update_self f ho (by rw[hf]<;>rfl),hf]
 refine I.write (x:=p) (e:=p) (by rw[h];trivial) (.inl rfl) (λb u hb q=>(Heap.get?_update_other _ _ (Ne.symm hb)).trans q) ⟨_,e⟩ ?_
 exact⟨hz,its',n',r,e⟩
def Qa:V->V->V->Hp->(Hp->Prop)->Prop:=λo i v H Q=>∃p xs k j,o= .ref p/\i= .int k/\H p=some (.lst xs)/\ixN xs.length k=some j/\Q (upd H p (.lst (xs.set j v)))
theorem set_list:Rm X Qa:=by
 intro pins s σ H o i v ov iv u Q I ro ri rv h
 obtain⟨p,xs,k,j,rfl,rfl,hp,hj,q⟩:=h
 cases ro
 obtain⟨t,rfl⟩:=ri
 obtain⟨its,n,r,ho,hz⟩:=I.lst hp
 obtain⟨h1,h2,h3,h4⟩:=Av hj
 have hl:=r.length
 have hn:=nU
 have I':Inv X pins σ (upd H p (.lst (xs.set j v))) { s with heap:=s.heap.update p (Obj.mapSeq (·.setIfInBounds j u)) }:=
  I.lstUpd hp ho (Aa its n j u) (r.set rv j) (by rw[List.length_set];exact hz) s.toks
 by_cases h0:0<=k
 .have hk:k.toNat=j:=by
   rw[seqIndex_of h0 h4]at h1
   exact Option.some.inj h1
  exact PySem.W.ki_setAt ho h0 (by omega) (by rw[Zd,<-hl];exact h4) (by rw[hk];exact⟨_,I',q⟩)
 .have hk:(k+(its.toArray.size:Int)).toNat=j:=by
   rw[seqIndex_neg (by omega) h3]at h1
   rw[Zd,<-hl]
   exact Option.some.inj h1
  exact PySem.W.ki_setBack ho (by omega) (by rw[Zd,<-hl];exact h3) (by omega) (by rw[hk];exact⟨_,I',q⟩)
theorem wz(lo hi:Option Int)(n:Nat):(sliceBounds lo hi none n).1=((HT.sIx n 0 lo:Nat):Int)/\(sliceBounds lo hi none n).2.1=((HT.sIx n n hi:Nat):Int)/\(sliceBounds lo hi none n).2.2=1:=by
 refine⟨?_,?_,rfl⟩
 .cases lo with
  |none=>simp[sliceBounds,HT.sIx]
  |some i=>
   simp only[sliceBounds,HT.sIx,Option.getD_none,show(1:Int)>0 by decide,if_true]
   by_cases h:i<0
   .simp only[h,if_true]<;>omega
   .simp only[h,if_false]<;>omega
 .cases hi with
  |none=>simp[sliceBounds,HT.sIx]
  |some i=>
   simp only[sliceBounds,HT.sIx,Option.getD_none,show(1:Int)>0 by decide,if_true]
   by_cases h:i<0
   .simp only[h,if_true]<;>omega
   .simp only[h,if_false]<;>omega
theorem tK(its:List Value)(lo hi:Option Int):slicePick its.toArray lo hi none=((its.drop (HT.sIx its.length 0 lo)).take (HT.sIx its.length its.length hi-HT.sIx its.length 0 lo)).toArray:=by
 obtain⟨h1,h2,h3⟩:=wz lo hi its.toArray.size
 unfold slicePick
 rw[h1,h2,h3]
 simp only[sliceRange_one,pick_run,Zd]<;>rfl
def rSlL(K:PySem.W.Frag):V->Option Int->Option Int->Hp->VK->Prop:=λx lo hi H Q=>∃a xs,x= .ref a/\SqL K H a xs/\∀p,H p=none->Q (.ref p) (upd H p (.lst (yp xs lo hi)))
theorem JF:SlR X (rSlL X.K):=by
 intro pins s σ H x v vl vu lo hi sl Q I rx hs pl pu h
 obtain⟨a,xs,rfl,hx,q⟩:=h
 cases rx
 obtain⟨its,r,ht,hz⟩:=I.list hx
 have hlen:=r.length
 refine⟨"list",_,slot_list_getitem.lookup,ht.isList.typeIs,?_⟩
 refine wpAny_getItem_list_slice ht.isList hs pl pu .none (by simp) ?_ (by rw[Zd]<;>omega)
 rw[tK,<-hlen]
 refine⟨.ref s.heap.objs.size,_,I.laid (t':=s.toks) (o:=.lst (yp xs lo hi)) (λb ob q=>Zb _ q) (Zg _) ?_,rfl,q _ (I.hok.fresh (Zg _))⟩
 exact⟨Zl (qg xs lo hi) hz,_,0,(r.drop (HT.sIx xs.length 0 lo)).take (HT.sIx xs.length xs.length hi-HT.sIx xs.length 0 lo),Zf _ rfl⟩
theorem vL:iI X (.builtin "len") (λxs H Q=>∃p ys,xs=[.ref p]/\(SqL X.K H p ys∨SqT X.K H p ys)/\Q (.int ys.length) H):=by
 intro pins s σ H xs us Q I r h
 obtain⟨p,ys,rfl,hq,q⟩:=h
 obtain⟨u,rfl,rx⟩:=vals1 r
 cases rx
 have hn:=nU
 rcases hq with hq|hq
 .obtain⟨its,r',pl,hz⟩:=I.list hq
  have hlen:=r'.length
  exact Calls.call_len_list pl.isList (by simp only[Zd]<;>omega) ⟨.int ys.length,H,I.tok _,⟨s.toks+1,by rw[Zd,hlen]⟩,q⟩
 .obtain⟨its,r',pl,hz⟩:=I.tuple hq
  have hlen:=r'.length
  exact len_tuple pl (by simp only[Zd]<;>omega) ⟨.int ys.length,H,I.tok _,⟨s.toks+1,by rw[Zd,hlen]⟩,q⟩
theorem wF:iI X (.builtin "len") (λxs H Q=>∃z,xs=[.str z]/\z.length<=sizeLine/\Q (.int z.length) H):=by
 intro pins s σ H xs us Q I r h
 obtain⟨z,rfl,hz,q⟩:=h
 obtain⟨u,rfl,t,rfl⟩:=vals1 r
 have hn:=nU
 exact len_str (by omega) ⟨.int z.length,H,I.tok _,⟨_,rfl⟩,q⟩
theorem iI.or{f:Value}{r r':List V->Hp->VK->Prop}(h:iI X f r)(h':iI X f r'):iI X f (λxs H Q=>r xs H Q∨r' xs H Q):=by
 intro pins s σ H xs us Q I rs q
 rcases q with q|q
 .exact h pins s σ H xs us Q I rs q
 .exact h' pins s σ H xs us Q I rs q
theorem vK:iI X (.type "list") (λxs H Q=>∃p ys,xs=[.ref p]/\(SqL X.K H p ys∨SqT X.K H p ys)/\∀l,H l=none->Q (.ref l) (upd H l (.lst ys))):=by
 intro pins s σ H xs us Q I r h
 obtain⟨p,ys,rfl,hq,q⟩:=h
 obtain⟨u,rfl,rx⟩:=vals1 r
 cases rx
 have fin:∀(its:List Value),Vals ys its->ys.length<=sizeLine->∀(h':Heap)(c':Nat),(∀b o',s.heap.get? b=some o'->h'.get? b=some o')->
   h'.get? s.heap.objs.size=some { cls:=.type "list",dict:=none,data:=.seq its.toArray c',slots:= #[] }->EP X pins σ Q (.ref s.heap.objs.size) { s with heap:=h'}:=λits r' hz h' c' kp e=>
  ⟨.ref s.heap.objs.size,_,I.laid (t':=s.toks) kp (Zg _) (show iT X.prog X.w _ h' _ (.lst ys)from⟨hz,its,c',r',e⟩),rfl,q _ (I.hok.fresh (Zg _))⟩
 rcases hq with hq|hq
 .obtain⟨its,r',pl,hz⟩:=I.list hq
  have hlen:=r'.length
  obtain⟨o,ho,hc,n,hd⟩:=pl.isList
  exact call_list_seq p (.inl rfl) ho hc hd (λh' c' kp e=>fin its r' hz h' c' kp e) (by simp only[Zd]<;>omega)
 .obtain⟨its,r',pl,hz⟩:=I.tuple hq
  have hlen:=r'.length
  obtain⟨o,ho,hc,n,hd⟩:=pl
  exact call_list_seq p (.inr rfl) ho hc hd (λh' c' kp e=>fin its r' hz h' c' kp e) (by simp only[Zd]<;>omega)
theorem tE:iI X (.type "tuple") (λxs H Q=>∃p ys,xs=[.ref p]/\((SqL X.K H p ys/\∀l,H l=none->Q (.ref l) (upd H l (.tup ys)))∨(SqT X.K H p ys/\Q (.ref p) H))):=by
 intro pins s σ H xs us Q I r h
 obtain⟨p,ys,rfl,h⟩:=h
 obtain⟨u,rfl,rx⟩:=vals1 r
 cases rx
 rcases h with⟨hq,q⟩|⟨hq,q⟩
 .obtain⟨its,r',pl,hz⟩:=I.list hq
  have hlen:=r'.length
  refine call_tuple_list pl.isList (λh' kp=>?_) (by simp only[Zd]<;>omega)
  have I1:Inv X pins σ H { s with heap:=h'}:=I.kept (t':=s.toks) kp
  have I2:Inv X pins σ (upd H h'.objs.size (.tup ys)) { s with heap:=h'.push { cls:=.type "tuple",data:=.seq its.toArray} }:=
   I1.laid (t':=s.toks) (λb o e=>Zb _ e) (Zg _) (show iT X.prog X.w _ _ _ (.tup ys)from⟨hz,its,r',IsTup.new _ _⟩)
  exact⟨.ref h'.objs.size,_,I2,rfl,q _ (I1.hok.fresh (Zg _))⟩
 .obtain⟨its,r',pl,hz⟩:=I.tuple hq
  exact call_tuple_same pl ⟨.ref p,H,I,rfl,q⟩
def tyV(K:PySem.W.Frag)(T:String)(x:V)(H:Hp):Prop:=match x with
 | .str _=>T="str"
 | .int _=>T="int"
 | .ref p=>(T="list"/\∃xs,SqL K H p xs)∨(T="tuple"/\∃o,K.lookup p=some o/\o.cls= .type "tuple"/\o.dict=none)∨
   (T="dict"/\((∃kvs,H p=some (.dK kvs))∨∃kvs,H p=some (.dT kvs)))∨(T="set"/\∃S n,H p=some (.set S n))
 |_=>False
theorem LC{pins:List (Addr×Obj)}{σ:St}{H:Hp}{s:Shared}{T:String}{x:V}{v:Value}(I:Inv X pins σ H s)(r:RelV x v)(ty:tyV X.K T x H):
  s.TypeIs v T/\∀a,v= .ref a->∃ob,s.heap.get? a=some ob/\ob.dict=none:=by
 cases x with
 |str z=>
  obtain⟨t,rfl⟩:=r
  cases (show T="str" from ty)
  exact⟨typeIs_str s z t,λ_ e=>nomatch e⟩
 |int i=>
  obtain⟨t,rfl⟩:=r
  cases (show T="int" from ty)
  exact⟨typeIs_int s i t,λ_ e=>nomatch e⟩
 |ref p=>
  cases r
  rcases ty with⟨rfl,xs,hq⟩|⟨rfl,o,hk,hc,hd⟩|⟨rfl,hk⟩|⟨rfl,S,n,hk⟩
  .obtain⟨its,_,pl,_⟩:=I.list hq
   refine⟨pl.isList.typeIs,λa e=>?_⟩
   cases e
   obtain⟨o,n,e,c,hd,_⟩:=pl
   exact⟨o,e,hd⟩
  .refine⟨⟨o,I.kIn p o hk,hc⟩,λa e=>?_⟩
   cases e
   exact⟨o,I.kIn _ o hk,hd⟩
  .have z:∃o,s.heap.get? p=some o/\o.ExactDict:=by
    rcases hk with⟨kvs,hk⟩|⟨kvs,hk⟩
    .obtain⟨_,_,_,_,o,_,_,e,ex,_⟩:=I.hok p _ hk
     exact⟨o,e,ex⟩
    .obtain⟨_,_,_,_,o,_,_,e,ex,_⟩:=I.hok p _ hk
     exact⟨o,e,ex⟩
   obtain⟨o,e,ex⟩:=z
   refine⟨⟨o,e,ex.1⟩,λa e2=>?_⟩
   cases e2
   exact⟨o,e,ex.2.1⟩
  .obtain⟨o,_,_,_,e,ex,_⟩:=I.hok p _ hk
   refine⟨⟨o,e,ex.1⟩,λa e2=>?_⟩
   cases e2
   exact⟨o,e,ex.2.1⟩
 |_=>exact False.elim ty
def tBM(K:PySem.W.Frag)(T:String)(r:V->List V->Hp->VK->Prop)(to:TE)(t:TA):TE:=λσ H Q=>to σ H λx H1=>tyV K T x H1/\t σ H1 λxs H2=>r x xs H2 Q
variable {o e:Expr} {es:List Expr} {to:TE} {t:TA} {name:Str} {apos cpos:Pos} {T id:String} {r:V->List V->Hp->VK->Prop}
theorem Lb(pa:PlainAttrs T)(slot:Slot T name id)(hty:typeOf (.builtin id)=pure (.type "method_descriptor"))(hm:MtR X id r)(ho:PE X o to)(ha:PA X (e::es) t)
  (hbase:attributeBase o name X.env (eval o X.env)=eval o X.env:=by rfl)
  (hfew:((backTo cpos (starEach (e::es) X.env)).all (λx=>!x.1)&&(backToKw cpos (keywordEach [] X.env)).all (λx=>x.1.isSome)
   &&decide ((e::es).length+([]:List Keyword).length+(if([]:List Keyword).isEmpty then 0 else 1)<30))=true:=by rfl)
  (hline:(apos.endLine==cpos.line)=true:=by rfl) (hs:starEach (e::es) X.env=(false,eval e X.env)::starEach es X.env:=by rfl) (hplain:(backTo cpos (starEach es X.env)).any (·.1)=false:=by rfl):
  PE X (.Call (.Attribute o name apos) (e::es) [] cpos) (tBM X.K T r to t):=by
 intro pins s σ H Q I h
 refine wpAny_Call_method_late hbase hfew hline rfl (thn (ho pins s σ H _ I h) λv s1 zq54=>?_)
 obtain⟨x,H1,I1,r1,ty,q1⟩:=zq54
 obtain⟨h1,h2⟩:=LC I1 r1 ty
 refine⟨T,id,pa,slot,hty,h1,h2,?_⟩
 have hA:=ha cpos pins s1 σ H1 _ I1 q1
 rw[hs]at hA ⊢
 refine Calls.callWith_builtin (by show(false||(backTo cpos (starEach es X.env)).any (·.1))=false;rw[hplain]<;>rfl) (Calls.evalArgs_plain ?_)
 exact thn hA λus s2 ⟨vs,H2,I2,r2,q2⟩=>hm pins s2 σ H2 x vs v us Q I2 r1 r2 q2
end
def MtM(X:Cx)(id:String)(r:V->List V->Hp->VK->Prop):Prop:=
 ∀(pins:List (Addr×Obj))(s:Shared)(σ:St)(H:Hp)(x:V)(xs:List V)(v:Value)(us:List Value)(Q:VK),Inv X pins σ H s->RelV x v->Vals xs us->r x xs H Q->
  wpAny (model X.prog X.w) X.A (call (.builtin id) (v::us)) (EP X pins σ Q) X.xe s
theorem Vals.one:∀{x:V}{us:List Value},Vals [x] us->∃u,us=[u]/\RelV x u
 |_,_,.cons r .nil=>⟨_,rfl,r⟩
theorem Vals.eraseIdx:∀{xs:List V}{us:List Value}(i:Nat),Vals xs us->Vals (xs.eraseIdx i) (us.eraseIdx i)
 |_,_,_,.nil=>.nil
 |_,_,0,.cons _ t=>t
 |_,_,i+1,.cons r t=>.cons r (Vals.eraseIdx i t)
theorem Vals.reverse{xs:List V}{us:List Value}(h:Vals xs us):Vals xs.reverse us.reverse:=by
 induction h with
 |nil=>exact .nil
 |cons r t ih=>rw[List.reverse_cons,List.reverse_cons];exact Vals.append ih (.cons r .nil)
theorem Vals.rep{xs:List V}{us:List Value}(h:Vals xs us):∀k:Nat,Vals (List.replicate k xs).flatten (List.replicate k us).flatten
 |0=>.nil
 |k+1=>by
  rw[List.replicate_succ,List.replicate_succ,List.flatten_cons,List.flatten_cons]
  exact Vals.append h (Vals.rep h k)
theorem uI{α:Type}:∀(l:List α)(i:Nat),(l.eraseIdx i).length<=l.length
 | [],_=>Zg _
 |_::_,0=>Nat.le_succ _
 |_::r,i+1=>Nat.succ_le_succ (uI r i)
theorem foldl_rep(its:List Value):∀(k:Nat)(acc:List Value),
  List.foldl (λx1 x2=>x1++x2) acc.toArray (List.replicate k its.toArray)=(acc++(List.replicate k its).flatten).toArray
 |0,acc=>by simp
 |k+1,acc=>by
  have e:acc.toArray++its.toArray=(acc++its).toArray:=by simp
  have e2:(acc++its)++(List.replicate k its).flatten=acc++(List.replicate (k+1) its).flatten:=by
   rw[List.replicate_succ,List.flatten_cons,List.append_assoc]
  rw[<-e2,<-foldl_rep its k (acc++its),<-e,List.replicate_succ,List.foldl_cons]
section
variable {X:Cx} {pins:List (Addr×Obj)} {σ:St} {H:Hp} {s:Shared} {l b:Addr} {xs ys zs:List V}
theorem Inv.lset{its its':List Value}{n:Nat}{f:Array Value->Array Value}{t':Nat}(I:Inv X pins σ H s)(hH:H l=some (.lst xs))
  (e:s.heap.get? l=some { cls:=.type "list",data:=.seq its.toArray n}) (hf:f its.toArray=its'.toArray) (hv:Vals ys its') (hz:ys.length<=sizeLine):
  Inv X pins σ (upd H l (.lst ys)) { s with heap:=s.heap.update l (Obj.mapSeq f),toks:=t'}:=by
 have q:=PySem.IsL.update e f
 rw[hf]at q
 refine I.write (x:=l) (e:=l) (by rw[hH];exact trivial) (.inl rfl) (λb' u hb hu=>(Heap.get?_update_other s.heap (Obj.mapSeq f) (Ne.symm hb)).trans hu) ⟨_,q⟩ ?_
 exact⟨hz,its',_,hv,q⟩
theorem Inv.lnew{its:List Value}{t':Nat}(I:Inv X pins σ H s)(hv:Vals ys its)(hz:ys.length<=sizeLine):
  Inv X pins σ (upd H s.heap.objs.size (.lst ys)) { s with heap:=s.heap.push { cls:=.type "list",data:=.seq its.toArray},toks:=t'}:=
 I.laid (λ_ _ q=>Zb _ q) (Zg _) ⟨hz,its,0,hv,Zf _ rfl⟩
theorem Inv.fresh(I:Inv X pins σ H s):H s.heap.objs.size=none:=I.hok.fresh (Zg _)
theorem Inv.lstM(I:Inv X pins σ H s)(hH:H l=some (.lst xs)):xs.length<=sizeLine/\∃(its:List Value)(n:Nat),Vals xs its/\xs.length=its.length/\s.heap.get? l=some { cls:=.type "list",data:=.seq its.toArray n}:=by
 obtain⟨z,its,n,r,e⟩:=I.hok l _ hH
 exact⟨z,its,n,r,r.length,e⟩
theorem wK{n:Nat}(h:n<=sizeLine):Builtin.List.listTooLong n=false:=by
 unfold Builtin.List.listTooLong
 exact decide_eq_false (by omega)
end
section
variable {X:Cx}
def Im:V->List V->Hp->VK->Prop:=λx vs H Q=>∃l xs y,x= .ref l/\vs=[y]/\H l=some (.lst xs)/\xs.length<sizeLine/\Q .non (upd H l (.lst (xs++[y])))
theorem Bw:MtM X "list.append" Im:=by
 intro pins s σ H x vs v us Q I rx rv h
 obtain⟨l,xs,y,rfl,rfl,hH,hz,q⟩:=h
 cases rx
 obtain⟨u,rfl,ru⟩:=rv.one
 obtain⟨z,its,n,r,hl,e⟩:=I.lstM hH
 refine call_meets F.slot_list_append ⟨_,e,rfl⟩ F.entry_list_append (F.args_list_append_2 _ _) (PySem.list_append l its.toArray n u (by rw[Zd];omega)) ⟨e,?_⟩
 refine⟨.non,_,I.lset (its':=its++[u]) hH e (by simp) (r.append (.cons ru .nil)) ?_,rfl,q⟩
 rw[List.length_append,List.length_singleton]
 omega
def HS:V->List V->Hp->VK->Prop:=λx vs H Q=>∃l b xs zs,x= .ref l/\vs=[.ref b]/\H l=some (.lst xs)/\H b=some (.lst zs)/\xs.length+zs.length<=sizeLine/\Q .non (upd H l (.lst (xs++zs)))
theorem Pq:MtM X "list.extend" HS:=by
 intro pins s σ H x vs v us Q I rx rv h
 obtain⟨l,b,xs,zs,rfl,rfl,hH,hB,hz,q⟩:=h
 cases rx
 obtain⟨u,rfl,ru⟩:=rv.one
 cases ru
 obtain⟨z,its,n,r,hl,e⟩:=I.lstM hH
 obtain⟨z2,its2,n2,r2,hl2,e2⟩:=I.lstM hB
 have hsz:its.toArray.size+its2.toArray.size<=sizeLine:=by rw[Zd,Zd];omega
 have hlong:¬(!its.toArray.isEmpty&&Builtin.List.listTooLong (its.toArray.size+its2.toArray.size))=true:=by
  rw[wK hsz,Bool.and_false]
  exact Zr
 refine call_meets F.slot_list_extend ⟨_,e,rfl⟩ F.entry_list_extend (F.args_list_extend_2 _ _)
  (AutoSeq1.list_extend_list_list_0 l its.toArray n b its2.toArray n2 hlong (by rw[Zd];omega) (by omega)) ⟨e,e2,?_⟩
 refine⟨.non,_,I.lset (its':=its++its2) hH e (by simp) (r.append r2) ?_,rfl,q⟩
 rw[List.length_append]
 omega
def Nr:V->List V->Hp->VK->Prop:=λx vs H Q=>∃l xs i k y,x= .ref l/\vs=[.int i]/\H l=some (.lst xs)/\ -(2 ^ 63)<=i/\i<2 ^ 63/\seqIndex? i xs.length=some k/\xs[k]? =some y/\Q y (upd H l (.lst (xs.eraseIdx k)))
theorem Gh:MtM X "list.pop" Nr:=by
 intro pins s σ H x vs v us Q I rx rv h
 obtain⟨l,xs,i,k,y,rfl,rfl,hH,h1,h2,hk,hy,q⟩:=h
 cases rx
 obtain⟨u,rfl,ru⟩:=rv.one
 obtain⟨t,rfl⟩:=ru
 obtain⟨z,its,n,r,hl,e⟩:=I.lstM hH
 obtain⟨w,hw,rw'⟩:=r.get hy
 refine call_meets F.slot_list_pop ⟨_,e,rfl⟩ F.entry_list_pop (F.args_list_pop_2 _ _)
  (MeetsSeq.list_pop_at l its.toArray n i t k w (fitsIndex_both h1 h2) (by rw[Zd,<-hl];exact hk) (by rw[<-Array.getElem?_toList];exact hw) (by rw[Zd];omega)) ⟨e,?_⟩
 refine⟨y,_,I.lset (its':=its.eraseIdx k) hH e ?_ (r.eraseIdx k) ?_,rw',q⟩
 .show its.toArray.eraseIdxIfInBounds k=(its.eraseIdx k).toArray
  rw[List.eraseIdxIfInBounds_toArray]
 .have:=uI xs k
  omega
def rCat:R2:=λx y H Q=>∃l b xs zs,x= .ref l/\y= .ref b/\H l=some (.lst xs)/\H b=some (.lst zs)/\xs.length+zs.length<=sizeLine/\∀p,H p=none->Q (.ref p) (upd H p (.lst (xs++zs)))
theorem Dn:OpR X (binaryOp .Add) rCat:=by
 intro pins s σ H x y v u Q I rx ry h
 obtain⟨l,b,xs,zs,rfl,rfl,hH,hB,hz,q⟩:=h
 cases rx
 cases ry
 obtain⟨z,its,n,r,hl,e⟩:=I.lstM hH
 obtain⟨z2,its2,n2,r2,hl2,e2⟩:=I.lstM hB
 refine PySem.P.add_list e e2 ?_ (by rw[Zd,Zd];omega)
 have ea:its.toArray++its2.toArray=(its++its2).toArray:=by simp
 rw[ea]
 exact⟨.ref _,_,I.lnew (t':=s.toks) (r.append r2) (by rw[List.length_append];omega),rfl,q _ I.fresh⟩
def rRep:R2:=λx y H Q=>∃l k xs,x= .ref l/\y= .int k/\H l=some (.lst xs)/\ -(2 ^ 63)<=k/\k<2 ^ 63/\xs.length*k.toNat<=sizeLine/\
 ∀p,H p=none->Q (.ref p) (upd H p (.lst (List.replicate k.toNat xs).flatten))
theorem len_rep{α:Type}(xs:List α)(k:Nat):(List.replicate k xs).flatten.length=k*xs.length:=by
 induction k with
 |zero=>simp
 |succ k ih=>rw[List.replicate_succ,List.flatten_cons,List.length_append,ih,Nat.succ_mul,Nat.add_comm]
theorem OD:OpR X (binaryOp .Mult) rRep:=by
 intro pins s σ H x y v u Q I rx ry h
 obtain⟨l,k,xs,rfl,rfl,hH,h1,h2,hz,q⟩:=h
 cases rx
 obtain⟨t,rfl⟩:=ry
 obtain⟨z,its,n,r,hl,e⟩:=I.lstM hH
 have hlen:its.toArray.size*k.toNat<=sizeLine:=by rw[Zd,<-hl];exact hz
 have hcap:¬its.toArray.size*k.toNat>(2 ^ 63-1) / 8:=by
  have:(sizeLine:Nat)<=(2 ^ 63-1) / 8:=by decide
  omega
 have hfit:¬(!Builtin.List.listFitsIndex k)=true:=by
  rw[fitsIndex_both h1 h2]
  exact Zr
 have hlong:¬Builtin.List.listTooLong (its.toArray.size*k.toNat)=true:=by
  rw[wK hlen]
  exact Zr
 have hnew:List.foldl (λx1 x2=>x1++x2) #[] (List.replicate (if its.toArray.isEmpty=true then 0 else k.toNat) its.toArray)=(List.replicate k.toNat its).flatten.toArray:=by
  have f0:∀m:Nat,List.foldl (λx1 x2=>x1++x2) #[] (List.replicate m its.toArray)=(List.replicate m its).flatten.toArray:=λm=>by
   have:=foldl_rep its m []
   rw[List.nil_append]at this
   exact this
  rw[f0]
  cases its with
  |nil=>simp
  |cons a r'=>rw[if_neg (by simp)]
 refine wpAny_binaryOp_repeat_ref (T:="list") (U:="int") (by decide) ⟨_,e,rfl⟩ (λs'=>typeIs_int s' k t) noFill_list_mul F.fills_int_mul F.slot_int_rmul repeat_list F.slot_int_index.lookup
  (call_meets F.slot_int_rmul (typeIs_int s k t) F.entry_int_rmul (F.args_int_rmul_2 _ _) (int___rmul___int_list k t l its.toArray n)
   ⟨e,rfl,⟨_,e,rfl⟩,call_meets F.slot_list_mul ⟨_,e,rfl⟩ F.entry_list_mul (F.args_list_mul_2 _ _) (AutoListH.list___mul___list_int_3 l its.toArray n k t hfit hcap hlong) ⟨e,?_⟩⟩)
 rw[hnew]
 exact⟨.ref _,_,I.lnew (t':=s.toks) (r.rep k.toNat) (by rw[len_rep,Nat.mul_comm];exact hz),rfl,q _ I.fresh⟩
end
end L2
namespace Att
open PySem PySem.W PySem.Calls PyProof.Rows
theorem qw{P:Params}{h:Heap}:∀(ns:List Int)(vs:List Value),WellAll P h vs (ns.map WData.int)->IntsAre vs ns:=by
 intro ns
 induction ns with
 |nil=>
  intro vs w
  rw[List.map_nil]at w
  cases w
  exact .nil
 |cons n ns ih=>
  intro vs w
  rw[Zj]at w
  cases w with
  |cons a b=>
   cases a
   exact .cons _ _ (ih _ b)
theorem Ci{l:OpenLaw}{n:Nat}(hn:l.most=some n){P:Params}{h:Heap}{args:List WData}{vals:List Value}
  (hpre:l.row.toRowW.claim.pre args=true) (hwl:WellAll P h vals args):
  ∃a vs ns,vals=[Value.ref a]/\args=[WData.list (ns.map WData.int)]/\h.get? a=some { cls:=.type "list",data:=.seq vs.toArray}/\IntsAre vs ns/\ns.length<=n:=by
 have hsh:WShape.hasAll [] args [.list .int]=true:=(pre_splitW hpre).1
 have hc:l.pre.holds [] { args:=args}=true:=(pre_splitW hpre).2
 obtain⟨d,r,rfl,h1,h2⟩:=hasAllW_cons hsh
 obtain rfl:=hasAllW_nil h2
 obtain⟨xs,rfl,h3⟩:=hasW_list h1
 obtain⟨ns,rfl⟩:=items_int h3
 have hlen:ns.length<=n:=by
  unfold OpenLaw.pre at hc
  have h4:(WTm.not (.lt (.lit (.int (n:Int))) (.len (.arg 0)))).holds [] { args:=[.list (ns.map .int)] }=true:=by
   have h4:=(holds_andW hc).1
   rw[hn]at h4
   exact h4
  have h5:=condW_of h4 (w_not (w_lt w_lit (w_len_list (w_arg rfl))))
  rw[Zu]at h5
  refine Nat.le_of_not_lt λq=>?_
  have q':(n:Int)<((ns.length:Nat):Int):=by omega
  first
   |(rw[decide_eq_true q']at h5;exact absurd h5 (by decide))
   |(simp at h5;omega)
 cases hwl with
 |cons w1 w2=>
  cases w2
  cases w1 with
  |list ho hall=>exact⟨_,_,ns,rfl,rfl,ho,qw ns _ hall,hlen⟩
theorem BJ(l:OpenLaw)(args:List WData):l.row.toRowW.claim.post args (.bool true) args=true:=
 postW_of (r:=l.row.toRowW) (X:=(true==true))
  (show WShape.has [] (.bool true) .bool=true by first|rfl|decide|simp[WShape.has,WShape.arms,WShape.armsAll])
  (show(WTm.eq .res (.lit (.bool true))).value [] { args:=args,res:=some (.bool true),after:=args}=some (.bool (true==true))from w_eq_bool (w_res rfl) w_lit) rfl
theorem attach_call{l:OpenLaw}{n:Nat}{q:Program}{loose:List Str}{XP:(Str->Option Value)->Heap->Prop}{YP:World->Heap->Prop}{d:DefRec}
  (hn:l.most=some n) (hdf:d.params.defaults=[])
  (call:∀(w:World)(s₀ s₁:Shared)(mg mb:Str->Option Value)(fa:Addr)(o:Obj)(pm cd doc:Value)(a:Addr)(vs:List Value)(ns:List Int),
   Ground q loose [] XP w s₀ mg mb s₁.heap->YP w s₁.heap->
   s₁.heap.get? fa=some o->o.data= .func (docDef d.name d.params d.body d.scope pm cd doc)->s₁.heap.CodeRec cd d.name->mg d.name=some (.ref fa)->
   s₁.heap.get? a=some { cls:=.type "list",data:=.seq vs.toArray}->IntsAre vs ns->ns.length<=n->s₁.gens= #[]->
   codeAny (model l.prog w) callerA (.call (.ref fa) ⟨[.ref a],[]⟩) (λr s'=>r= .ok (.ret (.bool true))/\OldK s₁.heap s'.heap/\s'.os=s₁.os/\AllBare s'.gens) s₁):
  WalkO q loose XP YP l.row.toRowW d [] (λf vs=>PySem.call f vs):=by
 intro w s₀ s₁ mg mb G Y fa o pm cd doc dV kV ho hd hcd hD hmg hg args vals as hpre hlay hrd hwl hlo
 obtain rfl:dV= .none:=Dflts.none hD hdf
 obtain rfl:kV= .none:=Dflts.noKw hD
 obtain⟨a,vs,ns,rfl,rfl,hobj,hints,hlen⟩:=Ci hn hpre hwl
 refine enter_call (codeAny_mono (call w s₀ s₁ mg mb fa o pm cd doc a vs ns G Y ho (fd_plain hd) hcd hmg hobj hints hlen hg) λr s' hq=>?_)
 obtain⟨rfl,h2,h3,h4⟩:=hq
 exact⟨.inl ⟨.bool true,.bool true,[],rfl,λ_=>rfl,.bool true,BJ l _,λ_=>⟨List.Pairwise.nil,λ_ hm=>(nomatch hm)⟩⟩,h2,h3,h4⟩
end Att
namespace L2
open PySem PySem.Spec PyProof.Rows
theorem uw:∀{vs:List Value}{ns:List Int},IntsAre vs ns->Vals (ns.map V.int) vs
 |_,_,.nil=>.nil
 |_,_,.cons n t h=>.cons ⟨t,rfl⟩ (uw h)
def jY(s:Stmt):Arguments:=match s with
 | .FunctionDef _ a _ _ _ _ _ _ _ _=>a
 |_=>{ posonlyargs:=[],args:=[],vararg:=none,kwonlyargs:=[],kw_defaults:=[],kwarg:=none,defaults:=[] }
def iY(s:Stmt):List Stmt:=match s with
 | .FunctionDef _ _ b _ _ _ _ _ _ _=>b
 |_=>[]
def aL(s:Stmt):Scope:=match s with
 | .FunctionDef _ _ _ _ _ _ sc _ _ _=>sc
 |_=>{ kind:=.function,names:=[],isGenerator:=false,isCoroutine:=false}
abbrev CX0:CXT:=λ_ _ _ _ _ _=>False
abbrev E0:XK:=λ_ _ _=>False
theorem Qv{X:Cx}:zL CX0 X E0:=λ_ _ _ _ _ _ _ h=>h.elim
def lC(H H':Hp):Prop:=∀b o,H b=some o->H' b=some o
theorem lC.refl(H:Hp):lC H H:=λ_ _ h=>h
theorem lC.trans{H H1 H2:Hp}(a:lC H H1)(b:lC H1 H2):lC H H2:=λc o h=>b c o (a c o h)
def wY(X:Cx):List Nat->List Str->Prop
 | [],[]=>True
 |i::is,x::xs=>(X.N[i]? =some x/\(X.env.kindOf x=some .cell∨X.env.kindOf x=some .free))/\wY X is xs
 |_,_=>False
theorem wY.length{X:Cx}:∀{is:List Nat}{xs:List Str},wY X is xs->is.length=xs.length
 | [],[],_=>rfl
 |_::_,_::_,h=>by rw[List.length_cons,List.length_cons,wY.length h.2]
theorem wY.get{X:Cx}:∀{is:List Nat}{xs:List Str}{j i:Nat},wY X is xs->is[j]? =some i->∃x,xs[j]? =some x/\X.N[i]? =some x/\(X.env.kindOf x=some .cell∨X.env.kindOf x=some .free)
 | [],[],_,_,_,e=>by simp at e
 |i::is,x::xs,0,k,h,e=>by
  simp at e;subst e
  exact⟨x,rfl,h.1⟩
 |i::is,x::xs,j+1,k,h,e=>by
  obtain⟨y,e1,e2⟩:=wY.get (j:=j) (i:=k) h.2 (by simpa using e)
  exact⟨y,by simpa using e1,e2⟩
def su(σ:St)(is:List Nat):St:=is.map λi=>(σ[i]?).join
theorem uA{σ:St}{is:List Nat}{j:Nat}{v:V}(e:(su σ is)[j]? =some (some v)):∃i,is[j]? =some i/\σ[i]? =some (some v):=by
 unfold su at e
 rw[List.getElem?_map]at e
 cases q:is[j]? with
 |none=>rw[q]at e;cases e
 |some i=>
  rw[q]at e
  have e1:(σ[i]?).join=some v:=by simpa using e
  cases q2:σ[i]? with
  |none=>rw[q2]at e1;cases e1
  |some o=>
   rw[q2]at e1
   have e2:o=some v:=e1
   subst e2
   exact⟨i,rfl,q2⟩
def cu(env:Env):List (Str×NameKind)->List (Str×Addr)->List (Str×Addr)
 | [],acc=>acc
 |(n,k)::r,acc=>cu env r (if k== .free then(match env.cells.lookup n with|some c=>(n,c)::acc|none=>acc)else acc)
theorem xQ{env:Env}:∀(names:List (Str×NameKind))(acc:List (Str×Addr)),(∀y∈names,y.2= .free->∃c,env.cells.lookup y.1=some c)->
  (forIn names acc λ(p:Str×NameKind)(r:List (Str×Addr))=>if p.2== .free then(do let c<-cellOf env p.1;pure (ForInStep.yield ((p.1,c)::r)))else pure (ForInStep.yield r):Sem (List (Str×Addr)))=pure (cu env names acc)
 | [],acc,_=>rfl
 |(n,k)::r,acc,h=>by
  have hr:=xQ (env:=env) r
  rw[List.forIn_cons]
  unfold cu
  by_cases hk:(k==NameKind.free)=true
  .obtain⟨c,hc⟩:=h (n,k) List.mem_cons_self (by simpa using hk)
   simp only[hk,if_true]
   unfold cellOf
   simp only at hc
   rw[hc]
   simp only[pure_bind]
   exact hr _ λy hy=>h y (List.mem_cons_of_mem _ hy)
  .simp only[hk]
   simp only[pure_bind,Bool.false_eq_true,if_false]
   exact hr _ λy hy=>h y (List.mem_cons_of_mem _ hy)
theorem ir{scope:Scope}{env:Env}(h:∀y∈scope.names,y.2= .free->∃c,env.cells.lookup y.1=some c):closureFor scope env=pure (cu env scope.names []):=by
 have e:=xQ (env:=env) scope.names [] h
 rw[<-e]
 unfold closureFor
 simp only[bind_pure]
theorem jL{env:Env}:∀{names:List (Str×NameKind)}{acc:List (Str×Addr)}{p:Str×Addr},p∈cu env names acc->p∈acc∨env.cells.lookup p.1=some p.2
 | [],acc,p,h=>.inl h
 |(n,k)::r,acc,p,h=>by
  unfold cu at h
  rcases jL h with h|h
  .split at h
   .split at h
    .rename_i c hc
     rcases Zi.mp h with e|h
     .subst e;exact .inr hc
     .exact .inl h
    .exact .inl h
   .exact .inl h
  .exact .inr h
theorem pR{env:Env}{x:Str}:∀{names:List (Str×NameKind)}{acc:List (Str×Addr)},(∀k,(x,k)∈names->k≠ .free)->(cu env names acc).lookup x=acc.lookup x
 | [],acc,_=>rfl
 |(n,k)::r,acc,h=>by
  unfold cu
  rw[pR λk hk=>h k (List.mem_cons_of_mem _ hk)]
  by_cases hk:(k==NameKind.free)=true
  .rw[if_pos hk]
   have hne:x≠n:=by
    rintro rfl
    exact h k List.mem_cons_self (by simpa using hk)
   split
   .rw[List.lookup_cons]
    have:(x==n)=false:=by simpa using hne
    rw[this]
   .rfl
  .rw[if_neg hk]
theorem lG{env:Env}{x:Str}{c:Addr}(hc:env.cells.lookup x=some c):∀{names:List (Str×NameKind)}{acc:List (Str×Addr)},(x,NameKind.free)∈names∨acc.lookup x=some c->(cu env names acc).lookup x=some c
 | [],acc,h=>by
  rcases h with h|h
  .simp at h
  .exact h
 |(n,k)::r,acc,h=>by
  unfold cu
  apply lG hc
  by_cases hr:(x,NameKind.free)∈r
  .exact .inl hr
  .right
   by_cases hx:x=n
   .subst hx
    by_cases hk:(k==NameKind.free)=true
    .rw[if_pos hk,hc]
     simp
    .rw[if_neg hk]
     rcases h with h|h
     .rcases Zi.mp h with e|h
      .exfalso;apply hk
       cases e;rfl
      .exact absurd h hr
     .exact h
   .have h':acc.lookup x=some c:=by
     rcases h with h|h
     .rcases Zi.mp h with e|h
      .cases e;exact absurd rfl hx
      .exact absurd h hr
     .exact h
    have hxn:(x==n)=false:=by simpa using hx
    split
    .split
     .rw[List.lookup_cons,hxn];exact h'
     .exact h'
    .exact h'
structure CO(lo:Nat)(h:Heap)(acc:List (Str×Addr)):Prop where
 lt:∀p∈acc,p.2<h.objs.size
 em:∀p∈acc,lo<=p.2->h.IsCell p.2 none
 ap:∀p∈acc,∀q∈acc,p.2=q.2->lo<=p.2->p.1=q.1
theorem CO.go{lo:Nat}:∀(names:List (Str×NameKind))(h:Heap)(acc:List (Str×Addr)),CO lo h acc->lo<=h.objs.size->CO lo (pushCells h names) (cellsFrom h.objs.size names acc)
 | [],h,acc,x,_=>x
 |(n,k)::r,h,acc,x,hl=>by
  unfold pushCells cellsFrom
  by_cases hk:(k==NameKind.cell)=true
  .rw[if_pos hk,if_pos hk]
   have:=CO.go (lo:=lo) r (h.push { cls:=.type "cell",data:=.cell none}) ((n,h.objs.size)::acc) ⟨λp hp=>?_,λp hp hlo=>?_,λp hp q hq e hlo=>?_⟩ (by rw[Heap.size_push];omega)
   .rwa[Heap.size_push]at this
   .rw[Heap.size_push]
    rcases Zi.mp hp with e|hp
    .subst e;exact Nat.lt_succ_self _
    .exact Nat.lt_succ_of_lt (x.lt p hp)
   .rcases Zi.mp hp with e|hp
    .subst e;exact⟨_,Zf _ rfl,rfl⟩
    .exact(x.em p hp hlo).keeps λb o e=>Zb _ e
   .rcases Zi.mp hp with e1|hp<;>rcases Zi.mp hq with e2|hq
    .subst e1;subst e2;rfl
    .subst e1
     have e':h.objs.size=q.2:=e
     exact absurd (x.lt q hq) (by rw[<-e'];exact Nat.lt_irrefl _)
    .subst e2
     have e':p.2=h.objs.size:=e
     exact absurd (x.lt p hp) (by rw[e'];exact Nat.lt_irrefl _)
    .exact x.ap p hp q hq e hlo
  .rw[if_neg hk,if_neg hk]
   exact CO.go r h acc x hl
theorem vP:∀{names:List (Str×NameKind)}{m:Nat}{acc:List (Str×Addr)}{p:Str×Addr},p∈cellsFrom m names acc->p∈acc∨m<=p.2
 | [],m,acc,p,h=>.inl h
 |(n,k)::r,m,acc,p,h=>by
  unfold cellsFrom at h
  by_cases hk:(k==NameKind.cell)=true
  .rw[if_pos hk]at h
   rcases vP h with h|h
   .rcases Zi.mp h with e|h
    .subst e;exact .inr (Zg _)
    .exact .inl h
   .exact .inr (by omega)
  .rw[if_neg hk]at h
   exact vP h
theorem zX{x:Str}:∀{names:List (Str×NameKind)}{m:Nat}{acc:List (Str×Addr)},(∀k,(x,k)∈names->k≠ .cell)->(cellsFrom m names acc).lookup x=acc.lookup x
 | [],m,acc,_=>rfl
 |(n,k)::r,m,acc,h=>by
  unfold cellsFrom
  by_cases hk:(k==NameKind.cell)=true
  .rw[if_pos hk,zX λk hk=>h k (List.mem_cons_of_mem _ hk),List.lookup_cons]
   have hne:x≠n:=by
    rintro rfl
    exact h k List.mem_cons_self (by simpa using hk)
   have:(x==n)=false:=by simpa using hne
   rw[this]
  .rw[if_neg hk]
   exact zX λk hk=>h k (List.mem_cons_of_mem _ hk)
section
variable {M:Model} {A:Around} {E:Value->Shared->Prop} {s:Shared}
theorem ni{scope:Scope}{globals:Addr}{closure:List (Str×Addr)}{qual:Str}{func:Option Addr}{code:Value}{around:Option Env}{builtins:Addr}{Q:Env->Shared->Prop}
  (h:Q (newEnv scope s.heap.objs.size globals (cellsFrom (s.heap.objs.size+1) scope.names closure) qual func code around builtins)
   { s with heap:=pushCells (s.heap.push { cls:=.type (if around.isSome then "dict" else "frame"),data:=.dict #[] }) scope.names}):
  wpAny M A (newFunctionEnv scope globals closure [] qual func code around builtins) Q E s:=by
 simp only[newFunctionEnv]
 refine wpAny_bind (wpAny_alloc ?_)
 refine wpAny_bind (wpAny_layCells _ (λname kind cells=>by cases hkc:kind==NameKind.cell<;>simp[hkc]) _ _ _ _ ?_)
 rw[List.forIn_nil]
 refine wpAny_bind (wpAny_pure (wpAny_pure ?_))
 have e:(s.heap.push ({ cls:=.type (if around.isSome then "dict" else "frame"),data:=.dict #[] }:Obj)).objs.size=s.heap.objs.size+1:=Heap.size_push ..
 rw[<-e]at h
 cases around<;>exact h
end
structure eY(X:Cx)(own cap:List Str)(capI:List Nat)(scope:Scope):Prop where
 kind:scope.kind= .function
 nd:(scope.names.map (·.1)).Nodup
 caps:wY X capI cap
 fre:∀y∈scope.names,y.2= .free->y.1∈cap
 cfr:∀x∈cap,(x,NameKind.free)∈scope.names
theorem qT{x:Str}{k k':NameKind}:∀{names:List (Str×NameKind)},(names.map (·.1)).Nodup->(x,k)∈names->(x,k')∈names->k=k'
 | [],_,h,_=>by simp at h
 |p::r,nd,h1,h2=>by
  rw[Zj,List.nodup_cons]at nd
  rcases Zi.mp h1 with e1|h1<;>rcases Zi.mp h2 with e2|h2
  .rw[<-e2]at e1;exact(Prod.mk.inj e1).2
  .exact absurd (by rw[<-e1];exact Zq.mpr ⟨_,h2,rfl⟩) nd.1
  .exact absurd (by rw[<-e2];exact Zq.mpr ⟨_,h1,rfl⟩) nd.1
  .exact qT nd.2 h1 h2
theorem dG{α:Type}{x:Str}{k:α}:∀{names:List (Str×α)},(names.map (·.1)).Nodup->(x,k)∈names->names.lookup x=some k
 | [],_,h=>by simp at h
 |(n,k')::r,nd,h=>by
  rw[Zj,List.nodup_cons]at nd
  rw[List.lookup_cons]
  rcases Zi.mp h with e|hr
  .cases e;simp
  .have hne:x≠n:=by
    intro e
    subst e
    exact nd.1 (Zq.mpr ⟨_,hr,rfl⟩)
   have:(x==n)=false:=by simpa using hne
   rw[this]
   exact dG nd.2 hr
theorem pZ{scope:Scope}{env:Env}{x:Str}{k:NameKind}(h:(x,k)∈(relabel scope env).names):(x,k)∈scope.names∨(k= .cell/\(x,NameKind.free)∈scope.names):=by
 unfold relabel at h
 obtain⟨⟨n,k'⟩,hm,e⟩:=Zq.mp h
 dsimp only at e
 split at e
 .rename_i hc
  cases e
  have hk:k'=NameKind.free:=by
   simp only[Zo,beq_iff_eq]at hc
   exact hc.1.1
  subst hk
  exact .inr ⟨rfl,hm⟩
 .cases e;exact .inl hm
theorem wy{scope:Scope}{env:Env}:(relabel scope env).names.map (·.1)=scope.names.map (·.1):=by
 unfold relabel
 rw[List.map_map]
 apply List.map_congr_left
 rintro⟨n,k⟩ _
 show(if _ then(n,NameKind.cell)else(n,k)).1=n
 split<;>rfl
theorem vI{scope:Scope}{env:Env}{x:Str}(nd:(scope.names.map (·.1)).Nodup)(h:(x,NameKind.free)∈scope.names):(relabel scope env).names.lookup x=some .cell∨(relabel scope env).names.lookup x=some .free:=by
 have nd':((relabel scope env).names.map (·.1)).Nodup:=by rw[wy];exact nd
 by_cases hc:(NameKind.free==NameKind.free&&env.scope.kind== .function&&env.kindOf x==some .cell)=true
 .left
  refine dG nd' ?_
  unfold relabel
  refine Zq.mpr ⟨(x,NameKind.free),h,?_⟩
  dsimp only
  rw[if_pos hc]
 .right
  refine dG nd' ?_
  unfold relabel
  refine Zq.mpr ⟨(x,NameKind.free),h,?_⟩
  dsimp only
  rw[if_neg hc]
def dF(X:Cx)(own cap:List Str)(scope:Scope)(cs:List (Str×Addr))(C:Addr)(fp:List Addr)(s2:Shared)(H2:Hp):Cx where
 prog:=X.prog
 w:=X.w
 K:=X.K
 mg:=X.mg
 base:=X.base
 A:=X.A
 N:=own++cap
 s₀:=s2
 H₀:=H2
 env:=compEnvC scope cs C X.env
 outer:=X.stack
 stack:=X.stack
 ex:=fp
 fn:=λx=>own.contains x
 calm:=X.calm
 pn:=[]
 xe:=λ_ _=>False
def bz(own:List Str)(σ:St)(capI:List Nat):St:=List.replicate own.length none++su σ capI
section
variable {X:Cx} {pins:List (Addr×Obj)} {σ:St} {H:Hp} {s:Shared} {own cap:List Str} {capI:List Nat} {scope:Scope}
theorem eY.cells(B:eY X own cap capI scope)(I:Inv X pins σ H s):∀y∈scope.names,y.2= .free->∃c,X.env.cells.lookup y.1=some c:=λy hy e=>by
 have hm:=B.fre y hy e
 obtain⟨j,hj⟩:=List.getElem?_of_mem hm
 have hlt:j<capI.length:=by rw[B.caps.length];exact(Zh.mp hj).1
 obtain⟨x,e1,_,k⟩:=B.caps.get (j:=j) (i:=capI[j]) (by simp[hlt])
 rw[hj]at e1
 cases e1
 exact I.ok.has _ k
theorem Inv.comp{fp:List Addr}{h0 h1:Heap}{C:Addr}{tk:Nat}(I:Inv X pins σ H s)(B:eY X own cap capI scope)(hown:∀x∈own,(x,NameKind.free)∉scope.names)(hf:∀b∈fp,jk X pins H b)(ho:∀b∈fp,∃o,s.heap.get? b=some o)
  (hk0:∀b o,s.heap.get? b=some o->h0.get? b=some o) (hsz:s.heap.objs.size<=h0.objs.size) (hC:C=h0.objs.size) (h1e:h1=pushCells (h0.push { cls:=.type "dict",data:=.dict #[] }) scope.names):
  Inv (dF X own cap scope (cellsFrom (C+1) scope.names (cu X.env scope.names [])) C fp s H) [] (bz own σ capI) H { s with heap:=h1,toks:=tk}:=by
 have hCs:s.heap.objs.size<=C:=by rw[hC];exact hsz
 have hpush:(h0.push ({ cls:=.type "dict",data:=.dict #[] }:Obj)).objs.size=C+1:=by rw[hC];exact Heap.size_push ..
 have keep1:∀b o,h0.get? b=some o->h1.get? b=some o:=λb o e=>by rw[h1e];exact pushCells_keeps _ _ _ _ (Zb _ e)
 have keep:∀b o,s.heap.get? b=some o->h1.get? b=some o:=λb o e=>keep1 b o (hk0 b o e)
 have hCo:h1.get? C=some { cls:=.type "dict",data:=.dict #[] }:=by
  rw[h1e]
  refine pushCells_keeps _ _ _ _ ?_
  rw[hC];exact Zf _ rfl
 have clo_old:∀p∈cu X.env scope.names [],X.env.cells.lookup p.1=some p.2:=λp hp=>(jL hp).elim (λz=>by simp at z) id
 have old_lt:∀x c,X.env.cells.lookup x=some c->c<s.heap.objs.size:=λx c e=>let⟨v,q⟩:=I.cell x c e;q.lt
 have co0:CO (C+1) (h0.push { cls:=.type "dict",data:=.dict #[] }) (cu X.env scope.names []):=by
  refine⟨λp hp=>?_,λp hp hlo=>?_,λp hp q hq e hlo=>?_⟩
  .rw[hpush];exact Nat.lt_succ_of_lt (Zc (old_lt _ _ (clo_old p hp)) hCs)
  .exact absurd (Zc (old_lt _ _ (clo_old p hp)) (Zl hCs (Zl (Nat.le_succ _) hlo))) (Nat.lt_irrefl _)
  .exact absurd (Zc (old_lt _ _ (clo_old p hp)) (Zl hCs (Zl (Nat.le_succ _) hlo))) (Nat.lt_irrefl _)
 have co:=CO.go scope.names _ _ co0 (by rw[hpush];exact Zg _)
 rw[hpush,<-h1e]at co
 have csm:∀x c,(cellsFrom (C+1) scope.names (cu X.env scope.names [])).lookup x=some c->(X.env.cells.lookup x=some c/\c<s.heap.objs.size)∨(C+1<=c/\h1.IsCell c none):=λx c e=>by
  have hm:=Zt e
  rcases vP hm with z|z
  .have q:=clo_old _ z
   exact .inl ⟨q,old_lt _ _ q⟩
  .exact .inr ⟨z,co.em _ hm z⟩
 have fresh:∀b,s.heap.objs.size<=b->H b=none:=λb hb=>I.hok.fresh hb
 have eout:(dF X own cap scope (cellsFrom (C+1) scope.names (cu X.env scope.names [])) C fp s H).fs=frs X.stack:=rfl
 refine⟨⟨I.ok.mod,?_,I.ok.glob,I.ok.blt,hCs,?_,?_,?_,I.ok.hd,I.ok.frames,.inl rfl,?_,I.bs,Zl I.ok.bsz I.sz,?_,?_,I.stack,I.stkFree⟩,rfl,I.bare.again,Un.kept keep,?_,?_,fresh C hCs,?_,?_,I.hok.kept keep,?_⟩
 .exact B.kind
 .
  intro x y c e1 e2
  have e1':(cellsFrom (C+1) scope.names (cu X.env scope.names [])).lookup x=some c:=e1
  have e2':(cellsFrom (C+1) scope.names (cu X.env scope.names [])).lookup y=some c:=e2
  rcases csm x c e1' with⟨z1,l1⟩|⟨z1,_⟩
  .rcases csm y c e2' with⟨z2,_⟩|⟨z2,_⟩
   .exact I.ok.inj x y c z1 z2
   .exact absurd (Zc l1 (Zl hCs (Zl (Nat.le_succ _) z2))) (Nat.lt_irrefl _)
  .exact co.ap _ (Zt e1') _ (Zt e2') rfl z1
 .
  intro x hx
  have hx':(relabel scope X.env).names.lookup x=some .cell∨(relabel scope X.env).names.lookup x=some .free:=hx
  have hm:(x,NameKind.cell)∈scope.names∨(x,NameKind.free)∈scope.names:=by
   rcases hx' with e|e
   .rcases pZ (Zt e)with q|q
    .exact .inl q
    .exact .inr q.2
   .rcases pZ (Zt e)with q|q
    .exact .inr q
    .cases q.1
  rcases hm with q|q
  .exact Option.isSome_iff_exists.mp (PySem.W.cellsFrom_some scope.names (C+1) _ (.inl (dG B.nd q)))
  .obtain⟨c,hc⟩:=B.cells I _ q rfl
   exact Option.isSome_iff_exists.mp (PySem.W.cellsFrom_some scope.names (C+1) _ (.inr (by rw[lG hc (.inl q)];rfl)))
 .
  intro x c hx e
  have e':(cellsFrom (C+1) scope.names (cu X.env scope.names [])).lookup x=some c:=e
  have hxo:x∈own:=by simpa[dF]using hx
  rcases vP (Zt e')with z|z
  .exfalso
   have nf:=hown x hxo
   have:(cu X.env scope.names []).lookup x=none:=by
    rw[pR λk hk=>by rintro rfl;exact nf hk];rfl
   have hl:(cellsFrom (C+1) scope.names (cu X.env scope.names [])).lookup x=some c:=e'
   have q:∀(l:List (Str×Addr)),(x,c)∈l->l.lookup x≠none:=by
    intro l
    induction l with
    |nil=>intro h;simp at h
    |cons p r ih=>
     intro h
     obtain⟨n,d⟩:=p
     rw[List.lookup_cons]
     by_cases hn:(x==n)=true
     .rw[hn];simp
     .have hn':(x==n)=false:=by simpa using hn
      rw[hn']
      rcases Zi.mp h with e|h
      .cases e;simp at hn'
      .exact ih h
   exact q _ z this
  .exact Zl hCs (Zl (Nat.le_succ _) z)
 .
  intro b hb
  obtain⟨o,hbo⟩:=ho b hb
  have hlt:=Ze hbo
  refine⟨Zk (Zc hlt hCs),λx c e=>?_⟩
  rcases csm x c e with⟨z,_⟩|⟨z,_⟩
  .exact(hf b hb).2.2.2.2.1 x c z
  .exact Nat.ne_of_gt (Zc hlt (Zl hCs (Zl (Nat.le_succ _) z)))
 .
  intro b o e hb
  rcases(hf b hb).2.2.2.1 with z|z
  .exact I.ok.noex b o e z
  .exact absurd (Zc (Ze e) (Zl I.ok.bsz z)) (Nat.lt_irrefl _)
 .
  intro b hb hz
  rcases Zi.mp (I.stkSub b hz)with z|z
  .exact(hf b hb).2.1 z
  .exact(hf b hb).2.2.1 z
 .
  obtain⟨m,hn,hl⟩:=I.loc
  refine⟨λ_=>none,⟨_,#[],0,hCo,rfl,by intro e he;simp at he,λ_=>rfl⟩,λi x v e1 e2 hv=>?_⟩
  have e2':(bz own σ capI)[i]? =some (some v):=e2
  have e1':(own++cap)[i]? =some x:=e1
  unfold bz at e2'
  by_cases hi:i<own.length
  .rw[Zs (by simpa using hi),List.getElem?_replicate]at e2'
   split at e2'<;>cases e2'
  .rw[List.getElem?_append_right (by simpa using hi)]at e2'
   rw[List.getElem?_append_right (by simpa using hi)]at e1'
   rw[List.length_replicate]at e2'
   obtain⟨i0,q1,q2⟩:=uA e2'
   obtain⟨y,q3,q4,q5⟩:=B.caps.get q1
   rw[e1']at q3
   cases q3
   have hxf:(x,NameKind.free)∈scope.names:=B.cfr x (List.mem_of_getElem? e1')
   have vis:Vis X.env.scope x:=by
    rcases q5 with q5|q5
    .exact .inr (.inl q5)
    .exact .inr (.inr q5)
   obtain⟨u,ru,lk⟩:=hl i0 x v q4 q2 vis
   refine⟨u,ru,.inr ⟨vI B.nd hxf,?_⟩⟩
   rcases lk with⟨k,_⟩|⟨_,c,ec,hc⟩
   .rcases q5 with q5|q5<;>rw[k]at q5<;>cases q5
   .refine⟨c,?_,hc.keeps keep⟩
    show(cellsFrom (C+1) scope.names (cu X.env scope.names [])).lookup x=some c
    rw[zX λk hk=>?_]
    .exact lG ec (.inl hxf)
    .rintro rfl
     cases qT B.nd hk hxf
 .
  intro x c e
  rcases csm x c e with⟨z,_⟩|⟨_,z⟩
  .obtain⟨v,q⟩:=I.cell x c z
   exact⟨v,q.keeps keep⟩
  .exact⟨none,z⟩
 .
  intro x c e
  rcases csm x c e with⟨z,_⟩|⟨z,_⟩
  .exact I.freeC x c z
  .exact fresh c (Zl hCs (Zl (Nat.le_succ _) z))
 .intro p hp
  exact absurd (show p∈([]:List (Addr×Obj))from hp) (by simp)
 .show(bz own σ capI).length=(own++cap).length
  unfold bz su
  rw[List.length_append,List.length_append,List.length_replicate,Zu,B.caps.length]
end
section
variable {prog:Program} {w:World} {A:Around} {R:Result->Shared->Prop} {s:Shared}
theorem uP{elt target iter:Expr}{ifs:List Expr}{scope:Scope}{pos:Pos}{it acc:Value}{env:Env}{E':Value->Shared->Prop}(I:Nat->Shared->Prop)
  (hE:∀e s',E' e s'->notedBy (model prog w) A env (λe s'=>R (.error e) s') e s')
  (turn:∀n s,I n s->wpAny (model prog w) A (pyNext it) (λr s₁=>match r with
   |none=>R (.ok .next) s₁
   |some v=>wpAny (model prog w) A (letOwnedTupleGo target it v) (λ_ s₂=>wpAny (model prog w) A (assign target env v) (λ_ s₃=>
    wpAny (model prog w) A (forIn ifs true λc r=>if r=true then do let ok<-isTrue c env (eval c env);pure (ForInStep.yield ok)else pure (ForInStep.yield r)) (λok s₄=>
     if ok=true then wpAny (model prog w) A (eval elt env) (λx s₅=>
      wpAny (model prog w) A (call (.builtin "list.append") [acc,x]) (λ_ s₆=>∃m,m<n/\I m s₆) E' s₅) E' s₄
     else∃m,m<n/\I m s₄) E' s₃) E' s₂) E' s₁) E' s)
  (n:Nat) (h:I n s):
  codeAny (model prog w) A (.compLoop (.ListComp elt [⟨target,iter,ifs,0⟩] scope pos) 0 it acc env) R s:=by
 refine codeAny_loop rfl I (λn s hI=>?_) n h
 show wpAny _ A ((compTurn (.ListComp elt [⟨target,iter,ifs,0⟩] scope pos) 0 it acc env).onRaise (λx=>do noteFrame x env;theTreesLotGoes x)) _ _ s
 refine wpAny_noted ?_
 rw[compTurn_list]
 refine wpAny_bind (wpAny_standAt (wpAny_bind (wpAny_mono (turn n s hI) (λr s₁ h₁=>?_) hE)))
 cases r with
 |none=>exact wpAny_pure h₁
 |some v=>
  refine wpAny_bind (wpAny_mono h₁ (λ_ s₂ h₂=>?_) hE)
  refine wpAny_bind (wpAny_mono h₂ (λ_ s₂ h₂=>wpAny_bind (wpAny_mono h₂ (λok s₃ h₃=>?_) hE)) hE)
  cases ok with
  |false=>exact wpAny_pure ⟨rfl,h₃⟩
  |true=>
   exact wpAny_bind (wpAny_bind (wpAny_mono h₃ (λx s₄ h₄=>wpAny_bind (wpAny_mono h₄ (λ_ s₅ h₅=>wpAny_pure (wpAny_pure ⟨rfl,h₅⟩)) hE)) hE))
end
def PIf(X:Cx)(ifs:List Expr)(t:TT):Prop:=
 ∀(pins:List (Addr×Obj))(s:Shared)(σ:St)(H:Hp)(Q:Bool->Hp->Prop),Inv X pins σ H s->t σ H Q->
  wpAny (model X.prog X.w) X.A (forIn ifs true λc r=>if r=true then do let ok<-isTrue c X.env (eval c X.env);pure (ForInStep.yield ok)else pure (ForInStep.yield r)) (TP X pins σ Q) X.xe s
def tYes:TT:=λ_ H Q=>Q true H
section
variable {X:Cx} {c:Expr} {t:TT}
theorem Ia:PIf X [] tYes:=λ_ _ _ H _ I h=>wpAny_tests_nil ⟨H,I,h⟩
end
def Fits(a b:St):Prop:=b.length=a.length/\∀(i:Nat) v,a[i]? =some (some v)->b[i]? =some (some v)
def tLC(own:List Str)(capI:List Nat)(wi:TI)(g:TG)(tt:TT)(te:TE):TE:=λσ H Q=>wi σ H λJ H1=>∃W:Nat->Nat->List V->Hp->Prop,(∃m,W 0 m [] H1)/\∀i m ys H,W i m ys H->
 (J.stop i H/\∀l,H l=none->Q (.ref l) (upd H l (.lst ys)))∨
 (J.go i H/\ys.length<sizeLine/\∀x H',J.yld i H x H'->g x (bz own σ capI) H' λσ2 H2=>Fits (bz own σ capI) σ2/\tt σ2 H2 λb H3=>
  if b=true then te σ2 H3 (λy H4=>∃m',m'<m/\W (i+1) m' (ys++[y]) H4)else∃m',m'<m/\W (i+1) m' ys H3)
abbrev bO(us:List Value)(k:Nat):Obj:={ cls:=.type "list",data:=.seq us.toArray k}
section
variable {X:Cx} {tg iter elt:Expr} {ifs:List Expr} {wi:TI} {g:TG} {tt:TT} {te:TE} {own cap:List Str} {capI:List Nat} {scope:Scope} {pos:Pos}
theorem Inv.compEnd{X':Cx}{pins pins':List (Addr×Obj)}{σ σ':St}{H H2:Hp}{s2 s1:Shared}{fp:List Addr}{l C:Addr}{ys:List V}{us:List Value}{k:Nat}{h':Heap}
  (I2:Inv X pins σ H2 s2) (f2:∀b∈fp,jk X pins H2 b) (hP:X'.prog=X.prog) (hw:X'.w=X.w) (hfs:X'.fs=frs X.stack) (hex:X'.ex=fp) (hs:X'.s₀=s2) (hH:X'.H₀=H2) (hC:X'.env.locals=C)
  (I:Inv X' pins' σ' H s1) (hl:s2.heap.objs.size<=l) (hlC:l≠C) (hCs:s2.heap.objs.size<=C) (ho:s1.heap.get? l=some (bO us k)) (hn:H l=none) (hv:Vals ys us) (hz:ys.length<=sizeLine)
  (sb:Heap.SameBut C s1.heap h'):Inv X pins σ (upd H l (.lst ys)) { s1 with heap:=h'}:=by
 subst hs hH hC
 have ne2:∀b o,X'.s₀.heap.get? b=some o->b≠X'.env.locals/\b≠l:=λb o e=>⟨Zk (Zc (Ze e) hCs),Zk (Zc (Ze e) hl)⟩
 have ub:=I.base
 rw[hfs,hex]at ub
 have nl:∀b u,H b=some u->b≠l:=λb u e z=>by rw[z,hn]at e;cases e
 have nC:∀b u,H b=some u->b≠X'.env.locals:=λb u e z=>by rw[z,I.free]at e;cases e
 refine I2.call' (ch:=fp) (s':={ s1 with heap:=h'}) I.os ⟨λb o e n hb hx=>?_,λb o e n hb hx=>?_,λb o e n hx=>?_,λb o e hx=>?_,λb xs e=>?_,λb o u e=>?_,λb ps e=>?_⟩ ?_ I.bare λb hb=>?_
 .exact(sb.2 b (ne2 b o e).1).trans (ub.keep b o e n hb hx)
 .obtain⟨sl,q⟩:=ub.slot b o e n hb hx
  exact⟨sl,(sb.2 b (ne2 b o e).1).trans q⟩
 .rw[aO (ne2 b o e).2]
  exact ub.free b o e n hx
 .obtain⟨o',q⟩:=ub.there b o e hx
  exact⟨o',(sb.2 b (ne2 b o e).1).trans q⟩
 .have q:=ub.tups b xs e
  rw[aO (nl b _ q)];exact q
 .have q:=ub.frzs b o u e
  rw[aO (nl b _ q)];exact q
 .obtain⟨more,q⟩:=ub.tbls b ps e
  exact⟨more,by rw[aO (nl b _ q)];exact q⟩
 .intro a o e
  have hok:=I.hok
  rw[hP,hw]at hok
  by_cases ha:a=l
  .subst ha
   rw[fj]at e
   cases e
   exact⟨hz,us,k,hv,(sb.2 a hlC).trans ho⟩
  .rw[aO ha]at e
   refine(hok a o e).stay (λb u hb q=>(sb.2 b ?_).trans q) (λb q=>by rw[aO (nl b _ q)];exact q) λb xs q=>by rw[aO (nl b _ q)];exact q
   rcases hb with z|z
   .rw[z];exact nC a o e
   .exact nC b _ z
 .obtain⟨q0,q1,q2,q3,q4,q5⟩:=f2 b hb
  exact⟨q3.imp id λz=>z,q1,q4,q5⟩
theorem Rf(hc:X.calm=true)(B:eY X own cap capI scope)(hown:∀x∈own,(x,NameKind.free)∉scope.names)(hi:PI X tg iter wi)
  (hg:∀cs C fp s2 H2,PG (dF X own cap scope cs C fp s2 H2) tg g) (ht:∀cs C fp s2 H2,PIf (dF X own cap scope cs C fp s2 H2) ifs tt) (he:∀cs C fp s2 H2,PE (dF X own cap scope cs C fp s2 H2) elt te)
  (hs:∀x,foldedSetIterable iter X.env x=pure x:=by intro _;rfl):PE X (.ListComp elt [⟨tg,iter,ifs,0⟩] scope pos) (tLC own capI wi g tt te):=by
 intro pins s σ H Q I h
 rw[eval_ListComp]
 refine wpAny_comprehension_free (use:=none) (cl:=cu X.env scope.names []) rfl hs (ir (B.cells I)) B.kind (λy hy e=>dG B.nd (by rw[<-e];exact hy)) ?_
 refine thn (hi pins s σ H _ I h) λv s1 h1=>thn h1 λitv s2 h2=>?_
 obtain⟨it,fp,tn,J,H2,e,I2,T,st2,f2,W,⟨m0,w0⟩,turn⟩:=h2
 subst e
 refine wpAny_newObj_type (ni ?_)
 dsimp only
 generalize hl:s2.heap.objs.size=l
 generalize hh0:s2.heap.push { cls:=.type "list",dict:=none,data:=.seq ([]:List Value).toArray}=h0
 have hsz0:h0.objs.size=l+1:=by rw[<-hh0,Heap.size_push,hl]
 generalize hC:h0.objs.size=C
 generalize hh1:pushCells (h0.push { cls:=.type (if(some X.env).isSome=true then "dict" else "frame"),data:=.dict #[] }) scope.names=h1
 have hl0:h0.get? l=some (bO [] 0):=by rw[<-hh0,<-hl];exact Zf _ rfl
 have hk0:∀b o,s2.heap.get? b=some o->h0.get? b=some o:=λb o e=>by rw[<-hh0];exact Zb _ e
 have hlC:l≠C:=by rw[<-hC,hsz0];exact Zk (Nat.lt_succ_self _)
 have hls:s2.heap.objs.size<=l:=Nat.le_of_eq hl
 have hCs:s2.heap.objs.size<=C:=by rw[<-hC,hsz0,hl];exact Nat.le_succ _
 have ho2:∀b∈fp,∃o,s2.heap.get? b=some o:=λb hb=>let⟨o,e,_⟩:=T.obj 0 _ st2 b hb;⟨o,e⟩
 have hfl:∀b∈fp,b≠l/\b≠C:=λb hb=>let⟨o,e⟩:=ho2 b hb;⟨Zk (Zc (Ze e) hls),Zk (Zc (Ze e) hCs)⟩
 have hl1:h1.get? l=some (bO [] 0):=by rw[<-hh1];exact pushCells_keeps _ _ _ _ (Zb _ hl0)
 have keep1:∀b o,s2.heap.get? b=some o->h1.get? b=some o:=λb o e=>by rw[<-hh1];exact pushCells_keeps _ _ _ _ (Zb _ (hk0 b o e))
 generalize hcs:cellsFrom (C+1) scope.names (cu X.env scope.names [])=cs
 have I0:Inv (dF X own cap scope cs C fp s2 H2) [] (bz own σ capI) H2 { s2 with heap:=h1}:=by
  have q:=I2.comp (tk:=s2.toks) B hown f2 ho2 hk0 (by rw[hsz0,hl];exact Nat.le_succ _) hC.symm hh1.symm
  rw[hcs]at q
  exact q
 have henv:(newEnv scope C X.env.globals cs X.env.qual none .none (some X.env) builtinsNs)={ compEnvC scope cs C X.env with scope:=scope}:=rfl
 have henv2:({ newEnv scope C X.env.globals cs X.env.qual none .none (some X.env) builtinsNs with scope:=relabel scope X.env}:Env)=(dF X own cap scope cs C fp s2 H2).env:=rfl
 generalize hX':dF X own cap scope cs C fp s2 H2=X' at I0 henv2
 have eP:X'.prog=X.prog:=by rw[<-hX'];rfl
 have eW:X'.w=X.w:=by rw[<-hX'];rfl
 have eK:X'.K=X.K:=by rw[<-hX'];rfl
 have eA:X'.A=X.A:=by rw[<-hX'];rfl
 have eFs:X'.fs=frs X.stack:=by rw[<-hX'];rfl
 have eEx:X'.ex=fp:=by rw[<-hX'];rfl
 have eS:X'.s₀=s2:=by rw[<-hX'];rfl
 have eH:X'.H₀=H2:=by rw[<-hX'];rfl
 have eL:X'.env.locals=C:=by rw[<-hX'];rfl
 have eC:X'.calm=true:=by rw[<-hX'];exact hc
 have eX:X'.xe=λ_ _=>False:=by rw[<-hX'];rfl
 have ePn:X'.pn=[]:=by rw[<-hX'];rfl
 have hg':PG X' tg g:=by rw[<-hX'];exact hg cs C fp s2 H2
 have ht':PIf X' ifs tt:=by rw[<-hX'];exact ht cs C fp s2 H2
 have he':PE X' elt te:=by rw[<-hX'];exact he cs C fp s2 H2
 have stat:∀{H':Hp}{P:List (Addr×Obj)},X'.Ok->(∀b∈fp,H' b=none)->(∀p∈P,p.1=l)->∀b∈fp,jk X' P H' b:=λ{H' P} ok hn hP b hb=>by
  refine⟨hn b hb,?_,?_,.inl (by rw[eEx];exact hb),?_,λp hp=>?_⟩
  .exact(ok.exf b (by rw[eEx];exact hb)).1
  .exact ok.exfs b (by rw[eEx];exact hb)
  .exact(ok.exf b (by rw[eEx];exact hb)).2
  .rw[ePn,List.nil_append]at hp
   rw[hP p hp]
   exact Ne.symm (hfl b hb).1
 have lfs:X'.Ok->l∉X'.fs:=λok hz=>by
  rw[eFs]at hz
  exact(Inv.nofs (X:=X) I2 hls) ((Zi.mp (I2.stkSub l hz)).elim (λz=>absurd I2.lt (by rw[<-z,hl];exact Nat.lt_irrefl _)) id)
 have pinL:∀{σ':St}{H':Hp}{s':Shared}{us:List Value}{k:Nat},Inv X' [] σ' H' s'->s'.heap.get? l=some (bO us k)->H' l=none->Inv X' [(l,bO us k)] σ' H' s':=λ{σ' H' s' us k} I' e n=>
  I'.pins_of λp hp=>by
   obtain rfl:p=(l,bO us k):=by simpa using hp
   exact⟨e,n,by rw[eL];exact hlC,lfs I'.ok,λv z=>by cases z⟩
 have loop:∀s3:Shared,s3={ s2 with heap:=h1}->codeAny (model X.prog X.w) X.A (.compLoop (.ListComp elt [⟨tg,iter,ifs,0⟩] scope pos) 0 (.ref it) (.ref l) X'.env) (compPost (model X.prog X.w) X.A X.xe none (EP X pins σ Q) (.ref l) C) s3:=by
  rintro s3 rfl
  refine uP (E':=λ_ _=>False) (λn s'=>∃i ys us k H',Inv X' [] (bz own σ capI) H' s'/\tn i s'.heap/\(∀b∈fp,H' b=none)/\W i n ys H'/\Vals ys us/\s'.heap.get? l=some (bO us k)/\H' l=none/\ys.length<=sizeLine) (λ_ _ z=>z.elim) ?_ m0
   ⟨0,[],[],0,H2,I0,T.keep _ _ _ st2 λb _ o e=>keep1 b o e,λb hb=>(f2 b hb).1,w0,.nil,hl1,I2.hok.fresh hls,Nat.zero_le _⟩
  rintro n s3 ⟨i,ys,us,k,H3,I3,st3,fr3,w3,v3,o3,n3,z3⟩
  have I3p:=pinL I3 o3 n3
  have P1:∀p∈[(l,bO us k)],p.1=l:=λp hp=>by
   obtain rfl:p=(l,bO us k):=by simpa using hp
   rfl
  rcases turn i n ys H3 w3 with⟨stop,qn⟩|⟨go,hlt,step⟩
  .have q:=T.done X' eP eW eK eC i _ s3 _ H3 (λ_ _=>False) I3p (stat I3.ok fr3 P1) st3 stop
   rw[eA]at q
   refine wpAny_mono q (λr s4 ⟨hr,I4⟩=>?_) λ_ _ z=>z
   subst hr
   have pl:=I4.pin (l,bO us k) (by simp)
   obtain⟨m4,hn4,_⟩:=I4.loc
   rw[eL]at hn4
   refine⟨m4,hn4,λh' sb=>⟨.ref l,upd H3 l (.lst ys),?_,rfl,qn l n3⟩⟩
   exact I2.compEnd f2 eP eW eFs eEx eS eH eL I4 hls hlC hCs pl.1 n3 v3 z3 sb
  .have q:=T.item X' eP eW eK eC i _ s3 _ H3 (λ_ _=>False) I3p (stat I3.ok fr3 P1) st3 go
   rw[eA]at q
   refine wpAny_mono q (λr s4 ⟨u,hr,h4⟩=>?_) λ_ _ z=>z
   subst hr
   refine wpAny_mono h4 (λ_ s5 ⟨x,H5,I5,r5,y5,st5,fr5⟩=>?_) λ_ _ z=>z
   have I5':=I5.pinned (stat I5.ok fr5 P1) (T.obj _ _ st5)
   have a1:=hg' _ s5 _ H5 x u _ I5' r5 (step x H5 y5)
   rw[eP,eW,eA,eX]at a1
   refine wpAny_mono a1 (λ_ s6 ⟨σ6,H6,I6,ft6,q6⟩=>?_) λ_ _ z=>z
   have a2:=ht' _ s6 σ6 H6 _ I6 q6
   rw[eP,eW,eA,eX]at a2
   refine wpAny_mono a2 (λok s7 ⟨H7,I7,q7⟩=>?_) λ_ _ z=>z
   have back:∀{H8:Hp}{s8:Shared},Inv X' ([(l,bO us k)]++jm fp s5.heap) σ6 H8 s8->Inv X' [] (bz own σ capI) H8 s8/\tn (i+1) s8.heap/\(∀b∈fp,H8 b=none)/\s8.heap.get? l=some (bO us k)/\H8 l=none:=λ{H8 s8} I8=>by
    have pl:=I8.pin (l,bO us k) (by simp)
    refine⟨(I8.weak ft6.1.symm ft6.2).pins_of λp hp=>absurd hp (by simp),T.keep _ _ _ st5 λb hb o e=>?_,λb hb=>?_,pl.1,pl.2.1⟩
    .exact(I8.pin (b,o) (Zn _ (Zn _ (bN hb e)))).1
    .obtain⟨o,e,d⟩:=T.obj _ _ st5 b hb
     exact(I8.pin (b,o) (Zn _ (Zn _ (bN hb e)))).2.1
   cases ok with
   |false=>
    rw[if_neg Zr]
    rw[if_neg Zr]at q7
    obtain⟨m',hm,w7⟩:=q7
    obtain⟨I8,st8,fr8,o8,n8⟩:=back I7
    exact⟨m',hm,i+1,ys,us,k,H7,I8,st8,fr8,w7,v3,o8,n8,z3⟩
   |true=>
    rw[if_pos rfl]
    rw[if_pos rfl]at q7
    have a3:=he' _ s7 σ6 H7 _ I7 q7
    rw[eP,eW,eA,eX]at a3
    refine wpAny_mono a3 (λyv s8 ⟨y,H8,I8',r8,m',hm,w8⟩=>?_) λ_ _ z=>z
    obtain⟨I8,st8,fr8,o8,n8⟩:=back I8'
    refine append_at (hsz:=by show us.toArray.size<=sizeLine;rw[Zd,<-v3.length];exact z3) o8 λh9 sb9 o9=>?_
    have I9:Inv X' [] (bz own σ capI) H8 { s8 with heap:=h9}:=I8.turned (t':=s8.toks) (λb o hb e=>(sb9.2 b hb).trans e) n8 (by rw[eL];exact hlC) (.inr (by rw[eS];exact hls)) (λx c e=>by
     rintro rfl
     obtain⟨v',ho',hd',hd''⟩:=I8.cell x c e
     rw[o8]at hd'
     cases hd'
     cases hd'') (λp hp=>by rw[ePn]at hp;exact absurd hp (by simp))
    refine⟨m',hm,i+1,ys++[y],us++[yv],k+1,H8,I9,T.keep _ _ _ st8 λb hb o e=>(sb9.2 b (hfl b hb).1).trans e,fr8,w8,v3.append (.cons r8 .nil),?_,n8,?_⟩
    .rw[o9]
     simp[bO]
    .rw[List.length_append]
     exact hlt
 have T0:=T.keep 0 s2.heap h1 st2 λb _ o e=>keep1 b o e
 rw[henv2]
 exact codeAny_compStart_list (loop _ rfl) (T.self X.A 0 _ _ _ T0 (loop _ rfl))
end
def aM(M:Model)(A:Around)(c:Code)(t:Sem Fin)(fs:List Frame)(s:Shared)(Φ:End->Shared->Prop):Prop:=
 ∀Γ p,Γ.code=c->Γ.Woken A->∃e s',Runs M Γ p t fs s e s'/\Φ e s'
section
variable {M:Model} {A:Around} {c:Code} {fs:List Frame} {s:Shared} {Φ:End->Shared->Prop}
theorem aM.wrap{α:Type}{m:Sem α}{K:α->Sem Fin}{H:Value->Sem Fin}{gd:Bool->Bool}{lv:List Value->List Value}
  (h:wpAny M (A.over c fs) m (λa s'=>aM M A c (K a) fs s' Φ) (λx s'=>aM M A c (H x) fs s' Φ) s):aM M A c (m.wrap K H gd lv) fs s Φ:=by
 rintro Γ p rfl hΓ
 exact runs_wrap_of_wp K H gd lv m (h (Γ.over fs) p (hΓ.over fs)) (λa p' s' h'=>h' Γ p' rfl hΓ) (λx p' s' h'=>h' Γ p' rfl hΓ)
theorem aM.bindWrap{α β:Type}{m:Sem α}{K:α->Sem β}{K':β->Sem Fin}{H':Value->Sem Fin}{gd:Bool->Bool}{lv:List Value->List Value}
  (h:wpAny M (A.over c fs) m (λa s'=>aM M A c ((K a).wrap K' H' gd lv) fs s' Φ) (λx s'=>aM M A c (H' x) fs s' Φ) s):aM M A c ((m >>= K).wrap K' H' gd lv) fs s Φ:=by
 rw[Sem.bind_eq_wrap',Sem.wrap_wrap];exact aM.wrap h
theorem aM.at{p':Pos}{k:Unit->Sem Fin}(h:aM M A c (k ()) fs s Φ):aM M A c (.at p' k) fs s Φ:=
 aM.wrap (m:=standAt p') (K:=k) (H:=.raise) (gd:=id) (lv:=id) (wpAny_standAt h)
theorem aM.again{c':Code}(hq:c'.quiet=true)(hc:aM M A c' (M.den c') fs s Φ):aM M A c (.pure (.again c')) fs s Φ:=by
 rintro Γ p rfl hΓ
 obtain⟨e,s',hr,he⟩:=hc (Γ.goto c') p rfl (hΓ.goto c')
 exact⟨e,s',Runs.head (c₁:=c') (λ_ _ x=>.again hq x) hr,he⟩
theorem aM.end(r:Result)(h:Φ (.ret r) s):aM M A c (leafOf r) [] s Φ:=by
 rintro Γ p rfl _
 exact⟨.ret r,s,Runs.leaf r,h⟩
theorem aM.yield{v:Value}{g:Bool}{l:List Value}{k:Resume->Sem Fin}(hfs:splitAtGen fs=none)(h:∀p,Φ (.susp v g l k c p fs) s):aM M A c (.yield v g l k) fs s Φ:=by
 rintro Γ p rfl _
 exact⟨_,s,Runs.yield' fs hfs,h p⟩
def Bs(M:Model)(A:Around)(gs:GenState)(s:Shared)(Φ:End->Shared->Prop):Prop:=
 match gs with
 | .fresh c=>aM M A c (M.den c) [] s Φ
 | .suspended k _ c _ fs _=>aM M A c (k (.send .none)) fs s Φ
 |_=>False
theorem Jt{E:Value->Shared->Prop}{g:Nat}{gs:GenState}{l:List Value}{α:Type}{k:GenResult->Sem α}{Q:α->Shared->Prop}(hg:s.gens[g]? =some gs)
  (hgo:Bs M A gs (s.setGen g .running) Φ) (hq:∀e s₁,Φ e s₁->e.quiet=true) (hΦ:∀e s₁,Φ e s₁->wpAny M A (k e.result) Q E (s₁.setGen g e.genState)):
  wpAny M A (.resume g (.send .none) l k) Q E s:=by
 intro Γ p hΓ
 rw[Sem.wp_resume]
 have hB:∀c,(Γ.wake c p).Woken A:=λc=>hΓ.wake c p
 cases gs with
 |fresh c=>
  obtain⟨e₁,s₁,hr,he⟩:=hgo (Γ.wake c p) p rfl (hB c)
  exact⟨_,_,by unfold Wakes;rw[hg];exact⟨e₁,s₁,hr,hq e₁ s₁ he,rfl,rfl⟩,hΦ e₁ s₁ he Γ p hΓ⟩
 |suspended k₀ l₀ c₀ p₀ fs₀ cl=>
  obtain⟨e₁,s₁,hr,he⟩:=hgo (Γ.wake c₀ p) p₀ rfl (hB c₀)
  exact⟨_,_,by unfold Wakes;rw[hg];exact⟨e₁,s₁,hr,hq e₁ s₁ he,rfl,rfl⟩,hΦ e₁ s₁ he Γ p hΓ⟩
 |running=>exact hgo.elim
 |finished=>exact hgo.elim
end
section
variable {prog:Program} {w:World} {A:Around} {E:Value->Shared->Prop} {s:Shared} {Φ:End->Shared->Prop}
theorem jC{a:Addr}{g:Nat}{gs:GenState}{Q:Option Value->Shared->Prop}(hh:A.handled=none)(hl:s.heap.NoLimit)(hroom:A.depth<recursionLimit)
  (hg:s.heap.IsGen a g) (hgs:s.gens[g]? =some gs) (hgo:Bs (model prog w) A.in1 gs (s.setGen g .running) Φ) (hq:∀e s₁,Φ e s₁->e.quiet=true)
  (hΦ:∀e s₁,Φ e s₁->(∃v gd l k c p fs,e= .susp v gd l k c p fs/\Q (some v) (s₁.setGen g e.genState))∨
   (e= .ret (.ok .next)/\∀h',(∀b o,s₁.heap.get? b=some o->h'.get? b=some o)->Q none { s₁.setGen g .finished with heap:=h'})):
  wpAny (model prog w) A (pyNext (.ref a)) Q E s:=by
 unfold pyNext
 refine wpAny_bind (wpAny_attempt (wpAny_callSpecial?_slot (name:=Str.ofString "__next__") hg.typeIs slot_gen_next
  (wpAny_call_entry slot_gen_next hg.typeIs entry_gen_next ?_ (args_gen_next _))))
 show wpAny _ A.in1 (Builtin.Generator.genWake (.ref a) (.send .none)) _ _ s
 unfold Builtin.Generator.genWake
 refine wpAny_bind (wpAny_holding (wpAny_genNumber hg (wpAny_bind (wpAny_genState hgs ?_))))
 cases gs with
 |running=>exact hgo.elim
 |finished=>exact hgo.elim
 |_=>
  refine wpAny_bind (wpAny_roomToWake hl hroom ?_)
  show wpAny _ A.in1 (.resume g (.send .none) [] _) _ _ s
  refine Jt hgs hgo hq λe s₁ he=>?_
  rcases hΦ e s₁ he with⟨v,gd,l,k,c,p,fs,rfl,hQ⟩|⟨rfl,hP⟩
  .exact wpAny_pure ⟨v,rfl,wpAny_pure hQ⟩
  .show wpAny _ A.in1 (newExc (.type "StopIteration") [] >>= _) _ _ _
   refine wpAny_bind ?_
   simp only[newExc,newTuple]
   refine wpAny_bind (wpAny_newObj_type ?_ (by size_fits))
   refine wpAny_bind (m:=firstArgMember _ _) (wpAny_of_eq (a:=Value.none) (by first|rfl|(simp only[firstArgMember];rfl)) ?_)
   refine wpAny_newObj_type ?_ (by size_fits)
   simp only[raiseNew]
   refine wpAny_bind (wpAny_bind (wpAny_handled ?_))
   first|rw[show A.in1.handled=none from hh]|rw[hh]
   refine wpAny_throw ?_
   refine wpAny_bind (wpAny_isInstance (T:="StopIteration") (b:=true) ⟨_,Zf _ rfl,rfl⟩ isSubtype_stop ?_)
   exact wpAny_pure (hP _ λb o hb=>Zb _ (Zb _ hb))
end
def gF(X:Cx)(AG:Around)(own cap:List Str)(scope:Scope)(cs:List (Str×Addr))(C:Addr)(code:Value)(fp:List Addr)(s2:Shared)(H2:Hp):Cx where
 prog:=X.prog
 w:=X.w
 K:=X.K
 mg:=X.mg
 base:=X.base
 A:=AG
 N:=own++cap
 s₀:={ s2 with gens:=s2.gens.push .running}
 H₀:=H2
 env:=genEnv scope cs C code builtinsNs X.env
 outer:=X.stack
 stack:=genEnv scope cs C code builtinsNs X.env::X.stack
 ex:=fp
 fn:=λx=>own.contains x
 calm:=true
 pn:=[]
 xe:=λ_ _=>False
section
variable {X:Cx} {pins:List (Addr×Obj)} {σ:St} {H:Hp} {s:Shared} {own cap:List Str} {capI:List Nat} {scope:Scope}
theorem Inv.gen{AG:Around}{fp:List Addr}{h1:Heap}{C:Addr}{tk:Nat}{code:Value}{m:Str->Option Value}(I:Inv X pins σ H s)(B:eY X own cap capI scope)(hown:∀x∈own,(x,NameKind.free)∉scope.names)(hnc:∀y∈scope.names,y.2≠ .cell)
  (hf:∀b∈fp,jk X pins H b) (ho:∀b∈fp,∃o,s.heap.get? b=some o)
  (keep:∀b o,s.heap.get? b=some o->h1.get? b=some o) (hCs:s.heap.objs.size<=C) (hm:h1.Ns C m) (hAf:AG.frames=some (genEnv scope (cu X.env scope.names []) C code builtinsNs X.env::X.stack)) (hAh:AG.handled=none):
  Inv (gF X AG own cap scope (cu X.env scope.names []) C code fp s H) [] (bz own σ capI) H { s with heap:=h1,toks:=tk,gens:=s.gens.push .running}:=by
 have clo_old:∀p∈cu X.env scope.names [],X.env.cells.lookup p.1=some p.2:=λp hp=>(jL hp).elim (λz=>by simp at z) id
 have old_lt:∀x c,X.env.cells.lookup x=some c->c<s.heap.objs.size:=λx c e=>let⟨v,q⟩:=I.cell x c e;q.lt
 have csm:∀x c,(cu X.env scope.names []).lookup x=some c->X.env.cells.lookup x=some c/\c<s.heap.objs.size:=λx c e=>by
  have q:=clo_old _ (Zt e)
  exact⟨q,old_lt _ _ q⟩
 have fresh:∀b,s.heap.objs.size<=b->H b=none:=λb hb=>I.hok.fresh hb
 have brun:AllBare (s.gens.push .running):=AllBare.push I.bare.bare rfl
 refine⟨⟨I.ok.mod,?_,I.ok.glob,rfl,hCs,?_,?_,?_,λ_=>hAh,hAf,.inr ⟨rfl,rfl⟩,?_,I.bs,Zl I.ok.bsz I.sz,?_,?_,I.stack,I.stkFree⟩,rfl,GK.refl brun,Un.kept keep,?_,?_,fresh C hCs,?_,?_,I.hok.kept keep,?_⟩
 .exact B.kind
 .intro x y c e1 e2
  exact I.ok.inj x y c (csm x c e1).1 (csm y c e2).1
 .intro x hx
  have hx':scope.names.lookup x=some .cell∨scope.names.lookup x=some .free:=hx
  rcases hx' with e|e
  .exact absurd rfl (hnc _ (Zt e))
  .have q:=Zt e
   obtain⟨c,hc⟩:=B.cells I _ q rfl
   exact⟨c,lG hc (.inl q)⟩
 .intro x c hx e
  exfalso
  have hxo:x∈own:=by simpa[gF]using hx
  have nf:=hown x hxo
  have q:(cu X.env scope.names []).lookup x=none:=by
   rw[pR λk hk=>by rintro rfl;exact nf hk];rfl
  have e':(cu X.env scope.names []).lookup x=some c:=e
  rw[q]at e';cases e'
 .intro b hb
  obtain⟨o,hbo⟩:=ho b hb
  have hlt:=Ze hbo
  exact⟨Zk (Zc hlt hCs),λx c e=>(hf b hb).2.2.2.2.1 x c (csm x c e).1⟩
 .intro b o e hb
  rcases(hf b hb).2.2.2.1 with z|z
  .exact I.ok.noex b o e z
  .exact absurd (Zc (Ze e) (Zl I.ok.bsz z)) (Nat.lt_irrefl _)
 .intro b hb hz
  rcases Zi.mp (I.stkSub b hz)with z|z
  .exact(hf b hb).2.1 z
  .exact(hf b hb).2.2.1 z
 .obtain⟨m',hn,hl⟩:=I.loc
  refine⟨m,hm,λi x v e1 e2 hv=>?_⟩
  have e2':(bz own σ capI)[i]? =some (some v):=e2
  have e1':(own++cap)[i]? =some x:=e1
  unfold bz at e2'
  by_cases hi:i<own.length
  .rw[Zs (by simpa using hi),List.getElem?_replicate]at e2'
   split at e2'<;>cases e2'
  .rw[List.getElem?_append_right (by simpa using hi)]at e2'
   rw[List.getElem?_append_right (by simpa using hi)]at e1'
   rw[List.length_replicate]at e2'
   obtain⟨i0,q1,q2⟩:=uA e2'
   obtain⟨y,q3,q4,q5⟩:=B.caps.get q1
   rw[e1']at q3
   cases q3
   have hxf:(x,NameKind.free)∈scope.names:=B.cfr x (List.mem_of_getElem? e1')
   have vis:Vis X.env.scope x:=by
    rcases q5 with q5|q5
    .exact .inr (.inl q5)
    .exact .inr (.inr q5)
   obtain⟨u,ru,lk⟩:=hl i0 x v q4 q2 vis
   refine⟨u,ru,.inr ⟨.inr (dG B.nd hxf),?_⟩⟩
   rcases lk with⟨k,_⟩|⟨_,c,ec,hc⟩
   .rcases q5 with q5|q5<;>rw[k]at q5<;>cases q5
   .exact⟨c,lG ec (.inl hxf),hc.keeps keep⟩
 .intro x c e
  obtain⟨v,q⟩:=I.cell x c (csm x c e).1
  exact⟨v,q.keeps keep⟩
 .intro x c e
  exact I.freeC x c (csm x c e).1
 .intro p hp
  exact absurd (show p∈([]:List (Addr×Obj))from hp) (by simp)
 .show(bz own σ capI).length=(own++cap).length
  unfold bz su
  rw[List.length_append,List.length_append,List.length_replicate,Zu,B.caps.length]
end
abbrev De(elt tg iter:Expr)(scope:Scope)(pos:Pos):Expr:=.GeneratorExp elt [⟨tg,iter,[],0⟩] scope pos
abbrev jg(elt tg iter:Expr)(scope:Scope)(pos:Pos)(it:Addr)(cenv:Env):Code:=.compLoop (De elt tg iter scope pos) 0 (.ref it) .none cenv
abbrev genS(elt tg iter:Expr)(scope:Scope)(pos:Pos)(it:Addr)(cenv:Env):Code:=.compStart (De elt tg iter scope pos) 0 (.ref it) .none cenv
section
variable {X':Cx} {A1:Around} {elt tg iter:Expr} {scope:Scope} {pos:Pos} {it:Addr} {fp:List Addr} {tn:Nat->Heap->Prop} {J:It} {σb:St} {g:TG} {te:TE}
theorem Ez(T:Turn X'.prog X'.w X'.K tg J fp it tn)(hA:X'.A=A1.over (jg elt tg iter scope pos it X'.env) [])(hc:X'.calm=true)(hex:X'.ex=fp)(hpn:X'.pn=[])(hco:X'.env.scope.isCoroutine=false)
  (hxe:X'.xe=λ_ _=>False) (hg:PG X' tg g) (he:PE X' elt te) {i:Nat} {H:Hp} {s:Shared} {Q:VK} {P:List (Addr×Obj)} (hP:∀p∈P,p.1∉fp) (I:Inv X' P σb H s) (st:tn i s.heap) (fr:∀b∈fp,H b=none)
  (go:J.go i H) (step:∀x H',J.yld i H x H'->g x σb H' λσ2 H2=>Fits σb σ2/\te σ2 H2 Q):
  aM (model X'.prog X'.w) A1 (jg elt tg iter scope pos it X'.env) ((model X'.prog X'.w).den (jg elt tg iter scope pos it X'.env)) [] s λe s'=>
   ∃v k p y H',e= .susp v false [] k (jg elt tg iter scope pos it X'.env) p []/\k (.send .none)= .pure (.again (jg elt tg iter scope pos it X'.env))/\RelV y v/\Q y H'/\Inv X' P σb H' s'/\tn (i+1) s'.heap/\∀b∈fp,H' b=none:=by
 have stat:∀{H':Hp},X'.Ok->(∀b∈fp,H' b=none)->∀b∈fp,jk X' P H' b:=λ{H'} ok hn b hb=>
  ⟨hn b hb,(ok.exf b (by rw[hex];exact hb)).1,ok.exfs b (by rw[hex];exact hb),.inl (by rw[hex];exact hb),(ok.exf b (by rw[hex];exact hb)).2,λp hp e=>by rw[hpn]at hp;exact hP p hp (e▸hb)⟩
 show aM _ A1 _ ((compTurn (De elt tg iter scope pos) 0 (.ref it) .none X'.env).onRaise (leaving X'.env)) [] s _
 rw[compTurn_gen,Sem.onRaise_eq_wrap]
 refine aM.bindWrap (wpAny_standAt ?_)
 have q:=T.item X' rfl rfl rfl hc i P s σb H (λ_ _=>False) I (stat I.ok fr) st go
 rw[hA]at q
 refine aM.bindWrap (wpAny_mono q (λr s1 ⟨u,hr,h1⟩=>?_) λ_ _ z=>z.elim)
 subst hr
 refine aM.bindWrap (wpAny_mono h1 (λ_ s2 ⟨x,H2,I2,r2,y2,st2,fr2⟩=>?_) λ_ _ z=>z.elim)
 have I2':=I2.pinned (stat I2.ok fr2) (T.obj _ _ st2)
 have a1:=hg _ s2 σb H2 x u _ I2' r2 (step x H2 y2)
 rw[hA,hxe]at a1
 refine aM.bindWrap (wpAny_mono a1 (λ_ s3 ⟨σ3,H3,I3,ft3,q3⟩=>?_) λ_ _ z=>z.elim)
 refine aM.bindWrap (wpAny_tests_nil ?_)
 simp only[if_true]
 have hy:∀v,yieldOut X'.env v=yieldValue v:=λv=>by simp only[yieldOut,hco,Bool.false_eq_true,if_false]
 simp only[hy]
 rw[Sem.bind_eq_wrap',Sem.bind_eq_wrap',Sem.wrap_wrap,Sem.wrap_wrap]
 have a2:=he _ s3 σ3 H3 _ I3 q3
 rw[hA,hxe]at a2
 refine aM.wrap (wpAny_mono a2 (λv s4 ⟨y,H4,I4,r4,q4⟩=>?_) λ_ _ z=>z.elim)
 refine aM.at (aM.yield rfl λp=>⟨v,_,p,y,H4,rfl,rfl,r4,q4,(I4.weak ft3.1.symm ft3.2).unpinned,T.keep _ _ _ st2 λb hb o e=>?_,λb hb=>?_⟩)
 .exact(I4.pin (b,o) (Zn _ (Zn _ (bN hb e)))).1
 .obtain⟨o,e,d⟩:=T.obj _ _ st2 b hb
  exact(I4.pin (b,o) (Zn _ (Zn _ (bN hb e)))).2.1
theorem Fe(T:Turn X'.prog X'.w X'.K tg J fp it tn)(hA:X'.A=A1.over (jg elt tg iter scope pos it X'.env) [])(hc:X'.calm=true)(hex:X'.ex=fp)(hpn:X'.pn=[])
  {i:Nat} {H:Hp} {s:Shared} {P:List (Addr×Obj)} (hP:∀p∈P,p.1∉fp) (I:Inv X' P σb H s) (st:tn i s.heap) (fr:∀b∈fp,H b=none) (stop:J.stop i H):
  aM (model X'.prog X'.w) A1 (jg elt tg iter scope pos it X'.env) ((model X'.prog X'.w).den (jg elt tg iter scope pos it X'.env)) [] s λe s'=>e= .ret (.ok .next)/\Inv X' P σb H s':=by
 have stat:∀b∈fp,jk X' P H b:=λb hb=>
  ⟨fr b hb,(I.ok.exf b (by rw[hex];exact hb)).1,I.ok.exfs b (by rw[hex];exact hb),.inl (by rw[hex];exact hb),(I.ok.exf b (by rw[hex];exact hb)).2,λp hp e=>by rw[hpn]at hp;exact hP p hp (e▸hb)⟩
 show aM _ A1 _ ((compTurn (De elt tg iter scope pos) 0 (.ref it) .none X'.env).onRaise (leaving X'.env)) [] s _
 rw[compTurn_gen,Sem.onRaise_eq_wrap]
 refine aM.bindWrap (wpAny_standAt ?_)
 have q:=T.done X' rfl rfl rfl hc i P s σb H (λ_ _=>False) I stat st stop
 rw[hA]at q
 refine aM.bindWrap (wpAny_mono q (λr s1 ⟨hr,I1⟩=>?_) λ_ _ z=>z.elim)
 subst hr
 exact aM.end (.ok .next) ⟨rfl,I1⟩
theorem uz{A0:Around}{P:Program}{w:World}{K:PySem.W.Frag}{cenv:Env}{Φ:End->Shared->Prop}{s:Shared}{i:Nat}(T:Turn P w K tg J fp it tn)(st:tn i s.heap)
  (h:aM (model P w) A0 (jg elt tg iter scope pos it cenv) ((model P w).den (jg elt tg iter scope pos it cenv)) [] s Φ):
  aM (model P w) A0 (genS elt tg iter scope pos it cenv) ((model P w).den (genS elt tg iter scope pos it cenv)) [] s Φ:=by
 show aM _ A0 _ ((compStart (De elt tg iter scope pos) 0 (.ref it) .none cenv).onRaise (leaving cenv)) [] s _
 unfold compStart
 rw[Sem.onRaise_eq_wrap]
 show aM _ A0 _ ((ask >>= _).wrap _ _ _ _) [] s _
 refine aM.bindWrap (wpAny_askSetting ?_)
 split
 .exact aM.again rfl h
 .first
   |exact aM.bindWrap (wpAny_rule (aM.bindWrap (wpAny_standAt (aM.bindWrap (T.self _ i s _ _ st (aM.again rfl h))))))
   |(refine aM.bindWrap (wpAny_rule ?_);show aM _ A0 _ ((standAt iter.pos >>= _).wrap _ _ _ _) [] s _;exact aM.bindWrap (wpAny_standAt (aM.bindWrap (T.self _ i s _ _ st (aM.again rfl h)))))
end
structure oX where
 nxt:Nat->Hp->(V->Hp->Prop)->Prop
 fin:Nat->Hp->(Hp->Prop)->Prop
structure tG(X:Cx)(pins:List (Addr×Obj))(σ:St)(A':Around)(it:Addr)(lo:Nat)(S:oX)(SS:List (Addr×Obj)->Nat->Hp->Shared->Prop):Prop where
 inv:∀{P i H s},SS P i H s->Inv X (pins++P) σ H s
 next:∀{P i H s Q}(E:Value->Shared->Prop),SS P i H s->S.nxt i H Q->wpAny (model X.prog X.w) A' (pyNext (.ref it)) (λr s1=>∃u y H',r=some u/\RelV y u/\Q y H'/\SS P (i+1) H' s1) E s
 stop:∀{P i H s Q}(E:Value->Shared->Prop),SS P i H s->S.fin i H Q->wpAny (model X.prog X.w) A' (pyNext (.ref it)) (λr s1=>r=none/\∃H',Q H'/\Inv X (pins++P) σ H' s1) E s
 keep:∀{P i H s h' tk},SS P i H s->(∀b o,s.heap.get? b=some o->h'.get? b=some o)->SS P i H { s with heap:=h',toks:=tk}
 pin:∀{P H s D o},SS P 0 H s->lo<=D->s.heap.get? D=some o->H D=none->(∀v,o.data≠ .cell v)->SS ((D,o)::P) 0 H s
 put:∀{P i H s h' tk D o o'},SS ((D,o)::P) i H s->(∀p∈P,p.1≠D)->(∀b u,b≠D->s.heap.get? b=some u->h'.get? b=some u)->h'.get? D=some o'->(∀v,o'.data≠ .cell v)->SS ((D,o')::P) i H { s with heap:=h',toks:=tk}
theorem tG.mk'{X:Cx}{pins:List (Addr×Obj)}{σ:St}{A':Around}{it:Addr}{lo:Nat}{S:oX}{SS:List (Addr×Obj)->Nat->Hp->Shared->Prop}
  (inv:∀{P i H s},SS P i H s->Inv X (pins++P) σ H s) (low:∀{P i H s},SS P i H s->∀p∈P,lo<=p.1)
  (next:∀{P i H s Q}(E:Value->Shared->Prop),SS P i H s->S.nxt i H Q->wpAny (model X.prog X.w) A' (pyNext (.ref it)) (λr s1=>∃u y H',r=some u/\RelV y u/\Q y H'/\SS P (i+1) H' s1) E s)
  (stop:∀{P i H s Q}(E:Value->Shared->Prop),SS P i H s->S.fin i H Q->wpAny (model X.prog X.w) A' (pyNext (.ref it)) (λr s1=>r=none/\∃H',Q H'/\Inv X (pins++P) σ H' s1) E s)
  (keep:∀{P i H s h' tk},SS P i H s->(∀b o,s.heap.get? b=some o->h'.get? b=some o)->SS P i H { s with heap:=h',toks:=tk})
  (pin:∀{P i H s D o},SS P i H s->lo<=D->s.heap.get? D=some o->H D=none->(∀v,o.data≠ .cell v)->SS ((D,o)::P) i H s)
  (unpin:∀{p P i H s},SS (p::P) i H s->SS P i H s)
  (acc:∀{P i H s h' tk D},SS P i H s->lo<=D->H D=none->(∀p∈P,p.1≠D)->(∀b o,b≠D->s.heap.get? b=some o->h'.get? b=some o)->SS P i H { s with heap:=h',toks:=tk}):tG X pins σ A' it lo S SS:=
 ⟨inv,next,stop,keep,pin,λh hP hk ho hc=>by
  have hD:=low h (_,_) List.mem_cons_self
  have hn:=((inv h).pin (_,_) (Zn _ (Zn _ List.mem_cons_self))).2.1
  exact pin (acc (unpin h) hD hn hP hk) hD ho hn hc⟩
def Ready(X:Cx)(pins:List (Addr×Obj))(σ:St)(S:oX)(v:Value)(H:Hp)(s:Shared):Prop:=
 ∀(A':Around)(E:Value->Shared->Prop),A'.handled=none->A'.frames=some X.stack->A'.depth<=X.A.depth+1->A'.units<=X.A.units+8->
  wpAny (model X.prog X.w) A' (pyIter v) (λitv s2=>∃it lo SS,itv= .ref it/\tG X pins σ A' it lo S SS/\SS [] 0 H s2/\lo<=s2.heap.objs.size) E s
abbrev pJ:=St->Hp->(oX->Hp->Prop)->Prop
def xj(X:Cx)(e:Expr)(ts:pJ):Prop:=
 ∀(pins:List (Addr×Obj))(s:Shared)(σ:St)(H:Hp)(R:oX->Hp->Prop),Inv X pins σ H s->ts σ H R->
  wpAny (model X.prog X.w) X.A (eval e X.env) (λv s1=>∃S H1,Inv X pins σ H1 s1/\Ready X pins σ S v H1 s1/\R S H1) X.xe s
def Om(X:Cx)(pins:List (Addr×Obj))(σ:St)(S:oX)(a:Addr)(H:Hp)(s:Shared):Prop:=
 ∀(A':Around),A'.handled=none->A'.frames=some X.stack->A'.depth<=X.A.depth+1->A'.units<=X.A.units+8->
  ∃lo SS,tG X pins σ A' a lo S SS/\SS [] 0 H s/\a<lo/\lo<=s.heap.objs.size/\∀P i H s,SS P i H s->∃g,s.heap.IsGen a g
def uJ(X:Cx)(e:Expr)(ts:pJ):Prop:=
 ∀(pins:List (Addr×Obj))(s:Shared)(σ:St)(H:Hp)(R:oX->Hp->Prop),Inv X pins σ H s->ts σ H R->
  wpAny (model X.prog X.w) X.A (eval e X.env) (λv s1=>∃a S H1,v= .ref a/\Inv X pins σ H1 s1/\Om X pins σ S a H1 s1/\R S H1) X.xe s
theorem xH{X:Cx}{e:Expr}{ts:pJ}(h:uJ X e ts):xj X e ts:=by
 intro pins s σ H R I hq
 refine thn (h pins s σ H R I hq) λv s1 ⟨a,S,H1,e,I1,rdy,r⟩=>⟨S,H1,I1,?_,r⟩
 subst e
 intro A' E h1 h2 h3 h4
 obtain⟨lo,SS,sm,s0,_,hl,hg⟩:=rdy A' h1 h2 h3 h4
 obtain⟨g,ig⟩:=hg _ _ _ _ s0
 exact wpAny_pyIter_gen ig ⟨a,lo,SS,rfl,sm,s0,hl⟩
section
variable {X:Cx} {pins:List (Addr×Obj)} {σ:St} {H:Hp} {s:Shared}
theorem Inv.grown{h':Heap}{g':Array GenState}{tk:Nat}(I:Inv X pins σ H s)(k:∀b o,s.heap.get? b=some o->h'.get? b=some o)(hg:GK s.gens g'):Inv X pins σ H { s with heap:=h',gens:=g',toks:=tk}:=
 I.call (ch:=[]) (g':=g') (t':=tk) (d':=s.drawn) (Un.kept k) (I.hok.kept k) hg λb hb=>absurd hb (by simp)
theorem Inv.more{Q:List (Addr×Obj)}(I:Inv X pins σ H s)(h:∀p∈Q,s.heap.get? p.1=some p.2/\H p.1=none/\p.1≠X.env.locals/\p.1∉X.fs/\∀v,p.2.data≠ .cell v):Inv X (pins++Q) σ H s:=
 I.pins_of λp hp=>(Zm.mp hp).elim (λz=>I.pin p (Zn _ z)) (h p)
theorem Inv.tbl{P:Addr}{ps ps':Array Value}{h':Heap}{tk:Nat}(I:Inv X pins σ H s)(hP:H P=some (.tbl ps))(hm:∃more,ps'=ps++more)(k:∀b o,b≠P->s.heap.get? b=some o->h'.get? b=some o)
  (ho:h'.get? P=some { cls:=.none,data:=.fields ps'}):Inv X pins σ (upd H P (.tbl ps')) { s with heap:=h',toks:=tk}:=by
 have nP:∀b,H b=none->b≠P:=λb e z=>by rw[z,hP]at e;cases e
 refine I.un ⟨λb o e n _ _=>k b o (nP b n) e,λb o e n _ _=>⟨o.slots,k b o (nP b n) e⟩,λb o e n _=>by rw[aO (nP b n)];exact n,λb o e _=>?_,λb xs e=>?_,λb o u e=>?_,λb qs e=>?_⟩ λa o e=>?_
 .by_cases z:b=P
  .subst z;exact⟨_,ho⟩
  .exact⟨o,k b o z e⟩
 .have z:b≠P:=λz=>by rw[z,hP]at e;cases e
  rw[aO z];exact e
 .have z:b≠P:=λz=>by rw[z,hP]at e;cases e
  rw[aO z];exact e
 .by_cases z:b=P
  .subst z
   rw[hP]at e;cases e
   obtain⟨more,e⟩:=hm
   exact⟨more,by rw[fj,e]⟩
  .exact⟨#[],by rw[aO z,e];simp⟩
 .by_cases z:a=P
  .subst z
   rw[fj]at e;cases e
   exact ho
  .rw[aO z]at e
   refine(I.hok a o e).stay (λb u hb q=>k b u ?_ q) (λb q=>?_) λb xs q=>?_
   .rcases hb with r|r
    .rw[r];exact z
    .exactλy=>by rw[y,hP]at r;cases r
   .have y:b≠P:=λy=>by rw[y,hP]at q;cases q
    rw[aO y];exact q
   .have y:b≠P:=λy=>by rw[y,hP]at q;cases q
    rw[aO y];exact q
def Oo(H:Hp)(v:Value):Prop:=∃c o vs u,v= .ref c/\H c=some (.frz o (.own 0))/\o.data= .fields vs/\vs[1]? =some u
def TOk(H:Hp)(ps:Array Value):Prop:=TriplesOk ps.toList/\∀pos v,codeAmong pos ps.toList=some v->Oo H v
theorem TOk.mono{H H':Hp}{ps:Array Value}(h:TOk H ps)(k:∀c o,H c=some (.frz o (.own 0))->H' c=some (.frz o (.own 0))):TOk H' ps:=
 ⟨h.1,λpos v e=>let⟨c,o,vs,u,e1,e2,e3⟩:=h.2 pos v e;⟨c,o,vs,u,e1,k c o e2,e3⟩⟩
theorem TOk.nil{H:Hp}:TOk H #[]:=⟨by unfold TriplesOk;trivial,λpos v e=>by simp[codeAmong]at e⟩
theorem yW{pos:Pos}{a b:Int}{c v:Value}:∀(l:List Value),TriplesOk l->codeAmong pos (l++[rawInt a,rawInt b,c])=some v->codeAmong pos l=some v∨v=c:=λl h=>by
 fun_induction TriplesOk l with
 |case1=>
  intro e
  right
  simp only[List.nil_append,rawInt,codeAmong]at e
  split at e
  .cases e;rfl
  .cases e
 |case2 line t col u x rest ih=>
  intro e
  simp only[List.cons_append,codeAmong]at e ⊢
  split at e
  .rename_i hc
   left;rw[if_pos hc];exact e
  .rename_i hc
   rw[if_neg hc]
   exact ih h e
 |case3=>exact h.elim
structure Em(lo:Nat)(P:Addr)(ps ps':Array Value)(H H':Hp):Prop where
 tab:H' P=some (.tbl ps')
 more:∃more,ps'=ps++more
 ok:TOk H' ps'
 keep:∀b o,b≠P->H b=some o->H' b=some o
 none:∀b,b<lo->H b=none->H' b=none
theorem Inv.reg{c:Addr}{o:Obj}(I:Inv X pins σ H s)(ho:s.heap.get? c=some o)(hn:H c=none)(hnew:X.s₀.heap.objs.size<=c)(hL:c≠X.env.locals)(hc:∀x d,X.env.cells.lookup x=some d->d≠c)(hp:∀p∈X.pn++pins,p.1≠c):
  Inv X pins σ (upd H c (.frz o (.own 0))) s:=by
 have ne:∀b u,H b=some u->b≠c:=λb u e z=>by rw[z,hn]at e;cases e
 refine⟨I.ok,I.os,I.bare,⟨I.base.keep,I.base.slot,λb ob e n hx=>?_,I.base.there,λb xs e=>?_,λb ob u e=>?_,λb ps e=>?_⟩,I.loc,I.cell,?_,λx d e=>?_,λp hp'=>?_,λa u e=>?_,I.len⟩
 .rw[aO (Zk (Zc (Ze e) hnew))];exact I.base.free b ob e n hx
 .have q:=I.base.tups b xs e
  rw[aO (ne _ _ q)];exact q
 .have q:=I.base.frzs b ob u e
  rw[aO (ne _ _ q)];exact q
 .obtain⟨more,q⟩:=I.base.tbls b ps e
  exact⟨more,by rw[aO (ne _ _ q)];exact q⟩
 .rw[aO (Ne.symm hL)];exact I.free
 .rw[aO (hc x d e)];exact I.freeC x d e
 .obtain⟨a,b,r⟩:=I.pin p hp'
  exact⟨a,by rw[aO (hp p hp')];exact b,r⟩
 .by_cases z:a=c
  .subst z
   rw[fj]at e;cases e
   exact⟨ho,o,ho⟩
  .rw[aO z]at e
   exact(I.hok a u e).stay (λb v _ q=>q) (λb q=>by rw[aO (ne _ _ q)];exact q) λb xs q=>by rw[aO (ne _ _ q)];exact q
theorem Cu{P c':Addr}{ps vs:Array Value}{u:Value}{oc:Obj}{h':Heap}{tk:Nat}{pos:Pos}{G:Prop}(I:Inv X pins σ H s)(hP:H P=some (.tbl ps))(ht:TOk H ps)(hge:s.heap.objs.size<=c')(hoc:h'.get? c'=some oc)(hdd:oc.data= .fields vs)(hv:vs[1]? =some u)
  (k:∀b o,b≠P->s.heap.get? b=some o->h'.get? b=some o) (ho:h'.get? P=some { cls:=.none,data:=.fields (ps++ #[rawInt pos.line,rawInt pos.col,.ref c']) })
  (h:Em s.heap.objs.size P ps (ps++ #[rawInt pos.line,rawInt pos.col,.ref c']) H (upd (upd H P (.tbl (ps++ #[rawInt pos.line,rawInt pos.col,.ref c']))) c' (.frz oc (.own 0)))->Inv X pins σ (upd (upd H P (.tbl (ps++ #[rawInt pos.line,rawInt pos.col,.ref c']))) c' (.frz oc (.own 0))) { s with heap:=h',toks:=tk}->G):G:=by
 have lt:=λ{b:Addr}{o:Obj}(e:s.heap.get? b=some o)=>Zc (Ze e) hge
 have cP:P≠c':=Zk (lt (I.hok P _ hP))
 have hn:H c'=none:=I.hok.fresh hge
 generalize hps:ps++ #[rawInt pos.line,rawInt pos.col,.ref c']=ps' at *
 have I1:Inv X pins σ (upd H P (.tbl ps')) { s with heap:=h',toks:=tk}:=I.tbl hP ⟨_,hps.symm⟩ k ho
 have I2:Inv X pins σ (upd (upd H P (.tbl ps')) c' (.frz oc (.own 0))) { s with heap:=h',toks:=tk}:=I1.reg hoc (by rw[aO (Ne.symm cP)];exact hn) (Zl I.sz hge) (Nat.ne_of_gt (Zc I.lt hge))
  (λx d e=>by
   obtain⟨v,o,e2,_⟩:=I.cell x d e
   exact Zk (lt e2)) λp hp=>Zk (lt (I.pin p hp).1)
 have kp:∀b o,b≠P->H b=some o->upd (upd H P (.tbl ps')) c' (.frz oc (.own 0)) b=some o:=λb o hb e=>by
  have hbc:b≠c':=λz=>by rw[z,hn]at e;cases e
  rw[aO hbc,aO hb];exact e
 refine h ⟨by rw[aO cP,fj],⟨_,hps.symm⟩,⟨?_,λp v e=>?_⟩,kp,λb hb e=>?_⟩ I2
 .rw[<-hps]
  have hl:(ps++ #[rawInt pos.line,rawInt pos.col,Value.ref c']).toList=ps.toList++[rawInt pos.line,rawInt pos.col,.ref c']:=by simp
  rw[hl];exact TriplesOk_snoc _ _ _ _ ht.1
 .rw[<-hps]at e
  have hl:(ps++ #[rawInt pos.line,rawInt pos.col,Value.ref c']).toList=ps.toList++[rawInt pos.line,rawInt pos.col,.ref c']:=by simp
  rw[hl]at e
  rcases yW _ ht.1 e with e|e
  .obtain⟨c,o,ws,w,q1,q2,q3⟩:=ht.2 p v e
   exact⟨c,o,ws,w,q1,kp c _ (λz=>by rw[z,hP]at q2;cases q2) q2,q3⟩
  .exact⟨c',oc,vs,u,e,fj,hdd,hv⟩
 .have hbc:b≠c':=Zk (Zc hb hge)
  have hbP:b≠P:=λz=>by rw[z,hP]at e;cases e
  rw[aO hbc,aO hbP];exact e
theorem KH{c P:Addr}{ps:Array Value}{pos:Pos}{q:Str}{scope:Scope}{Q:Value->Shared->Prop}{A:Around}{E:Value->Shared->Prop}(I:Inv X pins σ H s)(hc:X.env.code= .ref c)(hd:PySem.W.CodeHd X.base c P)(hP:H P=some (.tbl ps))(ht:TOk H ps)
  (h:∀code s' H' ps',Em s.heap.objs.size P ps ps' H H'->Inv X pins σ H' s'->s'.gens=s.gens->(∀b o,b≠P->s.heap.get? b=some o->s'.heap.get? b=some o)->Q code s'):
  wpAny (model X.prog X.w) A (genexprCode X.env pos q scope) Q E s:=by
 have hd':PySem.W.CodeHd s.heap c P:=hd.keeps I.bk
 have oP:s.heap.get? P=some (PySem.W.tabObj ps):=I.hok P _ hP
 have hok:s.heap.IsCode c P ps:=hd'.code oP ht.1
 have htab:s.heap.TableAt c P ps:=hd'.tab oP
 cases hnf:codeAmong pos ps.toList with
 |some cv=>
  obtain⟨o,vs,file,tf,flags,tg,inF,text,tt,op,ho,hdd,h11,h2,h7,h9,h10,hop,hpd,htr,hne⟩:=id hok
  unfold genexprCode codeAt
  rw[hc,if_neg (show¬((Value.ref c==Value.none)=true)from Zr)]
  refine wpAny_bind (wpAny_fieldsOf ho hdd ?_)
  rw[h11]
  refine wpAny_bind (wpAny_fieldsOf hop hpd ?_)
  rw[hnf]
  exact wpAny_pure (h cv s H ps ⟨hP,⟨#[],by simp⟩,ht,λ_ _ _ e=>e,λ_ _ e=>e⟩ I rfl λb o _ e=>e)
 |none=>
  refine wpAny_genexprCodeX hc hok htab hnf λc' h' tk hx hge hlt hcode hrec htab' _=>?_
  obtain⟨c2,oc,vs,t,e2,hoc,hdd,hv⟩:=hrec
  cases e2
  exact Cu I hP ht hge hoc hdd hv (λb o hb e=>hx b o hb e) htab'.2 λhG I'=>h (.ref c') _ _ _ hG I' rfl λb o hb e=>hx b o hb e
end
def El(J:It)(g:TG)(te:TE)(σb:St):oX where
 nxt:=λi H Q=>J.go i H/\∀x H',J.yld i H x H'->g x σb H' λσ2 H2=>Fits σb σ2/\te σ2 H2 Q
 fin:=λi H Q=>J.stop i H/\Q H
def tGen(own:List Str)(capI:List Nat)(P:Addr)(wi:TI)(g:TG)(te:TE):pJ:=λσ H R=>wi σ H λJ H1=>∃ps,H1 P=some (.tbl ps)/\TOk H1 ps/\
 ∀lo H2 ps',Em lo P ps ps' H1 H2->R (El J g te (bz own σ capI)) H2
theorem xZ{A:Around}{elt tg iter:Expr}{scope:Scope}{pos:Pos}{it:Addr}{cenv:Env}{l:List Env}(h:A.frames=some l):(A.over (jg elt tg iter scope pos it cenv) []).frames=some (cenv::l):=by
 unfold Around.over
 show pushEnvs (Code.envs (jg elt tg iter scope pos it cenv)) (pushEnvs (envsOf []) A.frames)=_
 rw[h];rfl
theorem BV{X:Cx}{A':Around}{elt tg iter:Expr}{scope:Scope}{pos:Pos}{it:Addr}{cenv:Env}(hh:A'.handled=none)(hd:A'.depth<=X.A.depth+1)(hu:A'.units<=X.A.units+8):
  ∀k,cL (k+1) X.A->cL k (A'.in1.over (jg elt tg iter scope pos it cenv) []):=λk r=>by
 have e1:(A'.in1.over (jg elt tg iter scope pos it cenv) []).depth=A'.depth+1:=rfl
 have e2:(A'.in1.over (jg elt tg iter scope pos it cenv) []).units=A'.units+1+3:=rfl
 have e3:(A'.in1.over (jg elt tg iter scope pos it cenv) []).handled=A'.handled:=rfl
 have:=r.dp
 have:=r.un
 exact⟨e3.trans hh,by rw[e1];omega,by rw[e2];omega⟩
section
variable {X:Cx} {tg iter elt:Expr} {wi:TI} {g:TG} {te:TE} {own cap:List Str} {capI:List Nat} {scope:Scope} {pos:Pos} {P:Addr} {kr:Nat}
theorem Gg(hc:X.calm=true)(hr:cL kr X.A)(B:eY X own cap capI scope)(hown:∀x∈own,(x,NameKind.free)∉scope.names)(hnc:∀y∈scope.names,y.2≠ .cell)(h0:scope.names.lookup (".0":Str)=some NameKind.local)
  (hco:scope.isCoroutine=false) (htb:∃c,X.env.code= .ref c/\PySem.W.CodeHd X.base c P) (hi:PI X tg iter wi) (hg:∀AG cs C code fp s2 H2,PG (gF X AG own cap scope cs C code fp s2 H2) tg g)
  (he:∀AG cs C code fp s2 H2,(∀k,cL (k+1) X.A->cL k AG)->PE (gF X AG own cap scope cs C code fp s2 H2) elt te) (hs:∀x,genFold iter X.env x=pure x:=by intro _;rfl):
  uJ X (De elt tg iter scope pos) (tGen own capI P wi g te):=by
 intro pins s σ H R I h
 obtain⟨c,hcode,hhd⟩:=htb
 refine wpAny_GeneratorExp_make hco (ir (B.cells I)) hnc h0 B.kind hr.depth ?_ hs
 refine thn (hi pins s σ H _ I h) λv s1 h1=>thn h1 λitv s2 h2=>?_
 obtain⟨it,fp,tn,J,H2,e,I2,T,st2,f2,ps,hP,htr,hR⟩:=h2
 subst e
 refine⟨I2.nolimit,KH I2 hcode hhd hP htr λcode s4 H4 ps' hG I4 hgens hk4=>?_⟩
 obtain⟨bm,ob,b1,b2,b3,b4,b5,b6⟩:=I4.mod.bmain
 refine wpAny_builtinsFor (bm:=bm) (by rw[I4.ok.glob];exact I4.mod.glob.keeps I4.bk) b1 b2 (I4.bk _ _ b3) b4 b5 b6 ?_
 intro h5 hn5 hs5
 generalize hC:s4.heap.objs.size=C at hn5 hs5 ⊢
 have hCs:s4.heap.objs.size<=C:=Nat.le_of_eq hC
 have hR':=hR _ H4 ps' hG
 have k5:∀b o,s4.heap.get? b=some o->h5.get? b=some o:=λb o e=>hs5.extBut b o (Zk (Zc (Ze e) hCs)) (Zb _ e)
 have sz5:h5.objs.size=C+1:=by rw[hs5.1,Heap.size_push,hC]
 generalize ha:h5.objs.size=a
 have hCa:C<a:=by rw[<-ha,sz5];exact Nat.lt_succ_self _
 generalize hgi:s4.gens.size=gi
 generalize hgo:({ cls:=.type "generator",data:=.fields #[.int (gi:Int) 0,.str "<genexpr>" (s4.toks+1),.str (X.env.qual++"<genexpr>") (s4.toks+1+1)] }:Obj)=gob
 generalize hh6:h5.push gob=h6
 have k6:∀b o,h5.get? b=some o->h6.get? b=some o:=λb o e=>by rw[<-hh6];exact Zb _ e
 have k46:∀b o,s4.heap.get? b=some o->h6.get? b=some o:=λb o e=>k6 b o (k5 b o e)
 have oa6:h6.get? a=some gob:=by rw[<-hh6,<-ha];refine Zf _ ?_;rw[<-hgo];rfl
 have isg:∀{h:Heap},h.get? a=some gob->h.IsGen a gi:=λ{h} e=>⟨gob,.str "<genexpr>" (s4.toks+1),.str (X.env.qual++"<genexpr>") (s4.toks+1+1),e,by rw[<-hgo],by rw[<-hgo],by rw[<-hgo]⟩
 have hfr4:∀b∈fp,H4 b=none:=λb hb=>let⟨o,e,_⟩:=T.obj 0 _ st2 b hb;hG.none b (Ze e) (f2 b hb).1
 have f4:∀b∈fp,jk X pins H4 b:=λb hb=>⟨hfr4 b hb,(f2 b hb).2⟩
 have hbP:∀b∈fp,b≠P:=λb hb z=>by have n2:=(f2 b hb).1;rw[z,hP]at n2;cases n2
 have o4:∀b∈fp,∃o,s4.heap.get? b=some o:=λb hb=>let⟨o,e,_⟩:=T.obj 0 _ st2 b hb;⟨o,hk4 b o (hbP b hb) e⟩
 have st4:tn 0 s4.heap:=T.keep _ _ _ st2 λb hb o e=>hk4 b o (hbP b hb) e
 have hfa:∀b∈fp,b≠a/\b≠C:=λb hb=>let⟨o,e⟩:=o4 b hb
  have l:=Zc (Ze e) hCs
  ⟨Zk (Nat.lt_trans l hCa),Zk l⟩
 generalize hcenv:genEnv scope (cu X.env scope.names []) C code builtinsNs X.env=cenv
 have gk6:GK s4.gens (s4.gens.push (.fresh (genS elt tg iter scope pos it cenv))):=by
  refine⟨AllBare.push I4.bare.bare rfl,λk x e=>?_⟩
  have hlt:k<s4.gens.size:=by
   rcases Nat.lt_or_ge k s4.gens.size with z|z
   .exact z
   .rw[Array.getElem?_eq_none z]at e;cases e
  rw[Array.getElem?_push_lt hlt,<-Array.getElem?_eq_getElem hlt];exact e
 refine⟨a,El J g te (bz own σ capI),H4,rfl,I4.grown k46 gk6,?_,hR'⟩
 intro A' hAh hAf hAd hAu
 have gi6:(s4.gens.push (.fresh (genS elt tg iter scope pos it cenv)))[gi]? =some (.fresh (genS elt tg iter scope pos it cenv)):=by rw[<-hgi];simp
 generalize hX':gF X (A'.in1.over (jg elt tg iter scope pos it cenv) []) own cap scope (cu X.env scope.names []) C code fp s4 H4=X'
 have eP:X'.prog=X.prog:=by rw[<-hX'];rfl
 have eW:X'.w=X.w:=by rw[<-hX'];rfl
 have eK:X'.K=X.K:=by rw[<-hX'];rfl
 have eFs:X'.fs=frs X.stack:=by rw[<-hX'];rfl
 have eEx:X'.ex=fp:=by rw[<-hX'];rfl
 have eS:X'.s₀={ s4 with gens:=s4.gens.push .running}:=by rw[<-hX'];rfl
 have eH:X'.H₀=H4:=by rw[<-hX'];rfl
 have eL:X'.env.locals=C:=by rw[<-hX'];rfl
 have eC:X'.calm=true:=by rw[<-hX'];rfl
 have eX:X'.xe=λ_ _=>False:=by rw[<-hX'];rfl
 have ePn:X'.pn=[]:=by rw[<-hX'];rfl
 have eE:X'.env=cenv:=by rw[<-hX',<-hcenv];rfl
 have eA:X'.A=A'.in1.over (jg elt tg iter scope pos it X'.env) []:=by rw[eE,<-hX'];rfl
 have eCo:X'.env.scope.isCoroutine=false:=by rw[<-hX'];exact hco
 have hg':PG X' tg g:=by rw[<-hX'];exact hg _ _ _ _ _ _ _
 have he':PE X' elt te:=by rw[<-hX'];exact he _ _ _ _ _ _ _ (BV hAh hAd hAu)
 have T':Turn X'.prog X'.w X'.K tg J fp it tn:=by rw[eP,eW,eK];exact T
 have pfp:∀{Q:List (Addr×Obj)},(∀p∈Q,a<p.1)->∀p∈(a,gob)::Q,p.1∉fp:=λ{Q} hQ p hp hb=>by
  obtain⟨o,e⟩:=o4 _ hb
  have l:=Zc (Ze e) hCs
  rcases Zi.mp hp with z|z
  .subst z;exact absurd (Nat.lt_trans l hCa) (Nat.lt_irrefl _)
  .exact absurd (Nat.lt_trans (Nat.lt_trans l hCa) (hQ p z)) (Nat.lt_irrefl _)
 have afs:a∉X'.fs:=λhz=>by
  rw[eFs]at hz
  have l4:s4.heap.objs.size<=a:=Zl hCs (Nat.le_of_lt hCa)
  rcases Zi.mp (I4.stkSub a hz)with z|z
  .exact absurd I4.lt (by rw[<-z];exact Nat.not_lt.mpr l4)
  .exact I4.nofs l4 z
 have setg:∀(s:Shared)(x:GenState),(s.setGen gi x).gens=s.gens.setIfInBounds gi x:=λs x=>rfl
 have hSS:∀{Q:List (Addr×Obj)}{i:Nat}{H:Hp}{s:Shared},(∀p∈Q,a<p.1)->Inv X' ((a,gob)::Q) (bz own σ capI) H s->s.heap.get? a=some gob/\s.gens[gi]? =some .running/\
   ∀(x:GenState)(h':Heap)(tk:Nat),x.bare=true->(∀b o,s.heap.get? b=some o->h'.get? b=some o)->Inv X (pins++Q) σ H { s.setGen gi x with heap:=h',toks:=tk}:=λ{Q i H s} hQ I'=>by
  have pa:=(I'.pin (a,gob) (by simp)).1
  have gr:s.gens[gi]? =some .running:=I'.bare.kept gi .running (by rw[eS,<-hgi];simp)
  refine⟨pa,gr,λx h' tk hx hk=>?_⟩
  have ub:=I'.base
  rw[eFs,eEx,eS,eH]at ub
  have hok:=I'.hok
  rw[eP,eW]at hok
  refine Inv.more ?_ λp hp=>by
   have q:=I'.pin p (by simp[hp])
   have l4:s4.heap.objs.size<=p.1:=Zl hCs (Nat.le_of_lt (Nat.lt_trans hCa (hQ p hp)))
   exact⟨hk _ _ q.1,q.2.1,λz=>absurd I4.lt (by rw[<-z];exact Nat.not_lt.mpr l4),I4.nofs l4,q.2.2.2.2⟩
  refine I4.call' (ch:=fp) (s':={ s.setGen gi x with heap:=h',toks:=tk}) (by have:=I'.os;rw[eS]at this;exact this)
   ⟨λb o e n hb hx'=>hk b o (ub.keep b o e n hb hx'),λb o e n hb hx'=>let⟨sl,q⟩:=ub.slot b o e n hb hx';⟨sl,hk b _ q⟩,ub.free,λb o e hx'=>let⟨o',q⟩:=ub.there b o e hx';⟨o',hk b o' q⟩,ub.tups,ub.frzs,ub.tbls⟩
   (hok.kept hk) ⟨λy hy=>?_,λk y e=>?_⟩ λb hb=>?_
  .have hy':y∈s.gens.setIfInBounds gi x:=hy
   rcases Array.mem_or_eq_of_mem_setIfInBounds hy' with z|z
   .exact I'.bare.bare y z
   .rw[z];exact hx
  .have hlt:k<gi:=by
    rw[<-hgi]
    rcases Nat.lt_or_ge k s4.gens.size with z|z
    .exact z
    .rw[Array.getElem?_eq_none z]at e;cases e
   have q:=I'.bare.kept k y (by rw[eS];show(s4.gens.push .running)[k]? =some y;rw[Array.getElem?_push_lt (by rw[hgi];exact hlt),<-Array.getElem?_eq_getElem (by rw[hgi];exact hlt)];exact e)
   show(s.gens.setIfInBounds gi x)[k]? =some y
   rw[Array.getElem?_setIfInBounds_ne (Nat.ne_of_gt hlt)]
   exact q
  .obtain⟨q0,q1,q2,q3,q4,q5⟩:=f4 b hb
   exact⟨q3,q1,q4,q5⟩
 refine⟨a+1,λQ i H s=>(∀p∈Q,a<p.1)/\Inv X (pins++Q) σ H s/\(∃gs,s.gens[gi]? =some gs/\gs.bare=true/\(gs= .fresh (genS elt tg iter scope pos it X'.env)∨∃k l p cl,gs= .suspended k l (jg elt tg iter scope pos it X'.env) p [] cl/\k (.send .none)= .pure (.again (jg elt tg iter scope pos it X'.env))))/\
   Inv X' ((a,gob)::Q) (bz own σ capI) H (s.setGen gi .running)/\tn i s.heap/\∀b∈fp,H b=none,tG.mk' (λst=>st.2.1) (λst=>st.1) ?_ ?_ ?_ ?_ ?_ ?_,?_,Nat.lt_succ_self _,?_,λQ i H s st=>⟨gi,isg (hSS (i:=i) st.1 st.2.2.2.1).1⟩⟩
 .
  rintro PP i H s Q E ⟨hQ,I1,⟨gs,hgs,hb,hgs'⟩,Ib,st,fr⟩ ⟨go,step⟩
  have tr:=Ez (A1:=A'.in1) (elt:=elt) (tg:=tg) (iter:=iter) (scope:=scope) (pos:=pos) T' eA eC eEx ePn eCo eX hg' he' (pfp hQ) Ib st fr go step
  have oa:=(hSS (i:=i) hQ Ib).1
  rw[eP,eW]at tr
  refine jC hAh I1.nolimit (by have:=hr.dp;omega) (isg oa) hgs (Φ:=λe s'=>∃v k p y H',e= .susp v false [] k (jg elt tg iter scope pos it X'.env) p []/\k (.send .none)= .pure (.again (jg elt tg iter scope pos it X'.env))/\RelV y v/\Q y H'/\Inv X' ((a,gob)::PP) (bz own σ capI) H' s'/\tn (i+1) s'.heap/\∀b∈fp,H' b=none) ?_ ?_ ?_
  .rcases hgs' with e|⟨k,l,p,cl,e,ek⟩
   .subst e
    exact uz (i:=i) T st tr
   .subst e
    show aM _ _ _ (k (.send .none)) [] _ _
    rw[ek]
    exact aM.again rfl tr
  .rintro e s' ⟨v,k,p,y,H',rfl,_⟩
   rfl
  .rintro e s' ⟨v,k,p,y,H',rfl,ek,ry,qy,I',st',fr'⟩
   left
   refine⟨v,false,[],k,_,p,[],rfl,v,y,H',rfl,ry,qy,?_⟩
   obtain⟨oa',gr',mk⟩:=hSS (i:=i) hQ I'
   have e1:((s'.setGen gi (End.susp v false [] k (jg elt tg iter scope pos it X'.env) p []).genState).setGen gi .running)=s':=by
    have hl:gi<s'.gens.size:=by
     rcases Nat.lt_or_ge gi s'.gens.size with z|z
     .exact z
     .rw[Array.getElem?_eq_none z]at gr';cases gr'
    obtain⟨hh,gg,dd,tt,oo⟩:=s'
    show(Shared.mk hh ((gg.setIfInBounds gi _).setIfInBounds gi .running) dd tt oo)=_
    congr 1
    apply Array.ext_getElem?
    intro j
    by_cases hj:gi=j
    .subst hj
     have gr'':gg[gi]? =some .running:=gr'
     have hl':gi<gg.size:=hl
     rw[gr'']
     simp[hl']
    .simp[hj]
   refine⟨hQ,mk _ s'.heap s'.toks rfl λb o e=>e,⟨_,setGen_self gr',rfl,.inr ⟨k,[],p,_,rfl,ek⟩⟩,by rw[e1];exact I',st',fr'⟩
 .
  rintro PP i H s Q E ⟨hQ,I1,⟨gs,hgs,hb,hgs'⟩,Ib,st,fr⟩ ⟨hfin,hq⟩
  have tr:=Fe (A1:=A'.in1) (elt:=elt) (tg:=tg) (iter:=iter) (scope:=scope) (pos:=pos) T' eA eC eEx ePn (pfp hQ) Ib st fr hfin
  have oa:=(hSS (i:=i) hQ Ib).1
  rw[eP,eW]at tr
  refine jC hAh I1.nolimit (by have:=hr.dp;omega) (isg oa) hgs (Φ:=λe s'=>e= .ret (.ok .next)/\Inv X' ((a,gob)::PP) (bz own σ capI) H s') ?_ ?_ ?_
  .rcases hgs' with e|⟨k,l,p,cl,e,ek⟩
   .subst e
    exact uz (i:=i) T st tr
   .subst e
    show aM _ _ _ (k (.send .none)) [] _ _
    rw[ek]
    exact aM.again rfl tr
  .rintro e s' ⟨rfl,_⟩
   rfl
  .rintro e s' ⟨rfl,I'⟩
   right
   obtain⟨oa',gr',mk⟩:=hSS (i:=i) hQ I'
   exact⟨rfl,λh' hk=>⟨rfl,H,hq,mk .finished h' s'.toks rfl hk⟩⟩
 .
  rintro PP i H s h' tk ⟨hQ,I1,hgs,Ib,st,fr⟩ hk
  exact⟨hQ,I1.kept hk,hgs,Ib.kept (s:=s.setGen gi .running) hk,T.keep _ _ _ st λb _ o e=>hk b o e,fr⟩
 .
  rintro PP i H s D o ⟨hQ,I1,hgs,Ib,st,fr⟩ hD ho hn hcell
  have hDa:a<D:=hD
  have hD4:s4.heap.objs.size<=D:=Nat.le_of_lt (Nat.lt_of_le_of_lt hCs (Nat.lt_trans hCa hDa))
  refine⟨λp hp=>?_,?_,hgs,?_,st,fr⟩
  .rcases Zi.mp hp with z|z
   .subst z;exact hDa
   .exact hQ p z
  .refine I1.pins_of λp hp=>?_
   rcases Zm.mp hp with z|z
   .exact I1.pin p (by simp[z])
   .rcases Zi.mp z with z|z
    .subst z
     exact⟨ho,hn,λz=>absurd I4.lt (by rw[<-z];exact Nat.not_lt.mpr hD4),I4.nofs hD4,hcell⟩
    .exact I1.pin p (by simp[z])
  .refine Ib.pins_of λp hp=>?_
   rcases Zi.mp hp with z|z
   .exact Ib.pin p (by simp[z])
   .rcases Zi.mp z with z|z
    .subst z
     refine⟨ho,hn,by rw[eL];exact Nat.ne_of_gt (Nat.lt_trans hCa hDa),λhz=>?_,hcell⟩
     rw[eFs]at hz
     rcases Zi.mp (I4.stkSub D hz)with z|z
     .exact absurd I4.lt (by rw[<-z];exact Nat.not_lt.mpr hD4)
     .exact I4.nofs hD4 z
    .exact Ib.pin p (by simp[z])
 .
  rintro p PP i H s ⟨hQ,I1,hgs,Ib,st,fr⟩
  exact⟨λq hq=>hQ q (List.mem_cons_of_mem _ hq),I1.pins_of λq hq=>I1.pin q (by rcases Zm.mp hq with z|z<;>simp[z]),hgs,Ib.pins_of λq hq=>Ib.pin q (by rcases Zi.mp hq with z|z<;>simp[z]),st,fr⟩
 .
  rintro PP i H s h' tk D ⟨hQ,I1,hgs,Ib,st,fr⟩ hD hn hPD hk
  have hDa:a<D:=hD
  have hDC:C<D:=Nat.lt_trans hCa hDa
  have hD4:s4.heap.objs.size<=D:=Nat.le_of_lt (Nat.lt_of_le_of_lt hCs hDC)
  have l4:∀b,b<s4.heap.objs.size->b≠D:=λb hb=>Zk (Zc hb hD4)
  have cl4:∀x c,X.env.cells.lookup x=some c->c≠D:=λx c e=>let⟨v,q⟩:=I4.cell x c e;l4 c q.lt
  refine⟨hQ,I1.turned hk hn (Ne.symm (l4 _ I4.lt)) (.inr (Zl I4.sz hD4)) cl4 (λp hp=>?_),hgs,Ib.turned (s:=s.setGen gi .running) hk hn (by rw[eL];exact Nat.ne_of_gt hDC) (.inr (by rw[eS];exact hD4)) (λx c e=>?_) (λp hp=>?_),T.keep _ _ _ st λb hb o e=>hk b o ?_ e,fr⟩
  .rcases Zm.mp hp with z|z
   .exact l4 _ (Ze (I4.pin p (by simp[z])).1)
   .rcases Zm.mp z with z|z
    .exact l4 _ (Ze (I4.pin p (by simp[z])).1)
    .exact hPD p z
  .obtain⟨v,q⟩:=Ib.cell x c e
   have e':(cu X.env scope.names []).lookup x=some c:=by rw[<-hX']at e;exact e
   exact cl4 x c ((jL (Zt e')).elim (λz=>by simp at z) id)
  .rw[ePn,List.nil_append]at hp
   rcases Zi.mp hp with z|z
   .subst z;exact Zk hDa
   .exact hPD p z
  .obtain⟨o',e'⟩:=o4 b hb
   exact l4 b (Ze e')
 .
  have Ib0:Inv X' [] (bz own σ capI) H4 { s4 with heap:=h6,toks:=s4.toks+1+1+1,gens:=s4.gens.push .running}:=by
   rw[<-hX']
   refine I4.gen B hown hnc f4 o4 k46 hCs (hn5.at' λo e=>k6 _ o e) ?_ hAh
   rw[hcenv]
   exact xZ hAf
  refine⟨λp hp=>absurd hp (by simp),by rw[List.append_nil];exact(I4.grown k46 gk6:Inv X pins σ H4 _),⟨_,gi6,rfl,.inl (by rw[eE])⟩,?_,T.keep _ _ _ st4 λb _ o e=>k46 b o e,hfr4⟩
  have e1:(Shared.setGen { s4 with gens:=s4.gens.push (.fresh (genS elt tg iter scope pos it cenv)),toks:=s4.toks+1+1+1,heap:=h6} gi .running)={ s4 with heap:=h6,toks:=s4.toks+1+1+1,gens:=s4.gens.push .running}:=by
   show Shared.mk _ ((s4.gens.push _).setIfInBounds gi .running) _ _ _=_
   congr 1
   rw[<-hgi]
   apply Array.ext_getElem?
   intro j
   by_cases hj:s4.gens.size=j
   .subst hj;simp
   .simp[hj,Array.getElem?_push,Ne.symm hj]
  rw[e1]
  exact Ib0.pins_of λp hp=>by
   obtain rfl:p=(a,gob):=by simpa using hp
   refine⟨oa6,?_,by rw[eL];exact Nat.ne_of_gt hCa,afs,λv z=>?_⟩
   .exact I4.hok.fresh (Zl hCs (Nat.le_of_lt hCa))
   .rw[<-hgo]at z;cases z
 .show a+1<=h6.objs.size
  rw[<-hh6,Heap.size_push,ha]
  exact Zg _
end
section
variable {M:Model} {A:Around} {c:Code} {fs:List Frame} {s:Shared} {Φ:End->Shared->Prop}
theorem aM.call{c':Code}{h:Option Value}{g:Bool}{l:List Value}{k:Result->Sem Fin}(hc:∀p,aM M A c' (M.den c') (.ret k h g l c p []::fs) s Φ):aM M A c (.call c' h g l k) fs s Φ:=by
 rintro Γ p rfl hΓ
 obtain⟨e,s',hr,he⟩:=hc p (Γ.goto c') p rfl (hΓ.goto c')
 exact⟨e,s',runs_call_seg hr,he⟩
theorem aM.pop{k:Result->Sem Fin}{h:Option Value}{g:Bool}{l:List Value}{c₁:Code}{p₁:Pos}{kp:List Value}(r:Result)(hk:aM M A c₁ (k r) fs s Φ):aM M A c (leafOf r) (.ret k h g l c₁ p₁ kp::fs) s Φ:=by
 rintro Γ p rfl hΓ
 obtain⟨e,s',hr,he⟩:=hk (Γ.goto c₁) p₁ rfl (hΓ.goto c₁)
 exact⟨e,s',Runs.pop r hr,he⟩
end
abbrev ge2(elt t1 i1 t2 i2:Expr)(f1 f2:List Expr)(scope:Scope)(pos:Pos):Expr:=.GeneratorExp elt [⟨t1,i1,f1,0⟩,⟨t2,i2,f2,0⟩] scope pos
section
variable {elt t1 i1 t2 i2:Expr} {f1 f2:List Expr} {scope:Scope} {pos:Pos} {it acc:Value} {env:Env}
theorem zM:compTurn (ge2 elt t1 i1 t2 i2 f1 f2 scope pos) 0 it acc env=(do
   standAt i1.pos
   match<-pyNext it with
   |none=>pure (.done .next)
   |some v=>
    letOwnedTupleGo t1 it v
    assign t1 env v
    let mut ok:=true
    for c in f1 do
     if ok then ok<-isTrue c env (eval c env)
    if ok then
     let x<-eval i2 env
     standAt i2.pos
     let x<-foldedSetIterable i2 env x
     let _<-runOwn (.compStart (ge2 elt t1 i1 t2 i2 f1 f2 scope pos) 1 (<-holding [x] (pyIter x)) acc env) env
     again (.compLoop (ge2 elt t1 i1 t2 i2 f1 f2 scope pos) 0 it acc env)
    else again (.compLoop (ge2 elt t1 i1 t2 i2 f1 f2 scope pos) 0 it acc env)):=by rfl
theorem zY:compTurn (ge2 elt t1 i1 t2 i2 f1 f2 scope pos) 1 it acc env=(do
   standAt i2.pos
   match<-pyNext it with
   |none=>pure (.done .next)
   |some v=>
    letOwnedTupleGo t2 it v
    assign t2 env v
    let mut ok:=true
    for c in f2 do
     if ok then ok<-isTrue c env (eval c env)
    if ok then
     (do let v<-eval elt env;standAt elt.pos;let _<-yieldOut env v)
    again (.compLoop (ge2 elt t1 i1 t2 i2 f1 f2 scope pos) 1 it acc env)):=by rfl
end
abbrev fZ(elt t1 i1 t2 i2:Expr)(f1 f2:List Expr)(scope:Scope)(pos:Pos)(d:Nat)(it:Addr)(cenv:Env):Code:=.compLoop (ge2 elt t1 i1 t2 i2 f1 f2 scope pos) d (.ref it) .none cenv
abbrev wL(elt t1 i1 t2 i2:Expr)(f1 f2:List Expr)(scope:Scope)(pos:Pos)(d:Nat)(it:Addr)(cenv:Env):Code:=.compStart (ge2 elt t1 i1 t2 i2 f1 f2 scope pos) d (.ref it) .none cenv
def yP(F:Frame)(c:Code):Prop:=∃k l p kp,F= .ret k none false l c p kp/\k (.ok .next)= .pure (.again c)
section
variable {elt t1 i1 t2 i2:Expr} {f1 f2:List Expr} {scope:Scope} {pos:Pos}
theorem Du{A:Around}{F:Frame}{it1 it2:Addr}{cenv:Env}(h:yP F (fZ elt t1 i1 t2 i2 f1 f2 scope pos 0 it1 cenv)):
  A.over (fZ elt t1 i1 t2 i2 f1 f2 scope pos 1 it2 cenv) [F]=A.over (fZ elt t1 i1 t2 i2 f1 f2 scope pos 0 it1 cenv) []:=by
 obtain⟨k,l,p,kp,rfl,_⟩:=h
 rfl
end
structure Two(J1:It)(g1 g2:TG)(tt1 tt2:TT)(wi2:TI)(te:TE)(σb:St)(Y:V->Nat->St->It->Nat->Hp->Prop)(E:Hp->Prop)(O:Nat->Nat->Hp->Prop)(N:Nat->St->It->Nat->Nat->Hp->Prop):Prop where
 out:∀i m H,O i m H->(J1.stop i H/\E H)∨(J1.go i H/\∀x H',J1.yld i H x H'->g1 x σb H' λσ1 H2=>Fits σb σ1/\tt1 σ1 H2 λb H3=>
  if b=true then wi2 σ1 H3 λJ2 H4=>∃m',m'<m/\N (i+1) σ1 J2 0 m' H4 else∃m',m'<m/\O (i+1) m' H3)
 inn:∀i σ1 J2 j m H,N i σ1 J2 j m H->(J2.stop j H/\∃m',m'<m/\O i m' H)∨(J2.go j H/\∀x H',J2.yld j H x H'->g2 x σ1 H' λσ2 H2=>Fits σ1 σ2/\tt2 σ2 H2 λb H3=>
  if b=true then te σ2 H3 λy H4=>Y y i σ1 J2 (j+1) H4 else∃m',m'<m/\N i σ1 J2 (j+1) m' H3)
def Ck(X:Cx)(t2:Expr)(P:List (Addr×Obj))(fp:List Addr)(tn:Nat->Heap->Prop)(σb:St)(i:Nat)(σ1:St)(J2:It)(j:Nat)(it2:Addr)(H:Hp)(s:Shared):Prop:=
 ∃fp2 tn2,Turn X.prog X.w X.K t2 J2 fp2 it2 tn2/\Inv X P σ1 H s/\Fits σb σ1/\tn i s.heap/\(∀b∈fp,H b=none)/\tn2 j s.heap/\(∀b∈fp2,jk X P H b)/\∀b∈fp2,b∉fp
section
variable {X:Cx} {A1:Around} {elt t1 i1 t2 i2:Expr} {f1 f2:List Expr} {scope:Scope} {pos:Pos} {it:Addr} {fp:List Addr} {tn:Nat->Heap->Prop} {J1:It} {σb:St} {g1 g2:TG} {tt1 tt2:TT} {wi2:TI} {te:TE}
def Bm(X:Cx)(elt t1 i1 t2 i2:Expr)(f1 f2:List Expr)(scope:Scope)(pos:Pos)(it:Addr)(P:List (Addr×Obj))(fp:List Addr)(tn:Nat->Heap->Prop)(σb:St)(Y:V->Nat->St->It->Nat->Hp->Prop)(E:Hp->Prop)(e:End)(s':Shared):Prop:=
 (∃v k p y i σ1 J2 j it2 F H',e= .susp v false [] k (fZ elt t1 i1 t2 i2 f1 f2 scope pos 1 it2 X.env) p [F]/\k (.send .none)= .pure (.again (fZ elt t1 i1 t2 i2 f1 f2 scope pos 1 it2 X.env))/\
  yP F (fZ elt t1 i1 t2 i2 f1 f2 scope pos 0 it X.env)/\RelV y v/\Y y i σ1 J2 j H'/\Ck X t2 P fp tn σb i σ1 J2 j it2 H' s')∨
 (e= .ret (.ok .next)/\∃H',Inv X P σb H' s'/\E H')
theorem Bj(T:Turn X.prog X.w X.K t1 J1 fp it tn)(hA:X.A=A1.over (fZ elt t1 i1 t2 i2 f1 f2 scope pos 0 it X.env) [])(hc:X.calm=true)(hpn:X.pn=[])(hco:X.env.scope.isCoroutine=false)
  (hxe:X.xe=λ_ _=>False) (hg1:PG X t1 g1) (ht1:PIf X f1 tt1) (hi2:PI X t2 i2 wi2) (hg2:PG X t2 g2) (ht2:PIf X f2 tt2) (he:PE X elt te) (hs2:∀x,foldedSetIterable i2 X.env x=pure x)
  {P:List (Addr×Obj)} (hst:∀b∈fp,b≠X.env.locals/\b∉X.fs/\(b∈X.ex∨X.s₀.heap.objs.size<=b)/\(∀x c,X.env.cells.lookup x=some c->c≠b)) (hP:∀p∈P,p.1∉fp)
  {Y:V->Nat->St->It->Nat->Hp->Prop} {E:Hp->Prop} {O:Nat->Nat->Hp->Prop} {N:Nat->St->It->Nat->Nat->Hp->Prop} (R:Two J1 g1 g2 tt1 tt2 wi2 te σb Y E O N):∀m,
  (∀i H s,O i m H->Inv X P σb H s->tn i s.heap->(∀b∈fp,H b=none)->aM (model X.prog X.w) A1 (fZ elt t1 i1 t2 i2 f1 f2 scope pos 0 it X.env) ((model X.prog X.w).den (fZ elt t1 i1 t2 i2 f1 f2 scope pos 0 it X.env)) [] s (Bm X elt t1 i1 t2 i2 f1 f2 scope pos it P fp tn σb Y E))/\
  (∀i σ1 J2 j it2 F H s,N i σ1 J2 j m H->Ck X t2 P fp tn σb i σ1 J2 j it2 H s->yP F (fZ elt t1 i1 t2 i2 f1 f2 scope pos 0 it X.env)->
   aM (model X.prog X.w) A1 (fZ elt t1 i1 t2 i2 f1 f2 scope pos 1 it2 X.env) ((model X.prog X.w).den (fZ elt t1 i1 t2 i2 f1 f2 scope pos 1 it2 X.env)) [F] s (Bm X elt t1 i1 t2 i2 f1 f2 scope pos it P fp tn σb Y E)):=by
 have stat:∀{H':Hp},(∀b∈fp,H' b=none)->∀b∈fp,jk X P H' b:=λ{H'} hn b hb=>by
  obtain⟨q1,q2,q3,q4⟩:=hst b hb
  exact⟨hn b hb,q1,q2,q3,q4,λp hp e=>by rw[hpn]at hp;exact hP p hp (e▸hb)⟩
 intro m
 induction m using Nat.strongRecOn with
 |ind m ih=>
  refine⟨λi H s ho I st fr=>?_,λi σ1 J2 j it2 F H s hn hin hF=>?_⟩
  .show aM _ A1 _ ((compTurn (ge2 elt t1 i1 t2 i2 f1 f2 scope pos) 0 (.ref it) .none X.env).onRaise (leaving X.env)) [] s _
   rw[zM,Sem.onRaise_eq_wrap]
   refine aM.bindWrap (wpAny_standAt ?_)
   rcases R.out i m H ho with⟨stop,hE⟩|⟨go,step⟩
   .have q:=T.done X rfl rfl rfl hc i P s σb H (λ_ _=>False) I (stat fr) st stop
    rw[hA]at q
    refine aM.bindWrap (wpAny_mono q (λr s1 ⟨hr,I1⟩=>?_) λ_ _ z=>z.elim)
    subst hr
    exact aM.end (.ok .next) (.inr ⟨rfl,H,I1,hE⟩)
   .have q:=T.item X rfl rfl rfl hc i P s σb H (λ_ _=>False) I (stat fr) st go
    rw[hA]at q
    refine aM.bindWrap (wpAny_mono q (λr s1 ⟨u,hr,h1⟩=>?_) λ_ _ z=>z.elim)
    subst hr
    refine aM.bindWrap (wpAny_mono h1 (λ_ s2 ⟨x,H2,I2,r2,y2,st2,fr2⟩=>?_) λ_ _ z=>z.elim)
    have I2':=I2.pinned (stat fr2) (T.obj _ _ st2)
    have a1:=hg1 _ s2 σb H2 x u _ I2' r2 (step x H2 y2)
    rw[hA,hxe]at a1
    refine aM.bindWrap (wpAny_mono a1 (λ_ s3 ⟨σ3,H3,I3,ft3,q3⟩=>?_) λ_ _ z=>z.elim)
    have a2:=ht1 _ s3 σ3 H3 _ I3 q3
    rw[hA,hxe]at a2
    refine aM.bindWrap (wpAny_mono a2 (λok s4 ⟨H4,I4,q4⟩=>?_) λ_ _ z=>z.elim)
    have kept:∀{σ':St}{H':Hp}{s':Shared},Inv X (P++jm fp s2.heap) σ' H' s'->tn (i+1) s'.heap/\∀b∈fp,H' b=none:=λ{σ' H' s'} I'=>by
     refine⟨T.keep _ _ _ st2 λb hb o e=>?_,λb hb=>?_⟩
     .exact(I'.pin (b,o) (Zn _ (Zn _ (bN hb e)))).1
     .obtain⟨o,e,d⟩:=T.obj _ _ st2 b hb
      exact(I'.pin (b,o) (Zn _ (Zn _ (bN hb e)))).2.1
    cases ok with
    |false=>
     rw[if_neg Zr]at q4
     obtain⟨m',hm,w4⟩:=q4
     obtain⟨st4,fr4⟩:=kept I4
     exact aM.again rfl ((ih m' hm).1 (i+1) H4 s4 w4 (I4.weak ft3.1.symm ft3.2).unpinned st4 fr4)
    |true=>
     rw[if_pos rfl]at q4
     have a3:=hi2 _ s4 σ3 H4 _ I4 q4
     rw[hA,hxe]at a3
     refine aM.bindWrap (wpAny_mono a3 (λv2 s5 h5=>?_) λ_ _ z=>z.elim)
     refine aM.bindWrap (wpAny_standAt (aM.bindWrap (wpAny_of_eq (hs2 v2) (aM.bindWrap (wpAny_holding (wpAny_mono h5 (λitv s6 h6=>?_) λ_ _ z=>z.elim))))))
     obtain⟨it2,fp2,tn2,J2,H6,e,I6,T2,st6,f6,m',hm,w6⟩:=h6
     subst e
     obtain⟨st1',fr1'⟩:=kept I6
     have hno:∀b∈fp2,b∉fp:=λb hb z=>by
      obtain⟨o,e,d⟩:=T.obj _ _ st2 b z
      exact(f6 b hb).2.2.2.2.2 (b,o) (Zn _ (Zn _ (bN z e))) rfl
     have hin:Ck X t2 P fp tn σb (i+1) σ3 J2 0 it2 H6 s6:=⟨fp2,tn2,T2,I6.unpinned,ft3,st1',fr1',st6,λb hb=>by
      obtain⟨q0,q1,q2,q3,q4,q5⟩:=f6 b hb
      exact⟨q0,q1,q2,q3,q4,λp hp=>(Zm.mp hp).elim (λz=>q5 p (List.mem_append_left _ z)) λz=>q5 p (Zn _ (List.mem_append_left _ z))⟩,hno⟩
     refine aM.call λp=>?_
     generalize hF:(Frame.ret _ none _ _ _ p []:Frame)=F
     have hFr:yP F (fZ elt t1 i1 t2 i2 f1 f2 scope pos 0 it X.env):=⟨_,_,_,_,hF.symm,rfl⟩
     have run:=(ih m' hm).2 (i+1) σ3 J2 0 it2 F H6 s6 w6 hin hFr
     show aM _ A1 _ ((compStart (ge2 elt t1 i1 t2 i2 f1 f2 scope pos) 1 (.ref it2) .none X.env).onRaise (λx=>do noteFrame x X.env;standAt theWindowsPlace)) [F] s6 _
     unfold compStart
     rw[Sem.onRaise_eq_wrap]
     show aM _ A1 _ ((ask >>= _).wrap _ _ _ _) [F] s6 _
     refine aM.bindWrap (wpAny_askSetting ?_)
     split
     .exact aM.again rfl run
     .first
       |exact aM.bindWrap (wpAny_rule (aM.bindWrap (wpAny_standAt (aM.bindWrap (T2.self _ 0 s6 _ _ st6 (aM.again rfl run))))))
       |(refine aM.bindWrap (wpAny_rule ?_);show aM _ A1 _ ((standAt i2.pos >>= _).wrap _ _ _ _) [F] s6 _;exact aM.bindWrap (wpAny_standAt (aM.bindWrap (T2.self _ 0 s6 _ _ st6 (aM.again rfl run)))))
  .obtain⟨fp2,tn2,T2,I,ft,st,fr,st2,f2',hno⟩:=hin
   have hA2:X.A=A1.over (fZ elt t1 i1 t2 i2 f1 f2 scope pos 1 it2 X.env) [F]:=hA.trans (Du hF).symm
   have Ip:=I.pinned (stat fr) (T.obj _ _ st)
   have stat2:∀{H':Hp},(∀b∈fp2,H' b=none)->∀b∈fp2,jk X (P++jm fp s.heap) H' b:=λ{H'} hn b hb=>by
    obtain⟨q0,q1,q2,q3,q4,q5⟩:=f2' b hb
    refine⟨hn b hb,q1,q2,q3,q4,λp hp=>?_⟩
    rcases Zm.mp hp with z|z
    .exact q5 p (List.mem_append_left _ z)
    .rcases Zm.mp z with z|z
     .exact q5 p (Zn _ z)
     .exactλe=>hno b hb (e▸(uy z).1)
   have fr2:∀b∈fp2,H b=none:=λb hb=>(f2' b hb).1
   have kept:∀{Q:List (Addr×Obj)}{σ':St}{H':Hp}{s':Shared},Inv X (P++jm fp s.heap++Q) σ' H' s'->tn i s'.heap/\∀b∈fp,H' b=none:=λ{Q σ' H' s'} I'=>by
    refine⟨T.keep _ _ _ st λb hb o e=>?_,λb hb=>?_⟩
    .exact(I'.pin (b,o) (Zn _ (List.mem_append_left _ (Zn _ (bN hb e))))).1
    .obtain⟨o,e,d⟩:=T.obj _ _ st b hb
     exact(I'.pin (b,o) (Zn _ (List.mem_append_left _ (Zn _ (bN hb e))))).2.1
   show aM _ A1 _ ((compTurn (ge2 elt t1 i1 t2 i2 f1 f2 scope pos) 1 (.ref it2) .none X.env).onRaise (λx=>do noteFrame x X.env;theTreesLotGoes x)) [F] s _
   rw[zY,Sem.onRaise_eq_wrap]
   refine aM.bindWrap (wpAny_standAt ?_)
   rcases R.inn i σ1 J2 j m H hn with⟨stop,m',hm,ho⟩|⟨go,step⟩
   .have q:=T2.done X rfl rfl rfl hc j _ s σ1 H (λ_ _=>False) Ip (stat2 fr2) st2 stop
    rw[hA2]at q
    refine aM.bindWrap (wpAny_mono q (λr s1 ⟨hr,I1⟩=>?_) λ_ _ z=>z.elim)
    subst hr
    obtain⟨st1,fr1⟩:=kept (Q:=[]) (by rw[List.append_nil];exact I1)
    have run:=(ih m' hm).1 i H s1 ho (I1.weak ft.1.symm ft.2).unpinned st1 fr1
    obtain⟨k,l,p,kp,rfl,hk⟩:=hF
    refine aM.pop (.ok .next) ?_
    rw[hk]
    exact aM.again rfl run
   .have q:=T2.item X rfl rfl rfl hc j _ s σ1 H (λ_ _=>False) Ip (stat2 fr2) st2 go
    rw[hA2]at q
    refine aM.bindWrap (wpAny_mono q (λr s1 ⟨u,hr,h1⟩=>?_) λ_ _ z=>z.elim)
    subst hr
    refine aM.bindWrap (wpAny_mono h1 (λ_ s2 ⟨x,H2,I2,r2,y2,st2',fr2'⟩=>?_) λ_ _ z=>z.elim)
    have I2':=I2.pinned (stat2 fr2') (T2.obj _ _ st2')
    have a1:=hg2 _ s2 σ1 H2 x u _ I2' r2 (step x H2 y2)
    rw[hA2,hxe]at a1
    refine aM.bindWrap (wpAny_mono a1 (λ_ s3 ⟨σ3,H3,I3,ft3,q3⟩=>?_) λ_ _ z=>z.elim)
    have a2:=ht2 _ s3 σ3 H3 _ I3 q3
    rw[hA2,hxe]at a2
    refine aM.bindWrap (wpAny_mono a2 (λok s4 ⟨H4,I4,q4⟩=>?_) λ_ _ z=>z.elim)
    have kept2:∀{H':Hp}{s':Shared},Inv X (P++jm fp s.heap++jm fp2 s2.heap) σ3 H' s'->Ck X t2 P fp tn σb i σ1 J2 (j+1) it2 H' s':=λ{H' s'} I'=>by
     obtain⟨st',fr'⟩:=kept I'
     refine⟨fp2,tn2,T2,((I'.weak ft3.1.symm ft3.2).unpinned).unpinned,ft,st',fr',T2.keep _ _ _ st2' λb hb o e=>?_,λb hb=>?_,hno⟩
     .exact(I'.pin (b,o) (Zn _ (Zn _ (bN hb e)))).1
     .obtain⟨q0,q1,q2,q3,q4,q5⟩:=f2' b hb
      obtain⟨o,e,d⟩:=T2.obj _ _ st2' b hb
      exact⟨(I'.pin (b,o) (Zn _ (Zn _ (bN hb e)))).2.1,q1,q2,q3,q4,q5⟩
    cases ok with
    |false=>
     rw[if_neg Zr]at q4
     obtain⟨m',hm,w4⟩:=q4
     exact aM.again rfl ((ih m' hm).2 i σ1 J2 (j+1) it2 F H4 s4 w4 (kept2 I4) hF)
    |true=>
     rw[if_pos rfl]at q4
     simp only[if_true]
     have hy:∀v,yieldOut X.env v=yieldValue v:=λv=>by simp only[yieldOut,hco,Bool.false_eq_true,if_false]
     simp only[hy]
     rw[Sem.bind_eq_wrap',Sem.bind_eq_wrap',Sem.wrap_wrap,Sem.wrap_wrap]
     have a3:=he _ s4 σ3 H4 _ I4 q4
     rw[hA2,hxe]at a3
     refine aM.wrap (wpAny_mono a3 (λv s5 ⟨y,H5,I5,r5,q5⟩=>?_) λ_ _ z=>z.elim)
     have hsp:splitAtGen [F]=none:=by obtain⟨k,l,p,kp,rfl,hk⟩:=hF;rfl
     refine aM.at (aM.yield hsp λp=>.inl ⟨v,_,p,y,i,σ1,J2,j+1,it2,F,H5,rfl,rfl,hF,r5,q5,kept2 I5⟩)
end
section
variable {M:Model} {A:Around} {E:Value->Shared->Prop} {s:Shared} {elt t1 i1 t2 i2:Expr} {f1 f2:List Expr} {scope:Scope} {pos:Pos} {env:Env}
theorem Ed(hco:scope.isCoroutine=false):eval (ge2 elt t1 i1 t2 i2 f1 f2 scope pos) env=(do
   let x0<-eval i1 env
   standAt i1.pos
   let x1<-genFold i1 env x0
   let walk<-holding [x1] (pyIter x1)
   enterFrame
   let clo<-closureFor scope env
   let cv<-genexprCode env pos (env.qual++"<genexpr>") scope
   let bv<-builtinsFor env.globals env.builtins
   let inner<-newFunctionEnv scope env.globals clo [(".0",walk)] (env.qual++"<genexpr>.") none cv none bv
   newGenerator (.compStart (ge2 elt t1 i1 t2 i2 f1 f2 scope pos) 0 walk .none inner) "<genexpr>" (env.qual++"<genexpr>")):=by
 rw[arm_eval_GeneratorExp]
 simp only[hco,Bool.false_eq_true,if_false]
 cases i1<;>rfl
theorem Kf{α:Type}{m:Sem α}{P Q:α->Shared->Prop}(h:wpAny M A m P E s)(k:∀a s',P a s'->Q a s'):wpAny M A m Q E s:=wpAny_mono h k λ_ _ z=>z
theorem Gn{cl:List (Str×Addr)}{Q:Value->Shared->Prop}(hco:scope.isCoroutine=false)(hcl:closureFor scope env=pure cl)(hnc:∀y∈scope.names,y.2≠ .cell)(h0:scope.names.lookup (".0":Str)=some NameKind.local)(hk:scope.kind= .function)(hroom:A.depth<recursionLimit)(hs:∀x,genFold i1 env x=pure x)
  (h:wpAny M A (eval i1 env) (λx0 s1=>wpAny M A (pyIter x0) (λwalk s2=>s2.heap.NoLimit/\wpAny M A (genexprCode env pos (env.qual++"<genexpr>") scope) (λcv s3=>wpAny M A (builtinsFor env.globals env.builtins) (λbv s4=>
   ∀h5,h5.Ns s4.heap.objs.size (λy=>if y=".0" then some walk else none)->Heap.SameBut s4.heap.objs.size (s4.heap.push { cls:=.type "frame",data:=.dict #[] }) h5->
    Q (.ref h5.objs.size) { s4 with gens:=s4.gens.push (.fresh (.compStart (ge2 elt t1 i1 t2 i2 f1 f2 scope pos) 0 walk .none (genEnv scope cl s4.heap.objs.size cv bv env))),toks:=s4.toks+1+1+1,heap:=h5.push { cls:=.type "generator",data:=.fields #[.int s4.gens.size 0,.str "<genexpr>" (s4.toks+1),.str (env.qual++"<genexpr>") (s4.toks+1+1)] } }) E s3) E s2) E s1) E s):
  wpAny M A (eval (ge2 elt t1 i1 t2 i2 f1 f2 scope pos) env) Q E s:=by
 have one:∀(u:Value),(λy:Str=>([((".0":Str),u)]:List (Str×Value)).reverse.lookup y)=λy:Str=>if y=(".0":Str)then some u else none:=λu=>by
  funext y
  rw[List.reverse_singleton,List.lookup_cons]
  by_cases z:y=".0"
  .simp[z]
  .rw[show(y==(".0":Str))=false from by simpa using z,if_neg z];rfl
 rw[Ed hco,hcl]
 refine wpAny_bind (Kf h λx0 s1 q1=>wpAny_bind (wpAny_standAt (wpAny_bind (wpAny_of_eq (hs x0) (wpAny_bind (wpAny_holding (Kf q1 λwalk s2 q2=>?_)))))))
 obtain⟨nl,q2⟩:=q2
 refine wpAny_bind (wpAny_enterFrame nl hroom (wpAny_bind (wpAny_pure (wpAny_bind (Kf q2 λcv s3 q3=>wpAny_bind (Kf q3 λbv s4 q4=>?_))))))
 refine wpAny_bind (wpAny_newFunctionEnv hnc (λy hy=>by rw[List.mem_singleton.mp hy];exact h0) (λh5 hn5 hs5=>?_) hk)
 rw[one]at hn5
 simp only[newGenerator,newFields]
 exact wpAny_bind (wpAny_newGen (wpAny_bind (wpAny_mkText (wpAny_bind (wpAny_mkText (wpAny_newObj_type (q4 h5 hn5 hs5) (by size_fits)))))))
end
abbrev S2:=Option (Nat×St×It×Nat)
def At2(O:Nat->Nat->Hp->Prop)(N:Nat->St->It->Nat->Nat->Hp->Prop)(st:S2)(H:Hp):Prop:=match st with
 |none=>∃m,O 0 m H
 |some (i,σ1,J2,j)=>∃m,N i σ1 J2 j m H
def KY(J1:It)(g1 g2:TG)(tt1 tt2:TT)(wi2:TI)(te:TE)(σb:St)(st:S2)(H:Hp)(Y:V->Nat->St->It->Nat->Hp->Prop)(E:Hp->Prop):Prop:=
 ∃O N,Two J1 g1 g2 tt1 tt2 wi2 te σb Y E O N/\At2 O N st H
def Aw(J1:It)(g1 g2:TG)(tt1 tt2:TT)(wi2:TI)(te:TE)(σb:St)(R:Nat->S2->Hp->Prop):oX where
 nxt:=λn H Q=>∀st,R n st H->KY J1 g1 g2 tt1 tt2 wi2 te σb st H (λy i σ1 J2 j H'=>Q y H'/\R (n+1) (some (i,σ1,J2,j)) H') (λ_=>False)
 fin:=λn H Q=>∀st,R n st H->KY J1 g1 g2 tt1 tt2 wi2 te σb st H (λ_ _ _ _ _ _=>False) Q
def Rb(own:List Str)(capI:List Nat)(P:Addr)(wi1:TI)(g1:TG)(tt1:TT)(wi2:TI)(g2:TG)(tt2:TT)(te:TE):pJ:=λσ H R=>wi1 σ H λJ H1=>∃ps,H1 P=some (.tbl ps)/\TOk H1 ps/\
 ∀lo H2 ps',Em lo P ps ps' H1 H2->∃R0:Nat->S2->Hp->Prop,R0 0 none H2/\R (Aw J g1 g2 tt1 tt2 wi2 te (bz own σ capI) R0) H2
section
variable {elt t1 i1 t2 i2:Expr} {f1 f2:List Expr} {scope:Scope} {pos:Pos} {it:Addr} {cenv:Env}
theorem vM{A:Around}{l:List Env}(h:A.frames=some l):(A.over (fZ elt t1 i1 t2 i2 f1 f2 scope pos 0 it cenv) []).frames=some (cenv::l):=by
 unfold Around.over
 show pushEnvs (Code.envs (fZ elt t1 i1 t2 i2 f1 f2 scope pos 0 it cenv)) (pushEnvs (envsOf []) A.frames)=_
 rw[h];rfl
theorem yR{X:Cx}{A':Around}(hh:A'.handled=none)(hd:A'.depth<=X.A.depth+1)(hu:A'.units<=X.A.units+8):
  ∀k,cL (k+1) X.A->cL k (A'.in1.over (fZ elt t1 i1 t2 i2 f1 f2 scope pos 0 it cenv) []):=λk r=>by
 have e1:(A'.in1.over (fZ elt t1 i1 t2 i2 f1 f2 scope pos 0 it cenv) []).depth=A'.depth+1:=rfl
 have e2:(A'.in1.over (fZ elt t1 i1 t2 i2 f1 f2 scope pos 0 it cenv) []).units=A'.units+1+3:=rfl
 have e3:(A'.in1.over (fZ elt t1 i1 t2 i2 f1 f2 scope pos 0 it cenv) []).handled=A'.handled:=rfl
 have:=r.dp
 have:=r.un
 exact⟨e3.trans hh,by rw[e1];omega,by rw[e2];omega⟩
theorem rR{A0:Around}{P:Program}{w:World}{K:PySem.W.Frag}{fp:List Addr}{tn:Nat->Heap->Prop}{J:It}{Φ:End->Shared->Prop}{s:Shared}{i:Nat}(T:Turn P w K t1 J fp it tn)(st:tn i s.heap)
  (h:aM (model P w) A0 (fZ elt t1 i1 t2 i2 f1 f2 scope pos 0 it cenv) ((model P w).den (fZ elt t1 i1 t2 i2 f1 f2 scope pos 0 it cenv)) [] s Φ):
  aM (model P w) A0 (wL elt t1 i1 t2 i2 f1 f2 scope pos 0 it cenv) ((model P w).den (wL elt t1 i1 t2 i2 f1 f2 scope pos 0 it cenv)) [] s Φ:=by
 show aM _ A0 _ ((compStart (ge2 elt t1 i1 t2 i2 f1 f2 scope pos) 0 (.ref it) .none cenv).onRaise (leaving cenv)) [] s _
 unfold compStart
 rw[Sem.onRaise_eq_wrap]
 show aM _ A0 _ ((ask >>= _).wrap _ _ _ _) [] s _
 refine aM.bindWrap (wpAny_askSetting ?_)
 split
 .exact aM.again rfl h
 .first
   |exact aM.bindWrap (wpAny_rule (aM.bindWrap (wpAny_standAt (aM.bindWrap (T.self _ i s _ _ st (aM.again rfl h))))))
   |(refine aM.bindWrap (wpAny_rule ?_);show aM _ A0 _ ((standAt i1.pos >>= _).wrap _ _ _ _) [] s _;exact aM.bindWrap (wpAny_standAt (aM.bindWrap (T.self _ i s _ _ st (aM.again rfl h)))))
end
theorem Inv.put{Y:Cx}{L B:List (Addr×Obj)}{σ:St}{H:Hp}{s:Shared}{D:Addr}{o o':Obj}{h':Heap}{tk:Nat}(I:Inv Y (L++(D,o)::B) σ H s)(h1:D∈Y.ex∨Y.s₀.heap.objs.size<=D)(h2:∀x c,Y.env.cells.lookup x=some c->c≠D)(h3:∀p∈Y.pn++(L++B),p.1≠D)
  (hk:∀b u,b≠D->s.heap.get? b=some u->h'.get? b=some u) (ho:h'.get? D=some o') (hc:∀v,o'.data≠ .cell v):Inv Y (L++(D,o')::B) σ H { s with heap:=h',toks:=tk}:=by
 have pd:=I.pin (D,o) (by simp)
 have I1:Inv Y (L++B) σ H s:=I.pins_of λp hp=>I.pin p (Zn _ ((Zm.mp hp).elim (λz=>List.mem_append_left _ z) λz=>Zn _ (List.mem_cons_of_mem _ z)))
 have I2:=I1.turned (t':=tk) hk pd.2.1 pd.2.2.1 h1 h2 h3
 refine I2.pins_of λp hp=>?_
 rcases Zm.mp hp with z|z
 .exact I2.pin p (Zn _ (List.mem_append_left _ z))
 .rcases Zi.mp z with z|z
  .subst z
   exact⟨ho,pd.2.1,pd.2.2.1,pd.2.2.2.1,hc⟩
  .exact I2.pin p (Zn _ (Zn _ z))
section
variable {X:Cx} {elt t1 i1 t2 i2:Expr} {f1 f2:List Expr} {wi1 wi2:TI} {g1 g2:TG} {tt1 tt2:TT} {te:TE} {own cap:List Str} {capI:List Nat} {scope:Scope} {pos:Pos} {P:Addr} {kr:Nat}
theorem BW(hc:X.calm=true)(hr:cL kr X.A)(B:eY X own cap capI scope)(hown:∀x∈own,(x,NameKind.free)∉scope.names)(hnc:∀y∈scope.names,y.2≠ .cell)(h0:scope.names.lookup (".0":Str)=some NameKind.local)
  (hco:scope.isCoroutine=false) (htb:∃c,X.env.code= .ref c/\PySem.W.CodeHd X.base c P) (hi1:PI X t1 i1 wi1)
  (hg1:∀AG cs C code fp s2 H2,PG (gF X AG own cap scope cs C code fp s2 H2) t1 g1)
  (ht1:∀AG cs C code fp s2 H2,(∀k,cL (k+1) X.A->cL k AG)->PIf (gF X AG own cap scope cs C code fp s2 H2) f1 tt1)
  (hi2:∀AG cs C code fp s2 H2,(∀k,cL (k+1) X.A->cL k AG)->PI (gF X AG own cap scope cs C code fp s2 H2) t2 i2 wi2)
  (hg2:∀AG cs C code fp s2 H2,PG (gF X AG own cap scope cs C code fp s2 H2) t2 g2)
  (ht2:∀AG cs C code fp s2 H2,(∀k,cL (k+1) X.A->cL k AG)->PIf (gF X AG own cap scope cs C code fp s2 H2) f2 tt2)
  (he:∀AG cs C code fp s2 H2,(∀k,cL (k+1) X.A->cL k AG)->PE (gF X AG own cap scope cs C code fp s2 H2) elt te) (hs:∀x,genFold i1 X.env x=pure x:=by intro _;rfl)
  (hs2:∀env x,foldedSetIterable i2 env x=pure x:=by intro _ _;rfl):
  uJ X (ge2 elt t1 i1 t2 i2 f1 f2 scope pos) (Rb own capI P wi1 g1 tt1 wi2 g2 tt2 te):=by
 intro pins s σ H R I h
 obtain⟨c,hcode,hhd⟩:=htb
 refine Gn hco (ir (B.cells I)) hnc h0 B.kind hr.depth hs ?_
 refine thn (hi1 pins s σ H _ I h) λv s1 h1=>thn h1 λitv s2 h2=>?_
 obtain⟨it,fp,tn,J,H2,e,I2,T,st2,f2',ps,hP,htr,hR⟩:=h2
 subst e
 refine⟨I2.nolimit,KH I2 hcode hhd hP htr λcode s4 H4 ps' hG I4 hgens hk4=>?_⟩
 obtain⟨bm,ob,b1,b2,b3,b4,b5,b6⟩:=I4.mod.bmain
 refine wpAny_builtinsFor (bm:=bm) (by rw[I4.ok.glob];exact I4.mod.glob.keeps I4.bk) b1 b2 (I4.bk _ _ b3) b4 b5 b6 ?_
 intro h5 hn5 hs5
 generalize hC:s4.heap.objs.size=C at hn5 hs5 ⊢
 have hCs:s4.heap.objs.size<=C:=Nat.le_of_eq hC
 obtain⟨R0,hR0,hR'⟩:=hR _ H4 ps' hG
 have k5:∀b o,s4.heap.get? b=some o->h5.get? b=some o:=λb o e=>hs5.extBut b o (Zk (Zc (Ze e) hCs)) (Zb _ e)
 have sz5:h5.objs.size=C+1:=by rw[hs5.1,Heap.size_push,hC]
 generalize ha:h5.objs.size=a
 have hCa:C<a:=by rw[<-ha,sz5];exact Nat.lt_succ_self _
 generalize hgi:s4.gens.size=gi
 generalize hgo:({ cls:=.type "generator",data:=.fields #[.int (gi:Int) 0,.str "<genexpr>" (s4.toks+1),.str (X.env.qual++"<genexpr>") (s4.toks+1+1)] }:Obj)=gob
 generalize hh6:h5.push gob=h6
 have k6:∀b o,h5.get? b=some o->h6.get? b=some o:=λb o e=>by rw[<-hh6];exact Zb _ e
 have k46:∀b o,s4.heap.get? b=some o->h6.get? b=some o:=λb o e=>k6 b o (k5 b o e)
 have oa6:h6.get? a=some gob:=by rw[<-hh6,<-ha];refine Zf _ ?_;rw[<-hgo];rfl
 have isg:∀{h:Heap},h.get? a=some gob->h.IsGen a gi:=λ{h} e=>⟨gob,.str "<genexpr>" (s4.toks+1),.str (X.env.qual++"<genexpr>") (s4.toks+1+1),e,by rw[<-hgo],by rw[<-hgo],by rw[<-hgo]⟩
 have hfr4:∀b∈fp,H4 b=none:=λb hb=>let⟨o,e,_⟩:=T.obj 0 _ st2 b hb;hG.none b (Ze e) (f2' b hb).1
 have f4:∀b∈fp,jk X pins H4 b:=λb hb=>⟨hfr4 b hb,(f2' b hb).2⟩
 have hbP:∀b∈fp,b≠P:=λb hb z=>by have n2:=(f2' b hb).1;rw[z,hP]at n2;cases n2
 have o4:∀b∈fp,∃o,s4.heap.get? b=some o:=λb hb=>let⟨o,e,_⟩:=T.obj 0 _ st2 b hb;⟨o,hk4 b o (hbP b hb) e⟩
 have st4:tn 0 s4.heap:=T.keep _ _ _ st2 λb hb o e=>hk4 b o (hbP b hb) e
 have hfa:∀b∈fp,b≠a/\b≠C:=λb hb=>let⟨o,e⟩:=o4 b hb
  have l:=Zc (Ze e) hCs
  ⟨Zk (Nat.lt_trans l hCa),Zk l⟩
 generalize hcenv:genEnv scope (cu X.env scope.names []) C code builtinsNs X.env=cenv
 have gk6:GK s4.gens (s4.gens.push (.fresh (wL elt t1 i1 t2 i2 f1 f2 scope pos 0 it cenv))):=by
  refine⟨AllBare.push I4.bare.bare rfl,λk x e=>?_⟩
  have hlt:k<s4.gens.size:=by
   rcases Nat.lt_or_ge k s4.gens.size with z|z
   .exact z
   .rw[Array.getElem?_eq_none z]at e;cases e
  rw[Array.getElem?_push_lt hlt,<-Array.getElem?_eq_getElem hlt];exact e
 refine⟨a,Aw J g1 g2 tt1 tt2 wi2 te (bz own σ capI) R0,H4,rfl,I4.grown k46 gk6,?_,hR'⟩
 intro A' hAh hAf hAd hAu
 have gi6:(s4.gens.push (.fresh (wL elt t1 i1 t2 i2 f1 f2 scope pos 0 it cenv)))[gi]? =some (.fresh (wL elt t1 i1 t2 i2 f1 f2 scope pos 0 it cenv)):=by rw[<-hgi];simp
 generalize hX':gF X (A'.in1.over (fZ elt t1 i1 t2 i2 f1 f2 scope pos 0 it cenv) []) own cap scope (cu X.env scope.names []) C code fp s4 H4=X'
 have eP:X'.prog=X.prog:=by rw[<-hX'];rfl
 have eW:X'.w=X.w:=by rw[<-hX'];rfl
 have eK:X'.K=X.K:=by rw[<-hX'];rfl
 have eFs:X'.fs=frs X.stack:=by rw[<-hX'];rfl
 have eEx:X'.ex=fp:=by rw[<-hX'];rfl
 have eS:X'.s₀={ s4 with gens:=s4.gens.push .running}:=by rw[<-hX'];rfl
 have eH:X'.H₀=H4:=by rw[<-hX'];rfl
 have eL:X'.env.locals=C:=by rw[<-hX'];rfl
 have eC:X'.calm=true:=by rw[<-hX'];rfl
 have eX:X'.xe=λ_ _=>False:=by rw[<-hX'];rfl
 have ePn:X'.pn=[]:=by rw[<-hX'];rfl
 have eE:X'.env=cenv:=by rw[<-hX',<-hcenv];rfl
 have eA:X'.A=A'.in1.over (fZ elt t1 i1 t2 i2 f1 f2 scope pos 0 it X'.env) []:=by rw[eE,<-hX'];rfl
 have eCo:X'.env.scope.isCoroutine=false:=by rw[<-hX'];exact hco
 have room:=yR (X:=X) (elt:=elt) (t1:=t1) (i1:=i1) (t2:=t2) (i2:=i2) (f1:=f1) (f2:=f2) (scope:=scope) (pos:=pos) (it:=it) (cenv:=cenv) hAh hAd hAu
 have hg1':PG X' t1 g1:=by rw[<-hX'];exact hg1 _ _ _ _ _ _ _
 have hg2':PG X' t2 g2:=by rw[<-hX'];exact hg2 _ _ _ _ _ _ _
 have ht1':PIf X' f1 tt1:=by rw[<-hX'];exact ht1 _ _ _ _ _ _ _ room
 have ht2':PIf X' f2 tt2:=by rw[<-hX'];exact ht2 _ _ _ _ _ _ _ room
 have hi2':PI X' t2 i2 wi2:=by rw[<-hX'];exact hi2 _ _ _ _ _ _ _ room
 have he':PE X' elt te:=by rw[<-hX'];exact he _ _ _ _ _ _ _ room
 have T':Turn X'.prog X'.w X'.K t1 J fp it tn:=by rw[eP,eW,eK];exact T
 have pfp:∀{Q:List (Addr×Obj)},(∀p∈Q,a<p.1)->∀p∈(a,gob)::Q,p.1∉fp:=λ{Q} hQ p hp hb=>by
  obtain⟨o,e⟩:=o4 _ hb
  have l:=Zc (Ze e) hCs
  rcases Zi.mp hp with z|z
  .subst z;exact absurd (Nat.lt_trans l hCa) (Nat.lt_irrefl _)
  .exact absurd (Nat.lt_trans (Nat.lt_trans l hCa) (hQ p z)) (Nat.lt_irrefl _)
 have afs:a∉X'.fs:=λhz=>by
  rw[eFs]at hz
  have l4:s4.heap.objs.size<=a:=Zl hCs (Nat.le_of_lt hCa)
  rcases Zi.mp (I4.stkSub a hz)with z|z
  .exact absurd I4.lt (by rw[<-z];exact Nat.not_lt.mpr l4)
  .exact I4.nofs l4 z
 have setg:∀(s:Shared)(x:GenState),(s.setGen gi x).gens=s.gens.setIfInBounds gi x:=λs x=>rfl
 have hSS:∀{Q:List (Addr×Obj)}{σ':St}{H:Hp}{s:Shared},(∀p∈Q,a<p.1)->Inv X' ((a,gob)::Q) σ' H s->s.heap.get? a=some gob/\s.gens[gi]? =some .running/\
   ∀(x:GenState)(h':Heap)(tk:Nat),x.bare=true->(∀b o,s.heap.get? b=some o->h'.get? b=some o)->Inv X (pins++Q) σ H { s.setGen gi x with heap:=h',toks:=tk}:=λ{Q σ' H s} hQ I'=>by
  have pa:=(I'.pin (a,gob) (by simp)).1
  have gr:s.gens[gi]? =some .running:=I'.bare.kept gi .running (by rw[eS,<-hgi];simp)
  refine⟨pa,gr,λx h' tk hx hk=>?_⟩
  have ub:=I'.base
  rw[eFs,eEx,eS,eH]at ub
  have hok:=I'.hok
  rw[eP,eW]at hok
  refine Inv.more ?_ λp hp=>by
   have q:=I'.pin p (by simp[hp])
   have l4:s4.heap.objs.size<=p.1:=Zl hCs (Nat.le_of_lt (Nat.lt_trans hCa (hQ p hp)))
   exact⟨hk _ _ q.1,q.2.1,λz=>absurd I4.lt (by rw[<-z];exact Nat.not_lt.mpr l4),I4.nofs l4,q.2.2.2.2⟩
  refine I4.call' (ch:=fp) (s':={ s.setGen gi x with heap:=h',toks:=tk}) (by have:=I'.os;rw[eS]at this;exact this)
   ⟨λb o e n hb hx'=>hk b o (ub.keep b o e n hb hx'),λb o e n hb hx'=>let⟨sl,q⟩:=ub.slot b o e n hb hx';⟨sl,hk b _ q⟩,ub.free,λb o e hx'=>let⟨o',q⟩:=ub.there b o e hx';⟨o',hk b o' q⟩,ub.tups,ub.frzs,ub.tbls⟩
   (hok.kept hk) ⟨λy hy=>?_,λk y e=>?_⟩ λb hb=>?_
  .have hy':y∈s.gens.setIfInBounds gi x:=hy
   rcases Array.mem_or_eq_of_mem_setIfInBounds hy' with z|z
   .exact I'.bare.bare y z
   .rw[z];exact hx
  .have hlt:k<gi:=by
    rw[<-hgi]
    rcases Nat.lt_or_ge k s4.gens.size with z|z
    .exact z
    .rw[Array.getElem?_eq_none z]at e;cases e
   have q:=I'.bare.kept k y (by rw[eS];show(s4.gens.push .running)[k]? =some y;rw[Array.getElem?_push_lt (by rw[hgi];exact hlt),<-Array.getElem?_eq_getElem (by rw[hgi];exact hlt)];exact e)
   show(s.gens.setIfInBounds gi x)[k]? =some y
   rw[Array.getElem?_setIfInBounds_ne (Nat.ne_of_gt hlt)]
   exact q
  .obtain⟨q0,q1,q2,q3,q4,q5⟩:=f4 b hb
   exact⟨q3,q1,q4,q5⟩
 have Ib0:Inv X' [] (bz own σ capI) H4 { s4 with heap:=h6,toks:=s4.toks+1+1+1,gens:=s4.gens.push .running}:=by
  rw[<-hX']
  refine I4.gen B hown hnc f4 o4 k46 hCs (hn5.at' λo e=>k6 _ o e) ?_ hAh
  rw[hcenv]
  exact vM hAf
 have hexl:∀b∈fp,b≠X'.env.locals/\b∉X'.fs/\(b∈X'.ex∨X'.s₀.heap.objs.size<=b)/\(∀x c,X'.env.cells.lookup x=some c->c≠b):=λb hb=>
  ⟨(Ib0.ok.exf b (by rw[eEx];exact hb)).1,Ib0.ok.exfs b (by rw[eEx];exact hb),.inl (by rw[eEx];exact hb),(Ib0.ok.exf b (by rw[eEx];exact hb)).2⟩
 have fsp:∀{F:Frame}{c:Code}{v g l k c' p},yP F c->(End.susp v g l k c' p [F]).quiet= !g:=λ{F c v g l k c' p} hF=>by
  obtain⟨k,l,p,kp,rfl,_⟩:=hF
  simp[End.quiet,Frame.guarded]
 have back:∀{s:Shared}{x:GenState},s.gens[gi]? =some .running->(s.setGen gi x).setGen gi .running=s:=λ{s x} gr'=>by
  have hl:gi<s.gens.size:=by
   rcases Nat.lt_or_ge gi s.gens.size with z|z
   .exact z
   .rw[Array.getElem?_eq_none z]at gr';cases gr'
  obtain⟨hh,gg,dd,tt,oo⟩:=s
  show(Shared.mk hh ((gg.setIfInBounds gi _).setIfInBounds gi .running) dd tt oo)=_
  congr 1
  apply Array.ext_getElem?
  intro j
  by_cases hj:gi=j
  .subst hj
   have gr'':gg[gi]? =some .running:=gr'
   have hl':gi<gg.size:=hl
   rw[gr'']
   simp[hl']
  .simp[hj]
 have l4:∀b,b<s4.heap.objs.size->∀D,a<D->b≠D:=λb hb D hD=>Zk (Zc hb (Zl hCs (Nat.le_of_lt (Nat.lt_trans hCa hD))))
 have putX:∀{PP:List (Addr×Obj)}{H:Hp}{s:Shared}{h':Heap}{tk:Nat}{D:Addr}{o o':Obj},a<D->(∀p∈PP,p.1≠D)->Inv X (pins++(D,o)::PP) σ H s->(∀b u,b≠D->s.heap.get? b=some u->h'.get? b=some u)->h'.get? D=some o'->(∀v,o'.data≠ .cell v)->Inv X (pins++(D,o')::PP) σ H { s with heap:=h',toks:=tk}:=λ{PP H s h' tk D o o'} hDa hPD I1 hk ho hc'=>by
  refine I1.put (.inr (Zl I4.sz (Zl hCs (Nat.le_of_lt (Nat.lt_trans hCa hDa))))) (λx c e=>let⟨v,q⟩:=I4.cell x c e;l4 c q.lt D hDa) (λp hp=>?_) hk ho hc'
  rcases Zm.mp hp with z|z
  .exact l4 _ (Ze (I4.pin p (List.mem_append_left _ z)).1) D hDa
  .rcases Zm.mp z with z|z
   .exact l4 _ (Ze (I4.pin p (Zn _ z)).1) D hDa
   .exact hPD p z
 have putB:∀{PP:List (Addr×Obj)}{σ':St}{H:Hp}{s:Shared}{h':Heap}{tk:Nat}{D:Addr}{o o':Obj},a<D->(∀p∈PP,p.1≠D)->Inv X' ((a,gob)::(D,o)::PP) σ' H s->(∀b u,b≠D->s.heap.get? b=some u->h'.get? b=some u)->h'.get? D=some o'->(∀v,o'.data≠ .cell v)->Inv X' ((a,gob)::(D,o')::PP) σ' H { s with heap:=h',toks:=tk}:=λ{PP σ' H s h' tk D o o'} hDa hPD Ib hk ho hc'=>by
  refine Inv.put (L:=[(a,gob)]) Ib (.inr (by rw[eS];exact Zl hCs (Nat.le_of_lt (Nat.lt_trans hCa hDa)))) (λx c e=>?_) (λp hp=>?_) hk ho hc'
  .have e':(cu X.env scope.names []).lookup x=some c:=by rw[<-hX']at e;exact e
   obtain⟨v,q⟩:=I4.cell x c ((jL (Zt e')).elim (λz=>by simp at z) id)
   exact l4 c q.lt D hDa
  .rw[ePn,List.nil_append]at hp
   rcases Zi.mp hp with z|z
   .subst z;exact Zk hDa
   .exact hPD p z
 refine⟨a+1,λQ n H s=>(∀p∈Q,a<p.1)/\Inv X (pins++Q) σ H s/\∃st:S2,R0 n st H/\((st=none/\n=0/\s.gens[gi]? =some (.fresh (wL elt t1 i1 t2 i2 f1 f2 scope pos 0 it X'.env))/\Inv X' ((a,gob)::Q) (bz own σ capI) H (s.setGen gi .running)/\tn 0 s.heap/\∀b∈fp,H b=none)∨
   (∃i σ1 J2 j k l p it2 F,st=some (i,σ1,J2,j)/\n≠0/\s.gens[gi]? =some (.suspended k l (fZ elt t1 i1 t2 i2 f1 f2 scope pos 1 it2 X'.env) p [F] false)/\k (.send .none)= .pure (.again (fZ elt t1 i1 t2 i2 f1 f2 scope pos 1 it2 X'.env))/\
    yP F (fZ elt t1 i1 t2 i2 f1 f2 scope pos 0 it X'.env)/\Ck X' t2 ((a,gob)::Q) fp tn (bz own σ capI) i σ1 J2 j it2 H (s.setGen gi .running))),
  ⟨λst=>st.2.1,?_,?_,?_,?_,?_⟩,?_,Nat.lt_succ_self _,?_,λQ n H s st=>⟨gi,isg ?_⟩⟩
 .
  rintro PP n H s Q E ⟨hQ,I1,st,hR1,q⟩ hn
  obtain⟨O,N,R,hat⟩:=hn st hR1
  have run:=Bj (A1:=A'.in1) (elt:=elt) (f1:=f1) (f2:=f2) (scope:=scope) (pos:=pos) (P:=(a,gob)::PP) T' eA eC ePn eCo eX hg1' ht1' hi2' hg2' ht2' he' (hs2 _) hexl (pfp hQ) R
  rw[eP,eW]at run
  have done:∀gs,s.gens[gi]? =some gs->s.heap.get? a=some gob->Bs (model X.prog X.w) A'.in1 gs (s.setGen gi .running) (Bm X' elt t1 i1 t2 i2 f1 f2 scope pos it ((a,gob)::PP) fp tn (bz own σ capI) (λy i σ1 J2 j H'=>Q y H'/\R0 (n+1) (some (i,σ1,J2,j)) H') (λ_=>False))->
    wpAny (model X.prog X.w) A' (pyNext (.ref a)) (λr s1=>∃u y H',r=some u/\RelV y u/\Q y H'/\((∀p∈PP,a<p.1)/\Inv X (pins++PP) σ H' s1/\∃st:S2,R0 (n+1) st H'/\((st=none/\n+1=0/\s1.gens[gi]? =some (.fresh (wL elt t1 i1 t2 i2 f1 f2 scope pos 0 it X'.env))/\Inv X' ((a,gob)::PP) (bz own σ capI) H' (s1.setGen gi .running)/\tn 0 s1.heap/\∀b∈fp,H' b=none)∨
     (∃i σ1 J2 j k l p it2 F,st=some (i,σ1,J2,j)/\n+1≠0/\s1.gens[gi]? =some (.suspended k l (fZ elt t1 i1 t2 i2 f1 f2 scope pos 1 it2 X'.env) p [F] false)/\k (.send .none)= .pure (.again (fZ elt t1 i1 t2 i2 f1 f2 scope pos 1 it2 X'.env))/\
      yP F (fZ elt t1 i1 t2 i2 f1 f2 scope pos 0 it X'.env)/\Ck X' t2 ((a,gob)::PP) fp tn (bz own σ capI) i σ1 J2 j it2 H' (s1.setGen gi .running))))) E s:=λgs hgs oa goes=>by
   refine jC hAh I1.nolimit (by have:=hr.dp;omega) (isg oa) hgs goes ?_ ?_
   .rintro e s' (⟨v,k,p,y,i,σ1,J2,j,it2,F,H',rfl,_,hF,_⟩|⟨rfl,_⟩)
    .rw[fsp hF];rfl
    .rfl
   .rintro e s' (⟨v,k,p,y,i,σ1,J2,j,it2,F,H',rfl,ek,hF,ry,qy,hin⟩|⟨rfl,H',_,z⟩)
    .left
     obtain⟨fp2,tn2,T2,Ib',ft',stt',fr',st2',f2'',hno'⟩:=hin
     obtain⟨oa',gr',mk⟩:=hSS hQ Ib'
     have eg:(End.susp v false [] k (fZ elt t1 i1 t2 i2 f1 f2 scope pos 1 it2 X'.env) p [F]).genState= .suspended k [] (fZ elt t1 i1 t2 i2 f1 f2 scope pos 1 it2 X'.env) p [F] false:=by
      obtain⟨k,l,p,kp,rfl,_⟩:=hF
      rfl
     rw[eg]
     refine⟨v,false,[],k,_,p,[F],rfl,v,y,H',rfl,ry,qy.1,hQ,mk _ s'.heap s'.toks rfl λb o e=>e,some (i,σ1,J2,j),qy.2,.inr ⟨i,σ1,J2,j,k,[],p,it2,F,rfl,Nat.succ_ne_zero _,setGen_self gr',ek,hF,?_⟩⟩
     rw[back gr']
     exact⟨fp2,tn2,T2,Ib',ft',stt',fr',st2',f2'',hno'⟩
    .exact z.elim
  rcases q with⟨rfl,rfl,hgs,Ib,st0,fr⟩|⟨i,σ1,J2,j,k,l,p,it2,F,rfl,hn0,hgs,ek,hF,hin⟩
  .obtain⟨m,hO⟩:=hat
   exact done _ hgs (hSS hQ Ib).1 (rR (i:=0) T st0 ((run m).1 0 H _ hO Ib st0 fr))
  .obtain⟨m,hN⟩:=hat
   refine done _ hgs (hSS hQ hin.choose_spec.choose_spec.2.1).1 ?_
   show aM _ _ _ (k (.send .none)) [F] _ _
   rw[ek]
   exact aM.again rfl ((run m).2 i σ1 J2 j it2 F H _ hN hin hF)
 .
  rintro PP n H s Q E ⟨hQ,I1,st,hR1,q⟩ hn
  obtain⟨O,N,R,hat⟩:=hn st hR1
  have run:=Bj (A1:=A'.in1) (elt:=elt) (f1:=f1) (f2:=f2) (scope:=scope) (pos:=pos) (P:=(a,gob)::PP) T' eA eC ePn eCo eX hg1' ht1' hi2' hg2' ht2' he' (hs2 _) hexl (pfp hQ) R
  rw[eP,eW]at run
  have done:∀gs,s.gens[gi]? =some gs->s.heap.get? a=some gob->Bs (model X.prog X.w) A'.in1 gs (s.setGen gi .running) (Bm X' elt t1 i1 t2 i2 f1 f2 scope pos it ((a,gob)::PP) fp tn (bz own σ capI) (λ_ _ _ _ _ _=>False) Q)->
    wpAny (model X.prog X.w) A' (pyNext (.ref a)) (λr s1=>r=none/\∃H',Q H'/\Inv X (pins++PP) σ H' s1) E s:=λgs hgs oa goes=>by
   refine jC hAh I1.nolimit (by have:=hr.dp;omega) (isg oa) hgs goes ?_ ?_
   .rintro e s' (⟨v,k,p,y,i,σ1,J2,j,it2,F,H',rfl,_,hF,_⟩|⟨rfl,_⟩)
    .rw[fsp hF];rfl
    .rfl
   .rintro e s' (⟨v,k,p,y,i,σ1,J2,j,it2,F,H',rfl,ek,hF,ry,qy,hin⟩|⟨rfl,H',I',z⟩)
    .exact qy.elim
    .right
     obtain⟨oa',gr',mk⟩:=hSS hQ I'
     exact⟨rfl,λh' hk=>⟨rfl,H',z,mk .finished h' s'.toks rfl hk⟩⟩
  rcases q with⟨rfl,rfl,hgs,Ib,st0,fr⟩|⟨i,σ1,J2,j,k,l,p,it2,F,rfl,hn0,hgs,ek,hF,hin⟩
  .obtain⟨m,hO⟩:=hat
   exact done _ hgs (hSS hQ Ib).1 (rR (i:=0) T st0 ((run m).1 0 H _ hO Ib st0 fr))
  .obtain⟨m,hN⟩:=hat
   refine done _ hgs (hSS hQ hin.choose_spec.choose_spec.2.1).1 ?_
   show aM _ _ _ (k (.send .none)) [F] _ _
   rw[ek]
   exact aM.again rfl ((run m).2 i σ1 J2 j it2 F H _ hN hin hF)
 .
  rintro PP n H s h' tk ⟨hQ,I1,st,hR1,q⟩ hk
  refine⟨hQ,I1.kept hk,st,hR1,?_⟩
  rcases q with⟨rfl,rfl,hgs,Ib,st0,fr⟩|⟨i,σ1,J2,j,k,l,p,it2,F,rfl,hn0,hgs,ek,hF,fp2,tn2,T2,Ib,ft,st1,fr,st2',f2'',hno⟩
  .exact .inl ⟨rfl,rfl,hgs,Ib.kept (s:=s.setGen gi .running) hk,T.keep _ _ _ st0 λb _ o e=>hk b o e,fr⟩
  .exact .inr ⟨i,σ1,J2,j,k,l,p,it2,F,rfl,hn0,hgs,ek,hF,fp2,tn2,T2,Ib.kept (s:=s.setGen gi .running) hk,ft,T.keep _ _ _ st1 λb _ o e=>hk b o e,fr,T2.keep _ _ _ st2' λb _ o e=>hk b o e,f2'',hno⟩
 .
  rintro PP H s D o ⟨hQ,I1,st,hR1,q⟩ hD ho hn hcell
  have hDa:a<D:=hD
  have hD4:s4.heap.objs.size<=D:=Nat.le_of_lt (Nat.lt_of_le_of_lt hCs (Nat.lt_trans hCa hDa))
  rcases q with⟨rfl,_,hgs,Ib,st0,fr⟩|⟨i,σ1,J2,j,k,l,p,it2,F,rfl,hn0,_⟩
  .refine⟨λp hp=>?_,?_,none,hR1,.inl ⟨rfl,rfl,hgs,?_,st0,fr⟩⟩
   .rcases Zi.mp hp with z|z
    .subst z;exact hDa
    .exact hQ p z
   .refine I1.pins_of λp hp=>?_
    rcases Zm.mp hp with z|z
    .exact I1.pin p (by simp[z])
    .rcases Zi.mp z with z|z
     .subst z
      exact⟨ho,hn,λz=>absurd I4.lt (by rw[<-z];exact Nat.not_lt.mpr hD4),I4.nofs hD4,hcell⟩
     .exact I1.pin p (by simp[z])
   .refine Ib.pins_of λp hp=>?_
    rcases Zi.mp hp with z|z
    .exact Ib.pin p (by simp[z])
    .rcases Zi.mp z with z|z
     .subst z
      refine⟨ho,hn,by rw[eL];exact Nat.ne_of_gt (Nat.lt_trans hCa hDa),λhz=>?_,hcell⟩
      rw[eFs]at hz
      rcases Zi.mp (I4.stkSub D hz)with z|z
      .exact absurd I4.lt (by rw[<-z];exact Nat.not_lt.mpr hD4)
      .exact I4.nofs hD4 z
     .exact Ib.pin p (by simp[z])
  .exact absurd rfl hn0
 .
  rintro PP n H s h' tk D o o' ⟨hQ,I1,st,hR1,q⟩ hPD hk ho hc'
  have hDa:a<D:=hQ (D,o) List.mem_cons_self
  have hfpD:∀b∈fp,b≠D:=λb hb=>let⟨o',e'⟩:=o4 b hb;l4 b (Ze e') D hDa
  refine⟨λp hp=>?_,putX hDa hPD I1 hk ho hc',st,hR1,?_⟩
  .rcases Zi.mp hp with z|z
   .subst z;exact hDa
   .exact hQ p (List.mem_cons_of_mem _ z)
  .rcases q with⟨rfl,rfl,hgs,Ib,st0,fr⟩|⟨i,σ1,J2,j,k,l,p,it2,F,rfl,hn0,hgs,ek,hF,fp2,tn2,T2,Ib,ft,st1,fr,st2',f2'',hno⟩
   .exact .inl ⟨rfl,rfl,hgs,putB (s:=s.setGen gi .running) hDa hPD Ib hk ho hc',T.keep _ _ _ st0 λb hb o e=>hk b o (hfpD b hb) e,fr⟩
   .refine .inr ⟨i,σ1,J2,j,k,l,p,it2,F,rfl,hn0,hgs,ek,hF,fp2,tn2,T2,putB (s:=s.setGen gi .running) hDa hPD Ib hk ho hc',ft,T.keep _ _ _ st1 λb hb o e=>hk b o (hfpD b hb) e,fr,T2.keep _ _ _ st2' λb hb u e=>hk b u (λz=>?_) e,λb hb=>?_,hno⟩
    .exact(f2'' b hb).2.2.2.2.2 (D,o) (by simp) z.symm
    .obtain⟨q0,q1,q2,q3,q4,q5⟩:=f2'' b hb
     refine⟨q0,q1,q2,q3,q4,λp hp=>?_⟩
     rcases Zm.mp hp with z|z
     .exact q5 p (List.mem_append_left _ z)
     .rcases Zi.mp z with z|z
      .exact q5 p (by simp[z])
      .rcases Zi.mp z with z|z
       .subst z;exact q5 (D,o) (by simp)
       .exact q5 p (by simp[z])
 .
  refine⟨λp hp=>absurd hp (by simp),by rw[List.append_nil];exact(I4.grown k46 gk6:Inv X pins σ H4 _),none,hR0,.inl ⟨rfl,rfl,by rw[eE];exact gi6,?_,T.keep _ _ _ st4 λb _ o e=>k46 b o e,hfr4⟩⟩
  have e1:(Shared.setGen { s4 with gens:=s4.gens.push (.fresh (wL elt t1 i1 t2 i2 f1 f2 scope pos 0 it cenv)),toks:=s4.toks+1+1+1,heap:=h6} gi .running)={ s4 with heap:=h6,toks:=s4.toks+1+1+1,gens:=s4.gens.push .running}:=by
   show Shared.mk _ ((s4.gens.push _).setIfInBounds gi .running) _ _ _=_
   congr 1
   rw[<-hgi]
   apply Array.ext_getElem?
   intro j
   by_cases hj:s4.gens.size=j
   .subst hj;simp
   .simp[hj,Array.getElem?_push,Ne.symm hj]
  rw[e1]
  exact Ib0.pins_of λp hp=>by
   obtain rfl:p=(a,gob):=by simpa using hp
   refine⟨oa6,?_,by rw[eL];exact Nat.ne_of_gt hCa,afs,λv z=>?_⟩
   .exact I4.hok.fresh (Zl hCs (Nat.le_of_lt hCa))
   .rw[<-hgo]at z;cases z
 .show a+1<=h6.objs.size
  rw[<-hh6,Heap.size_push,ha]
  exact Zg _
 .obtain⟨hQ,I1,st',hR1,q⟩:=st
  rcases q with⟨_,_,_,Ib,_⟩|⟨i,σ1,J2,j,k,l,p,it2,F,_,_,_,_,_,fp2,tn2,_,Ib,_⟩
  .exact(hSS hQ Ib).1
  .exact(hSS hQ Ib).1
end
section
variable {X:Cx} {tg iter elt:Expr} {ifs:List Expr} {wi:TI} {g:TG} {tt:TT} {te:TE} {own cap:List Str} {capI:List Nat} {scope:Scope} {pos:Pos}
theorem QF{i₀:Nat}{x₀:Str}{px₀ spos:Pos}(hN:X.N.Nodup)(hi₀:X.N[i₀]? =some x₀)(hx₀:Loc X.env.scope x₀)(hc:X.calm=true)(B:eY X own cap capI scope)(hown:∀x∈own,(x,NameKind.free)∉scope.names)(hi:PI X tg iter wi)
  (hg:∀cs C fp s2 H2,PG (dF X own cap scope cs C fp s2 H2) tg g) (ht:∀cs C fp s2 H2,PIf (dF X own cap scope cs C fp s2 H2) ifs tt) (he:∀cs C fp s2 H2,PE (dF X own cap scope cs C fp s2 H2) elt te)
  (hs:∀x,foldedSetIterable iter X.env x=pure x:=by intro _;rfl) (hsw:swapsWith (.ListComp elt [⟨tg,iter,ifs,0⟩] scope pos) (some (.Name x₀ px₀)) spos.line X.env=pure true:=by rfl)
  (hf₀:X.fn x₀=true∨X.env.scope.names.lookup x₀=some .local:=by first|exact .inl rfl|exact .inr rfl|assumption):
  PS X (.Assign [.Name x₀ px₀] (.ListComp elt [⟨tg,iter,ifs,0⟩] scope pos) spos) (Mj (tLC own capI wi g tt te) (Dy i₀)):=by
 intro pins s σ H D I h
 rw[exec_Assign_Name_used _ _ _ _ hsw]
 refine wpAny_bind (wpAny_standAt (wpAny_bind ?_))
 show wpAny _ X.A (do let _<-comprehension (.ListComp elt [⟨tg,iter,ifs,0⟩] scope pos) scope X.env _ (newList []) false (eval iter X.env) (some (assign (.Name x₀ px₀) X.env))) _ _ s
 refine wpAny_bind (wpAny_mono (wpAny_comprehension_free (use:=some (assign (.Name x₀ px₀) X.env)) (Q:=λ_ s'=>SP X pins D .next s') (cl:=cu X.env scope.names []) rfl hs (ir (B.cells I)) B.kind (λy hy e=>dG B.nd (by rw[<-e];exact hy)) ?_) (λ_ s' hq=>wpAny_pure (wpAny_pure hq)) λ_ _ e=>e)
 refine thn (hi pins s σ H _ I h) λv s1 h1=>thn h1 λitv s2 h2=>?_
 obtain⟨it,fp,tn,J,H2,e,I2,T,st2,f2,W,⟨m0,w0⟩,turn⟩:=h2
 subst e
 refine wpAny_newObj_type (ni ?_)
 dsimp only
 generalize hl:s2.heap.objs.size=l
 generalize hh0:s2.heap.push { cls:=.type "list",dict:=none,data:=.seq ([]:List Value).toArray}=h0
 have hsz0:h0.objs.size=l+1:=by rw[<-hh0,Heap.size_push,hl]
 generalize hC:h0.objs.size=C
 generalize hh1:pushCells (h0.push { cls:=.type (if(some X.env).isSome=true then "dict" else "frame"),data:=.dict #[] }) scope.names=h1
 have hl0:h0.get? l=some (bO [] 0):=by rw[<-hh0,<-hl];exact Zf _ rfl
 have hk0:∀b o,s2.heap.get? b=some o->h0.get? b=some o:=λb o e=>by rw[<-hh0];exact Zb _ e
 have hlC:l≠C:=by rw[<-hC,hsz0];exact Zk (Nat.lt_succ_self _)
 have hls:s2.heap.objs.size<=l:=Nat.le_of_eq hl
 have hCs:s2.heap.objs.size<=C:=by rw[<-hC,hsz0,hl];exact Nat.le_succ _
 have ho2:∀b∈fp,∃o,s2.heap.get? b=some o:=λb hb=>let⟨o,e,_⟩:=T.obj 0 _ st2 b hb;⟨o,e⟩
 have hfl:∀b∈fp,b≠l/\b≠C:=λb hb=>let⟨o,e⟩:=ho2 b hb;⟨Zk (Zc (Ze e) hls),Zk (Zc (Ze e) hCs)⟩
 have hl1:h1.get? l=some (bO [] 0):=by rw[<-hh1];exact pushCells_keeps _ _ _ _ (Zb _ hl0)
 have keep1:∀b o,s2.heap.get? b=some o->h1.get? b=some o:=λb o e=>by rw[<-hh1];exact pushCells_keeps _ _ _ _ (Zb _ (hk0 b o e))
 generalize hcs:cellsFrom (C+1) scope.names (cu X.env scope.names [])=cs
 have I0:Inv (dF X own cap scope cs C fp s2 H2) [] (bz own σ capI) H2 { s2 with heap:=h1}:=by
  have q:=I2.comp (tk:=s2.toks) B hown f2 ho2 hk0 (by rw[hsz0,hl];exact Nat.le_succ _) hC.symm hh1.symm
  rw[hcs]at q
  exact q
 have henv:(newEnv scope C X.env.globals cs X.env.qual none .none (some X.env) builtinsNs)={ compEnvC scope cs C X.env with scope:=scope}:=rfl
 have henv2:({ newEnv scope C X.env.globals cs X.env.qual none .none (some X.env) builtinsNs with scope:=relabel scope X.env}:Env)=(dF X own cap scope cs C fp s2 H2).env:=rfl
 generalize hX':dF X own cap scope cs C fp s2 H2=X' at I0 henv2
 have eP:X'.prog=X.prog:=by rw[<-hX'];rfl
 have eW:X'.w=X.w:=by rw[<-hX'];rfl
 have eK:X'.K=X.K:=by rw[<-hX'];rfl
 have eA:X'.A=X.A:=by rw[<-hX'];rfl
 have eFs:X'.fs=frs X.stack:=by rw[<-hX'];rfl
 have eEx:X'.ex=fp:=by rw[<-hX'];rfl
 have eS:X'.s₀=s2:=by rw[<-hX'];rfl
 have eH:X'.H₀=H2:=by rw[<-hX'];rfl
 have eL:X'.env.locals=C:=by rw[<-hX'];rfl
 have eC:X'.calm=true:=by rw[<-hX'];exact hc
 have eX:X'.xe=λ_ _=>False:=by rw[<-hX'];rfl
 have ePn:X'.pn=[]:=by rw[<-hX'];rfl
 have hg':PG X' tg g:=by rw[<-hX'];exact hg cs C fp s2 H2
 have ht':PIf X' ifs tt:=by rw[<-hX'];exact ht cs C fp s2 H2
 have he':PE X' elt te:=by rw[<-hX'];exact he cs C fp s2 H2
 have stat:∀{H':Hp}{P:List (Addr×Obj)},X'.Ok->(∀b∈fp,H' b=none)->(∀p∈P,p.1=l)->∀b∈fp,jk X' P H' b:=λ{H' P} ok hn hP b hb=>by
  refine⟨hn b hb,?_,?_,.inl (by rw[eEx];exact hb),?_,λp hp=>?_⟩
  .exact(ok.exf b (by rw[eEx];exact hb)).1
  .exact ok.exfs b (by rw[eEx];exact hb)
  .exact(ok.exf b (by rw[eEx];exact hb)).2
  .rw[ePn,List.nil_append]at hp
   rw[hP p hp]
   exact Ne.symm (hfl b hb).1
 have lfs:X'.Ok->l∉X'.fs:=λok hz=>by
  rw[eFs]at hz
  exact(Inv.nofs (X:=X) I2 hls) ((Zi.mp (I2.stkSub l hz)).elim (λz=>absurd I2.lt (by rw[<-z,hl];exact Nat.lt_irrefl _)) id)
 have pinL:∀{σ':St}{H':Hp}{s':Shared}{us:List Value}{k:Nat},Inv X' [] σ' H' s'->s'.heap.get? l=some (bO us k)->H' l=none->Inv X' [(l,bO us k)] σ' H' s':=λ{σ' H' s' us k} I' e n=>
  I'.pins_of λp hp=>by
   obtain rfl:p=(l,bO us k):=by simpa using hp
   exact⟨e,n,by rw[eL];exact hlC,lfs I'.ok,λv z=>by cases z⟩
 have loop:∀s3:Shared,s3={ s2 with heap:=h1}->codeAny (model X.prog X.w) X.A (.compLoop (.ListComp elt [⟨tg,iter,ifs,0⟩] scope pos) 0 (.ref it) (.ref l) X'.env) (compPost (model X.prog X.w) X.A X.xe (some (assign (.Name x₀ px₀) X.env)) (λ_ s'=>SP X pins D .next s') (.ref l) C) s3:=by
  rintro s3 rfl
  refine uP (E':=λ_ _=>False) (λn s'=>∃i ys us k H',Inv X' [] (bz own σ capI) H' s'/\tn i s'.heap/\(∀b∈fp,H' b=none)/\W i n ys H'/\Vals ys us/\s'.heap.get? l=some (bO us k)/\H' l=none/\ys.length<=sizeLine) (λ_ _ z=>z.elim) ?_ m0
   ⟨0,[],[],0,H2,I0,T.keep _ _ _ st2 λb _ o e=>keep1 b o e,λb hb=>(f2 b hb).1,w0,.nil,hl1,I2.hok.fresh hls,Nat.zero_le _⟩
  rintro n s3 ⟨i,ys,us,k,H3,I3,st3,fr3,w3,v3,o3,n3,z3⟩
  have I3p:=pinL I3 o3 n3
  have P1:∀p∈[(l,bO us k)],p.1=l:=λp hp=>by
   obtain rfl:p=(l,bO us k):=by simpa using hp
   rfl
  rcases turn i n ys H3 w3 with⟨stop,qn⟩|⟨go,hlt,step⟩
  .have q:=T.done X' eP eW eK eC i _ s3 _ H3 (λ_ _=>False) I3p (stat I3.ok fr3 P1) st3 stop
   rw[eA]at q
   refine wpAny_mono q (λr s4 ⟨hr,I4⟩=>?_) λ_ _ z=>z
   subst hr
   have pl:=I4.pin (l,bO us k) (by simp)
   obtain⟨m4,hn4,_⟩:=I4.loc
   rw[eL]at hn4
   have fC:H3 C=none:=by have:=I4.free;rw[eL]at this;exact this
   have IE:Inv X pins σ (upd H3 l (.lst ys)) s4:=by
    have:=I2.compEnd f2 eP eW eFs eEx eS eH eL I4 hls hlC hCs pl.1 n3 v3 z3 (Heap.SameBut.refl C s4.heap)
    exact this
   show wpAny _ X.A (assign (.Name x₀ px₀) X.env (.ref l)) _ _ s4
   refine wpAny_assign_Name (tZ IE hN hi₀ hx₀ (v:=.ref l) rfl (λs5 I5 ⟨a,sa,ha⟩=>?_) hf₀)
   have hnL:C≠X.env.locals:=Nat.ne_of_gt (Zc I2.lt hCs)
   have hnc:∀y c,X.env.cells.lookup y=some c->c≠C:=λy c e=>by
    obtain⟨v,q⟩:=I2.cell y c e
    exact Zk (Zc q.lt hCs)
   have haC:C≠a:=by
    rcases ha with q|q
    .rw[q];exact hnL
    .exact Ne.symm (hnc _ _ q)
   obtain⟨o4,es4,ep4,ho4,r4⟩:=hn4
   refine⟨m4,⟨o4,es4,ep4,(sa.2 C haC).trans ho4,r4⟩,λh' sb=>⟨_,_,?_,qn l n3⟩⟩
   refine I5.turned (t':=s5.toks) (it:=C) (λb o hb e=>(sb.2 b hb).trans e) (by rw[aO (Ne.symm hlC)];exact fC) hnL (.inr (Zl I2.sz hCs)) hnc λp hp=>?_
   exact Zk (Zc (Ze (I2.pin p hp).1) hCs)
  .have q:=T.item X' eP eW eK eC i _ s3 _ H3 (λ_ _=>False) I3p (stat I3.ok fr3 P1) st3 go
   rw[eA]at q
   refine wpAny_mono q (λr s4 ⟨u,hr,h4⟩=>?_) λ_ _ z=>z
   subst hr
   refine wpAny_mono h4 (λ_ s5 ⟨x,H5,I5,r5,y5,st5,fr5⟩=>?_) λ_ _ z=>z
   have I5':=I5.pinned (stat I5.ok fr5 P1) (T.obj _ _ st5)
   have a1:=hg' _ s5 _ H5 x u _ I5' r5 (step x H5 y5)
   rw[eP,eW,eA,eX]at a1
   refine wpAny_mono a1 (λ_ s6 ⟨σ6,H6,I6,ft6,q6⟩=>?_) λ_ _ z=>z
   have a2:=ht' _ s6 σ6 H6 _ I6 q6
   rw[eP,eW,eA,eX]at a2
   refine wpAny_mono a2 (λok s7 ⟨H7,I7,q7⟩=>?_) λ_ _ z=>z
   have back:∀{H8:Hp}{s8:Shared},Inv X' ([(l,bO us k)]++jm fp s5.heap) σ6 H8 s8->Inv X' [] (bz own σ capI) H8 s8/\tn (i+1) s8.heap/\(∀b∈fp,H8 b=none)/\s8.heap.get? l=some (bO us k)/\H8 l=none:=λ{H8 s8} I8=>by
    have pl:=I8.pin (l,bO us k) (by simp)
    refine⟨(I8.weak ft6.1.symm ft6.2).pins_of λp hp=>absurd hp (by simp),T.keep _ _ _ st5 λb hb o e=>?_,λb hb=>?_,pl.1,pl.2.1⟩
    .exact(I8.pin (b,o) (Zn _ (Zn _ (bN hb e)))).1
    .obtain⟨o,e,d⟩:=T.obj _ _ st5 b hb
     exact(I8.pin (b,o) (Zn _ (Zn _ (bN hb e)))).2.1
   cases ok with
   |false=>
    rw[if_neg Zr]
    rw[if_neg Zr]at q7
    obtain⟨m',hm,w7⟩:=q7
    obtain⟨I8,st8,fr8,o8,n8⟩:=back I7
    exact⟨m',hm,i+1,ys,us,k,H7,I8,st8,fr8,w7,v3,o8,n8,z3⟩
   |true=>
    rw[if_pos rfl]
    rw[if_pos rfl]at q7
    have a3:=he' _ s7 σ6 H7 _ I7 q7
    rw[eP,eW,eA,eX]at a3
    refine wpAny_mono a3 (λyv s8 ⟨y,H8,I8',r8,m',hm,w8⟩=>?_) λ_ _ z=>z
    obtain⟨I8,st8,fr8,o8,n8⟩:=back I8'
    refine append_at (hsz:=by show us.toArray.size<=sizeLine;rw[Zd,<-v3.length];exact z3) o8 λh9 sb9 o9=>?_
    have I9:Inv X' [] (bz own σ capI) H8 { s8 with heap:=h9}:=I8.turned (t':=s8.toks) (λb o hb e=>(sb9.2 b hb).trans e) n8 (by rw[eL];exact hlC) (.inr (by rw[eS];exact hls)) (λx c e=>by
     rintro rfl
     obtain⟨v',ho',hd',hd''⟩:=I8.cell x c e
     rw[o8]at hd'
     cases hd'
     cases hd'') (λp hp=>by rw[ePn]at hp;exact absurd hp (by simp))
    refine⟨m',hm,i+1,ys++[y],us++[yv],k+1,H8,I9,T.keep _ _ _ st8 λb hb o e=>(sb9.2 b (hfl b hb).1).trans e,fr8,w8,v3.append (.cons r8 .nil),?_,n8,?_⟩
    .rw[o9]
     simp[bO]
    .rw[List.length_append]
     exact hlt
 have T0:=T.keep 0 s2.heap h1 st2 λb _ o e=>keep1 b o e
 rw[henv2]
 exact codeAny_compStart_list (loop _ rfl) (T.self X.A 0 _ _ _ T0 (loop _ rfl))
end
end L2
namespace L3
open PySem PySem.Spec PyProof.Rows L2
inductive D where
 |non|bl (b:Bool)|int (i:Int)|str (x:Str)|tup (ds:List D)|lst (ds:List D)|ro (ds:List D)|dic (kvs:List (Key×D))|cell (n:Nat)
abbrev Mu:=List (Option (List D))
abbrev En:=List (Option D)
mutual
def bf(K:PySem.W.Frag)(F:Hp)(ad:List Addr):D->V->Prop
 | .non,v=>v= .non
 | .bl b,v=>v= .bl b
 | .int i,v=>v= .int i
 | .str x,v=>v= .str x
 | .tup ds,v=>∃a xs,v= .ref a/\SqT K F a xs/\az K F ad ds xs
 | .lst ds,v=>∃a xs,v= .ref a/\F a=some (.lst xs)/\az K F ad ds xs
 | .ro ds,v=>∃a xs,v= .ref a/\SqL K F a xs/\az K F ad ds xs
 | .dic kvs,v=>∃a ps,v= .ref a/\F a=some (.dK ps)/\iC K F ad kvs ps
 | .cell n,v=>∃a,v= .ref a/\ad[n]? =some a
def az(K:PySem.W.Frag)(F:Hp)(ad:List Addr):List D->List V->Prop
 | [],vs=>vs=[]
 |d::ds,vs=>∃u us,vs=u::us/\bf K F ad d u/\az K F ad ds us
def iC(K:PySem.W.Frag)(F:Hp)(ad:List Addr):List (Key×D)->List (Key×V)->Prop
 | [],vs=>vs=[]
 |p::ds,vs=>∃u us,vs=u::us/\(u.1=p.1/\bf K F ad p.2 u.2)/\iC K F ad ds us
end
def mR(a b:List Addr):Prop:=∀(i:Nat) x,a[i]? =some x->b[i]? =some x
theorem mR.refl(a:List Addr):mR a a:=λ_ _ e=>e
theorem mR.trans{a b c:List Addr}(x:mR a b)(y:mR b c):mR a c:=λi z e=>y i z (x i z e)
theorem SqT.mono{K:PySem.W.Frag}{F F':Hp}{a:Addr}{xs:List V}(s:lC F F')(h:SqT K F a xs):SqT K F' a xs:=by
 rcases h with(h|⟨o,h⟩)|h
 .exact .inl (.inl (s _ _ h))
 .exact .inl (.inr ⟨o,s _ _ h⟩)
 .exact .inr h
theorem SqL.mono{K:PySem.W.Frag}{F F':Hp}{a:Addr}{xs:List V}(s:lC F F')(h:SqL K F a xs):SqL K F' a xs:=by
 rcases h with(h|⟨o,h⟩)|h
 .exact .inl (.inl (s _ _ h))
 .exact .inl (.inr ⟨o,s _ _ h⟩)
 .exact .inr h
section
variable {K:PySem.W.Frag} {F F':Hp} {ad ad':List Addr}
mutual
theorem bf.mono(s:lC F F')(l:mR ad ad'):∀(d:D)(v:V),bf K F ad d v->bf K F' ad' d v
 | .non,v,h=>by unfold bf at h ⊢;exact h
 | .bl _,v,h=>by unfold bf at h ⊢;exact h
 | .int _,v,h=>by unfold bf at h ⊢;exact h
 | .str _,v,h=>by unfold bf at h ⊢;exact h
 | .tup ds,v,h=>by
  unfold bf at h ⊢
  obtain⟨a,xs,e,q,r⟩:=h
  exact⟨a,xs,e,SqT.mono s q,az.mono s l ds xs r⟩
 | .lst ds,v,h=>by
  unfold bf at h ⊢
  obtain⟨a,xs,e,q,r⟩:=h
  exact⟨a,xs,e,s _ _ q,az.mono s l ds xs r⟩
 | .ro ds,v,h=>by
  unfold bf at h ⊢
  obtain⟨a,xs,e,q,r⟩:=h
  exact⟨a,xs,e,SqL.mono s q,az.mono s l ds xs r⟩
 | .dic kvs,v,h=>by
  unfold bf at h ⊢
  obtain⟨a,ps,e,q,r⟩:=h
  exact⟨a,ps,e,s _ _ q,iC.mono s l kvs ps r⟩
 | .cell n,v,h=>by
  unfold bf at h ⊢
  obtain⟨a,e,q⟩:=h
  exact⟨a,e,l _ _ q⟩
theorem az.mono(s:lC F F')(l:mR ad ad'):∀(ds:List D)(vs:List V),az K F ad ds vs->az K F' ad' ds vs
 | [],vs,h=>by unfold az at h ⊢;exact h
 |d::ds,vs,h=>by
  unfold az at h ⊢
  obtain⟨u,us,e,p,r⟩:=h
  exact⟨u,us,e,bf.mono s l d u p,az.mono s l ds us r⟩
theorem iC.mono(s:lC F F')(l:mR ad ad'):∀(ds:List (Key×D))(vs:List (Key×V)),iC K F ad ds vs->iC K F' ad' ds vs
 | [],vs,h=>by unfold iC at h ⊢;exact h
 |p::ds,vs,h=>by
  unfold iC at h ⊢
  obtain⟨u,us,e,⟨p1,p2⟩,r⟩:=h
  exact⟨u,us,e,⟨p1,bf.mono s l p.2 u.2 p2⟩,iC.mono s l ds us r⟩
end
theorem az.nil:az K F ad [] []:=by unfold az;rfl
theorem az.cons{d:D}{v:V}{ds:List D}{vs:List V}(h:bf K F ad d v)(r:az K F ad ds vs):az K F ad (d::ds) (v::vs):=by unfold az;exact⟨v,vs,rfl,h,r⟩
theorem az.length:∀{ds:List D}{vs:List V},az K F ad ds vs->ds.length=vs.length
 | [],vs,h=>by unfold az at h;subst h;rfl
 |d::ds,vs,h=>by
  unfold az at h
  obtain⟨u,us,rfl,_,r⟩:=h
  rw[List.length_cons,List.length_cons,az.length r]
theorem az.get:∀{ds:List D}{vs:List V}{i:Nat}{d:D},az K F ad ds vs->ds[i]? =some d->∃v,vs[i]? =some v/\bf K F ad d v
 | [],_,_,_,_,e=>by simp at e
 |d::ds,vs,0,x,h,e=>by
  unfold az at h
  obtain⟨u,us,rfl,p,r⟩:=h
  simp at e;subst e
  exact⟨u,rfl,p⟩
 |d::ds,vs,i+1,x,h,e=>by
  unfold az at h
  obtain⟨u,us,rfl,p,r⟩:=h
  obtain⟨v,e1,e2⟩:=az.get (i:=i) r (by simpa using e)
  exact⟨v,by simpa using e1,e2⟩
theorem az.append:∀{ds es:List D}{vs us:List V},az K F ad ds vs->az K F ad es us->az K F ad (ds++es) (vs++us)
 | [],es,vs,us,h,r=>by unfold az at h;subst h;exact r
 |d::ds,es,vs,us,h,r=>by
  unfold az at h
  obtain⟨u,ws,rfl,p,q⟩:=h
  exact az.cons p (az.append q r)
theorem az.drop:∀{ds:List D}{vs:List V}(n:Nat),az K F ad ds vs->az K F ad (ds.drop n) (vs.drop n)
 |ds,vs,0,h=>h
 | [],vs,n+1,h=>by unfold az at h;subst h;exact az.nil
 |d::ds,vs,n+1,h=>by
  unfold az at h
  obtain⟨u,ws,rfl,p,q⟩:=h
  exact az.drop n q
theorem az.take:∀{ds:List D}{vs:List V}(n:Nat),az K F ad ds vs->az K F ad (ds.take n) (vs.take n)
 |ds,vs,0,h=>az.nil
 | [],vs,n+1,h=>by unfold az at h;subst h;exact az.nil
 |d::ds,vs,n+1,h=>by
  unfold az at h
  obtain⟨u,ws,rfl,p,q⟩:=h
  exact az.cons p (az.take n q)
theorem az.reverse:∀{ds:List D}{vs:List V},az K F ad ds vs->az K F ad ds.reverse vs.reverse
 | [],vs,h=>by unfold az at h;subst h;exact az.nil
 |d::ds,vs,h=>by
  unfold az at h
  obtain⟨u,ws,rfl,p,q⟩:=h
  rw[List.reverse_cons,List.reverse_cons]
  exact az.append (az.reverse q) (az.cons p az.nil)
theorem az.two{d e:D}{vs:List V}(h:az K F ad [d,e] vs):∃u v,vs=[u,v]/\bf K F ad d u/\bf K F ad e v:=by
 unfold az at h
 obtain⟨u,us,rfl,p,h⟩:=h
 unfold az at h
 obtain⟨v,ws,rfl,q,h⟩:=h
 unfold az at h
 subst h
 exact⟨u,v,rfl,p,q⟩
theorem az.one{d:D}{vs:List V}(h:az K F ad [d] vs):∃u,vs=[u]/\bf K F ad d u:=by
 unfold az at h
 obtain⟨u,us,rfl,p,h⟩:=h
 unfold az at h
 subst h
 exact⟨u,rfl,p⟩
theorem az.zero{vs:List V}(h:az K F ad [] vs):vs=[]:=by unfold az at h;exact h
end
structure Wd where
 H:Hp
 ad:List Addr
 mu:Mu
def mY(ad:List Addr)(mu:Mu)(b:Addr):Prop:=∃(i:Nat)(ds:List D),ad[i]? =some b/\mu[i]? =some (some ds)
open Classical in
noncomputable def Wd.fz(tb:List Addr)(W:Wd):Hp:=λb=>if mY W.ad W.mu b∨b∈tb then none else W.H b
abbrev Den(K:PySem.W.Frag)(tb:List Addr)(W:Wd):D->V->Prop:=bf K (W.fz tb) W.ad
abbrev cN(K:PySem.W.Frag)(tb:List Addr)(W:Wd):List D->List V->Prop:=az K (W.fz tb) W.ad
structure WOk(K:PySem.W.Frag)(tb:List Addr)(W:Wd):Prop where
 len:W.ad.length=W.mu.length
 cont:∀(i:Nat) a ds,W.ad[i]? =some a->W.mu[i]? =some (some ds)->∃xs,W.H a=some (.lst xs)/\cN K tb W ds xs
 inj:∀(i j:Nat) a ds es,W.ad[i]? =some a->W.ad[j]? =some a->W.mu[i]? =some (some ds)->W.mu[j]? =some (some es)->i=j
 tab:∀P∈tb,∃ps,W.H P=some (.tbl ps)/\TOk W.H ps
structure Le(tb:List Addr)(W W':Wd):Prop where
 same:lC (W.fz tb) (W'.fz tb)
 ad:mR W.ad W'.ad
theorem Le.refl{tb:List Addr}(W:Wd):Le tb W W:=⟨lC.refl _,mR.refl _⟩
theorem Le.trans{tb:List Addr}{W W1 W2:Wd}(a:Le tb W W1)(b:Le tb W1 W2):Le tb W W2:=⟨a.same.trans b.same,a.ad.trans b.ad⟩
section
variable {K:PySem.W.Frag} {tb:List Addr} {W W':Wd} {d:D} {v:V} {ds:List D} {vs:List V}
theorem Den.mono'(h:Den K tb W d v)(l:Le tb W W'):Den K tb W' d v:=bf.mono l.same l.ad d v h
theorem cN.mono'(h:cN K tb W ds vs)(l:Le tb W W'):cN K tb W' ds vs:=az.mono l.same l.ad ds vs h
theorem dJ{b:Addr}{o:HO}(h:W.fz tb b=some o):W.H b=some o/\¬mY W.ad W.mu b/\b∉tb:=by
 unfold Wd.fz at h
 split at h
 .cases h
 .rename_i q
  exact⟨h,λz=>q (.inl z),λz=>q (.inr z)⟩
theorem nZ{b:Addr}(h1:¬mY W.ad W.mu b)(h2:b∉tb):W.fz tb b=W.H b:=by
 unfold Wd.fz
 rw[if_neg]
 rintro(z|z)
 .exact h1 z
 .exact h2 z
theorem SqT.fz{a:Addr}{xs:List V}(h:SqT K (W.fz tb) a xs):SqT K W.H a xs:=by
 rcases h with(h|⟨o,h⟩)|h
 .exact .inl (.inl (dJ h).1)
 .exact .inl (.inr ⟨o,(dJ h).1⟩)
 .exact .inr h
theorem SqL.fz{a:Addr}{xs:List V}(h:SqL K (W.fz tb) a xs):SqL K W.H a xs:=by
 rcases h with(h|⟨o,h⟩)|h
 .exact .inl (.inl (dJ h).1)
 .exact .inl (.inr ⟨o,(dJ h).1⟩)
 .exact .inr h
theorem WOk.live(ok:WOk K tb W){b:Addr}(h:mY W.ad W.mu b):∃xs,W.H b=some (.lst xs):=by
 obtain⟨i,ds,e1,e2⟩:=h
 obtain⟨xs,e,_⟩:=ok.cont i b ds e1 e2
 exact⟨xs,e⟩
theorem WOk.alloc(ok:WOk K tb W){p:Addr}{o:HO}(hp:W.H p=none):WOk K tb ⟨upd W.H p o,W.ad,W.mu⟩/\Le tb W ⟨upd W.H p o,W.ad,W.mu⟩/\(Wd.fz tb ⟨upd W.H p o,W.ad,W.mu⟩) p=some o:=by
 have nl:¬mY W.ad W.mu p:=λz=>by obtain⟨xs,e⟩:=ok.live z;rw[hp]at e;cases e
 have nt:p∉tb:=λz=>by obtain⟨ps,e,_⟩:=ok.tab p z;rw[hp]at e;cases e
 have le:Le tb W ⟨upd W.H p o,W.ad,W.mu⟩:=⟨λb u e=>by
  obtain⟨e1,e2,e3⟩:=dJ e
  have hb:b≠p:=cA e1 hp
  have q:=nZ (tb:=tb) (W:=⟨upd W.H p o,W.ad,W.mu⟩) e2 e3
  rw[q]
  show upd W.H p o b=some u
  rw[aO hb];exact e1,mR.refl _⟩
 refine⟨⟨ok.len,λi a ds e1 e2=>?_,ok.inj,λP hP=>?_⟩,le,?_⟩
 .obtain⟨xs,e,r⟩:=ok.cont i a ds e1 e2
  refine⟨xs,?_,cN.mono' r le⟩
  show upd W.H p o a=_
  rw[aO (cA e hp)];exact e
 .obtain⟨ps,e,r⟩:=ok.tab P hP
  refine⟨ps,?_,r.mono λc u q=>(aO (cA q hp)).trans q⟩
  show upd W.H p o P=_
  rw[aO (cA e hp)];exact e
 .have q:=nZ (tb:=tb) (W:=⟨upd W.H p o,W.ad,W.mu⟩) nl nt
  rw[q];exact fj
theorem WOk.new(ok:WOk K tb W){p:Addr}(hp:W.H p=none)(r:cN K tb W ds vs):
  WOk K tb ⟨upd W.H p (.lst vs),W.ad++[p],W.mu++[some ds]⟩/\Le tb W ⟨upd W.H p (.lst vs),W.ad++[p],W.mu++[some ds]⟩/\Den K tb ⟨upd W.H p (.lst vs),W.ad++[p],W.mu++[some ds]⟩ (.cell W.mu.length) (.ref p):=by
 have adl:mR W.ad (W.ad++[p]):=λi x e=>by
  rw[Zs (Zh.mp e).1];exact e
 have lv:∀b,mY (W.ad++[p]) (W.mu++[some ds]) b->mY W.ad W.mu b∨b=p:=λb zq1=>by
  obtain⟨i,es,e1,e2⟩:=zq1
  by_cases hi:i<W.ad.length
  .rw[Zs hi]at e1
   rw[Zs (by rw[<-ok.len];exact hi)]at e2
   exact .inl ⟨i,es,e1,e2⟩
  .rw[List.getElem?_append_right (Nat.le_of_not_lt hi)]at e1
   right
   have:(i-W.ad.length)=0:=by
    have:=(Zh.mp e1).1
    simp at this
    omega
   rw[this]at e1
   simpa using e1.symm
 have le:Le tb W ⟨upd W.H p (.lst vs),W.ad++[p],W.mu++[some ds]⟩:=⟨λb u e=>by
  obtain⟨e1,e2,e3⟩:=dJ e
  have hb:b≠p:=cA e1 hp
  have q:=nZ (tb:=tb) (W:=⟨upd W.H p (.lst vs),W.ad++[p],W.mu++[some ds]⟩) (b:=b) (λz=>(lv b z).elim e2 hb) e3
  rw[q]
  show upd W.H p (.lst vs) b=some u
  rw[aO hb];exact e1,adl⟩
 refine⟨⟨by simp[ok.len],λi a es e1 e2=>?_,λi j a es fs e1 e2 e3 e4=>?_,λP hP=>?_⟩,le,?_⟩
 .by_cases hi:i<W.ad.length
  .have e1':W.ad[i]? =some a:=by rw[<-Zs (l₂:=[p]) hi];exact e1
   have e2':W.mu[i]? =some (some es):=by rw[<-Zs (l₂:=[some ds]) (by rw[<-ok.len];exact hi)];exact e2
   obtain⟨xs,e,q⟩:=ok.cont i a es e1' e2'
   refine⟨xs,?_,cN.mono' q le⟩
   show upd W.H p (.lst vs) a=_
   rw[aO (cA e hp)];exact e
  .have h0:i=W.ad.length:=by
    have h1:i<(W.ad++[p]).length:=(Zh.mp e1).1
    simp at h1
    omega
   have e1':(W.ad++[p])[i]? =some a:=e1
   have e2':(W.mu++[some ds])[i]? =some (some es):=e2
   rw[h0]at e1' e2'
   rw[ok.len]at e2'
   simp at e1' e2'
   subst e1' e2'
   exact⟨vs,fj,cN.mono' r le⟩
 .have old:∀(k:Nat) es,(W.ad++[p])[k]? =some a->(W.mu++[some ds])[k]? =some (some es)->(k<W.ad.length/\W.ad[k]? =some a/\W.mu[k]? =some (some es))∨(k=W.ad.length/\a=p):=λk es q1 q2=>by
   by_cases hk:k<W.ad.length
   .left
    refine⟨hk,?_,?_⟩
    .rw[<-Zs (l₂:=[p]) hk];exact q1
    .rw[<-Zs (l₂:=[some ds]) (by rw[<-ok.len];exact hk)];exact q2
   .right
    have h1:k<(W.ad++[p]).length:=(Zh.mp q1).1
    simp at h1
    have h0:k=W.ad.length:=by omega
    subst h0
    simp at q1
    exact⟨rfl,q1.symm⟩
  rcases old i es e1 e3 with⟨_,a1,a2⟩|⟨a1,a2⟩<;>rcases old j fs e2 e4 with⟨_,b1,b2⟩|⟨b1,b2⟩
  .exact ok.inj i j a es fs a1 b1 a2 b2
  .obtain⟨xs,e,_⟩:=ok.cont i a es a1 a2
   rw[b2,hp]at e;cases e
  .obtain⟨xs,e,_⟩:=ok.cont j a fs b1 b2
   rw[a2,hp]at e;cases e
  .rw[a1,b1]
 .obtain⟨ps,e,q⟩:=ok.tab P hP
  refine⟨ps,?_,q.mono λc u q=>(aO (cA q hp)).trans q⟩
  show upd W.H p (.lst vs) P=_
  rw[aO (cA e hp)];exact e
 .show bf K _ _ (.cell W.mu.length) (.ref p)
  unfold bf
  refine⟨p,rfl,?_⟩
  rw[<-ok.len]
  simp
theorem WOk.write(ok:WOk K tb W){i:Nat}{a:Addr}{es:List D}(e1:W.ad[i]? =some a)(e2:W.mu[i]? =some (some es))(r:cN K tb W ds vs):
  WOk K tb ⟨upd W.H a (.lst vs),W.ad,W.mu.set i (some ds)⟩/\Le tb W ⟨upd W.H a (.lst vs),W.ad,W.mu.set i (some ds)⟩:=by
 have hi:i<W.mu.length:=(Zh.mp e2).1
 have lv:∀b,mY W.ad (W.mu.set i (some ds)) b->mY W.ad W.mu b:=λb zq2=>by
  obtain⟨j,fs,q1,q2⟩:=zq2
  by_cases hj:i=j
  .subst hj;exact⟨i,es,q1,e2⟩
  .rw[List.getElem?_set_ne hj]at q2;exact⟨j,fs,q1,q2⟩
 have la:mY W.ad W.mu a:=⟨i,es,e1,e2⟩
 have le:Le tb W ⟨upd W.H a (.lst vs),W.ad,W.mu.set i (some ds)⟩:=⟨λb u e=>by
  obtain⟨p1,p2,p3⟩:=dJ e
  have hb:b≠a:=λz=>p2 (z▸la)
  have q:=nZ (tb:=tb) (W:=⟨upd W.H a (.lst vs),W.ad,W.mu.set i (some ds)⟩) (b:=b) (λz=>p2 (lv b z)) p3
  rw[q]
  show upd W.H a (.lst vs) b=some u
  rw[aO hb];exact p1,mR.refl _⟩
 refine⟨⟨by show W.ad.length=(W.mu.set i (some ds)).length;rw[List.length_set];exact ok.len,λj b fs q1 q2=>?_,λj k b fs gs q1 q2 q3 q4=>?_,λP hP=>?_⟩,le⟩
 .have q2':(W.mu.set i (some ds))[j]? =some (some fs):=q2
  by_cases hj:i=j
  .subst hj
   have q1':W.ad[i]? =some b:=q1
   rw[e1]at q1';cases q1'
   rw[List.getElem?_set_self hi]at q2'
   cases q2'
   exact⟨vs,fj,cN.mono' r le⟩
  .rw[List.getElem?_set_ne hj]at q2'
   obtain⟨xs,e,q⟩:=ok.cont j b fs q1 q2'
   refine⟨xs,?_,cN.mono' q le⟩
   show upd W.H a (.lst vs) b=_
   have hba:b≠a:=by
    intro z
    subst z
    exact hj (ok.inj i j b es fs e1 q1 e2 q2')
   rw[aO hba];exact e
 .have up:∀(j:Nat) fs,(W.mu.set i (some ds))[j]? =some (some fs)->∃gs,W.mu[j]? =some (some gs):=λj fs q=>by
   by_cases hj:i=j
   .subst hj;exact⟨es,e2⟩
   .rw[List.getElem?_set_ne hj]at q;exact⟨fs,q⟩
  obtain⟨fs',q3'⟩:=up j fs q3
  obtain⟨gs',q4'⟩:=up k gs q4
  exact ok.inj j k b fs' gs' q1 q2 q3' q4'
 .obtain⟨ps,e,q⟩:=ok.tab P hP
  obtain⟨xs,ea,_⟩:=ok.cont i a es e1 e2
  refine⟨ps,?_,q.mono λc u q=>(aO (Ax q ea (by intro z;cases z))).trans q⟩
  show upd W.H a (.lst vs) P=_
  rw[aO (Ax e ea (by intro z;cases z))];exact e
theorem WOk.freeze(ok:WOk K tb W){i:Nat}{a:Addr}{es:List D}(e1:W.ad[i]? =some a)(e2:W.mu[i]? =some (some es)):
  WOk K tb ⟨W.H,W.ad,W.mu.set i none⟩/\Le tb W ⟨W.H,W.ad,W.mu.set i none⟩/\Den K tb ⟨W.H,W.ad,W.mu.set i none⟩ (.lst es) (.ref a):=by
 have hi:i<W.mu.length:=(Zh.mp e2).1
 have up:∀(j:Nat) fs,(W.mu.set i none)[j]? =some (some fs)->i≠j/\W.mu[j]? =some (some fs):=λj fs q=>by
  by_cases hj:i=j
  .subst hj;rw[List.getElem?_set_self hi]at q;cases q
  .rw[List.getElem?_set_ne hj]at q;exact⟨hj,q⟩
 have lv:∀b,mY W.ad (W.mu.set i none) b->mY W.ad W.mu b:=λb ⟨j,fs,q1,q2⟩=>⟨j,fs,q1,(up j fs q2).2⟩
 have le:Le tb W ⟨W.H,W.ad,W.mu.set i none⟩:=⟨λb u e=>by
  obtain⟨p1,p2,p3⟩:=dJ e
  have q:=nZ (tb:=tb) (W:=⟨W.H,W.ad,W.mu.set i none⟩) (b:=b) (λz=>p2 (lv b z)) p3
  rw[q];exact p1,mR.refl _⟩
 obtain⟨xs,ea,ra⟩:=ok.cont i a es e1 e2
 refine⟨⟨by show W.ad.length=(W.mu.set i none).length;rw[List.length_set];exact ok.len,λj b fs q1 q2=>?_,λj k b fs gs q1 q2 q3 q4=>?_,ok.tab⟩,le,?_⟩
 .obtain⟨xs,e,q⟩:=ok.cont j b fs q1 (up j fs q2).2
  exact⟨xs,e,cN.mono' q le⟩
 .exact ok.inj j k b fs gs q1 q2 (up j fs q3).2 (up k gs q4).2
 .show bf K _ _ (.lst es) (.ref a)
  unfold bf
  refine⟨a,xs,rfl,?_,cN.mono' ra le⟩
  have nl:¬mY W.ad (W.mu.set i none) a:=λzq3=>by
   obtain⟨j,fs,q1,q2⟩:=zq3
   obtain⟨hj,q⟩:=up j fs q2
   exact hj (ok.inj i j a es fs e1 q1 e2 q)
  have nt:a∉tb:=λz=>by
   obtain⟨ps,e,_⟩:=ok.tab a z
   rw[ea]at e;cases e
  have q:=nZ (tb:=tb) (W:=⟨W.H,W.ad,W.mu.set i none⟩) nl nt
  rw[q];exact ea
theorem WOk.tbl(ok:WOk K tb W){P:Addr}{lo:Nat}{ps ps':Array Value}{H':Hp}(hP:P∈tb)(e:W.H P=some (.tbl ps))(hG:Em lo P ps ps' W.H H'):
  WOk K tb ⟨H',W.ad,W.mu⟩/\Le tb W ⟨H',W.ad,W.mu⟩:=by
 have le:Le tb W ⟨H',W.ad,W.mu⟩:=⟨λb u q=>by
  obtain⟨p1,p2,p3⟩:=dJ q
  have q:=nZ (tb:=tb) (W:=⟨H',W.ad,W.mu⟩) (b:=b) p2 p3
  rw[q]
  exact hG.keep b u (λz=>p3 (z▸hP)) p1,mR.refl _⟩
 refine⟨⟨ok.len,λi a ds e1 e2=>?_,ok.inj,λQ hQ=>?_⟩,le⟩
 .obtain⟨xs,ea,r⟩:=ok.cont i a ds e1 e2
  exact⟨xs,hG.keep a _ (Ax ea e (by intro z;cases z)) ea,cN.mono' r le⟩
 .by_cases hq:Q=P
  .subst hq;exact⟨ps',hG.tab,hG.ok⟩
  .obtain⟨qs,e',r⟩:=ok.tab Q hQ
   exact⟨qs,hG.keep Q _ hq e',r.mono λc u q=>hG.keep c _ (Ax q e (by intro z;cases z)) q⟩
end
abbrev SV:=L2.St
abbrev EF:=En->Mu->Option (D×Mu)
abbrev AF:=En->Mu->Option (List D×Mu)
abbrev TF:=En->Mu->Option (Bool×Mu)
inductive Fl where
 |nx|bk|ct|rt (d:D)
abbrev SF:=En->Mu->Option (Fl×En×Mu)
def gA(K:PySem.W.Frag)(tb:List Addr)(W:Wd)(δ:En)(σ:SV):Prop:=δ.length=σ.length/\∀(i:Nat) d,δ[i]? =some (some d)->∃v,σ[i]? =some (some v)/\Den K tb W d v
section
variable {K:PySem.W.Frag} {tb:List Addr} {W W':Wd} {δ:En} {σ:SV}
theorem gA.mono'(h:gA K tb W δ σ)(l:Le tb W W'):gA K tb W' δ σ:=⟨h.1,λi d e=>let⟨v,e1,e2⟩:=h.2 i d e;⟨v,e1,Den.mono' e2 l⟩⟩
theorem gA.set(h:gA K tb W δ σ){i:Nat}{d:D}{v:V}(r:Den K tb W d v):gA K tb W (δ.set i (some d)) (σ.set i (some v)):=by
 refine⟨by rw[List.length_set,List.length_set];exact h.1,λj e q=>?_⟩
 by_cases hj:i=j
 .subst hj
  have hi:i<δ.length:=by
   have:=(Zh.mp q).1
   rwa[List.length_set]at this
  rw[List.getElem?_set_self hi]at q
  cases q
  exact⟨v,by rw[List.getElem?_set_self (by rw[<-h.1];exact hi)],r⟩
 .rw[List.getElem?_set_ne hj]at q ⊢
  exact h.2 j e q
end
def tD(K:PySem.W.Frag)(tb:List Addr)(f:EF):TE:=λσ H Q=>∃W δ d μ',W.H=H/\WOk K tb W/\gA K tb W δ σ/\f δ W.mu=some (d,μ')/\
 ∀v W',WOk K tb W'->Le tb W W'->W'.mu=μ'->Den K tb W' d v->Q v W'.H
def tDA(K:PySem.W.Frag)(tb:List Addr)(f:AF):TA:=λσ H Q=>∃W δ ds μ',W.H=H/\WOk K tb W/\gA K tb W δ σ/\f δ W.mu=some (ds,μ')/\
 ∀vs W',WOk K tb W'->Le tb W W'->W'.mu=μ'->cN K tb W' ds vs->Q vs W'.H
def tDT(K:PySem.W.Frag)(tb:List Addr)(f:TF):TT:=λσ H Q=>∃W δ b μ',W.H=H/\WOk K tb W/\gA K tb W δ σ/\f δ W.mu=some (b,μ')/\
 ∀W',WOk K tb W'->Le tb W W'->W'.mu=μ'->Q b W'.H
def EndD(K:PySem.W.Frag)(tb:List Addr)(E:Ends)(fl:Fl)(σ:SV)(W:Wd):Prop:=match fl with
 | .nx=>E.nx σ W.H
 | .bk=>E.bk σ W.H
 | .ct=>E.ct σ W.H
 | .rt d=>∀v,Den K tb W d v->E.rt v W.H
def tDS(K:PySem.W.Frag)(tb:List Addr)(g:SF):TS:=λE σ H=>∃W δ fl δ' μ',W.H=H/\WOk K tb W/\gA K tb W δ σ/\g δ W.mu=some (fl,δ',μ')/\
 ∀σ' W',WOk K tb W'->Le tb W W'->W'.mu=μ'->gA K tb W' δ' σ'->EndD K tb E fl σ' W'
def PD(X:Cx)(tb:List Addr)(e:Expr)(f:EF):Prop:=PE X e (tD X.K tb f)
def PAD(X:Cx)(tb:List Addr)(es:List Expr)(f:AF):Prop:=PA X es (tDA X.K tb f)
def PTD(X:Cx)(tb:List Addr)(e:Expr)(f:TF):Prop:=PT X e (tDT X.K tb f)
def PWD(X:Cx)(tb:List Addr)(e:Expr)(f:TF):Prop:=PW X e (tDT X.K tb f)
def PSD(X:Cx)(tb:List Addr)(st:Stmt)(g:SF):Prop:=PS X st (tDS X.K tb g)
def tM(X:Cx)(tb:List Addr)(st:List Stmt)(g:SF):Prop:=PSs X st (tDS X.K tb g)
theorem eZ{X:Cx}{e:Expr}{t t':TE}(h:PE X e t)(k:∀σ H Q,t' σ H Q->t σ H Q):PE X e t':=λpins s σ H Q I hq=>h pins s σ H Q I (k σ H Q hq)
theorem FQ{X:Cx}{e:List Expr}{t t':TA}(h:PA X e t)(k:∀σ H Q,t' σ H Q->t σ H Q):PA X e t':=λpos pins s σ H Q I hq=>h pos pins s σ H Q I (k σ H Q hq)
theorem Gv{X:Cx}{e:Expr}{t t':TT}(h:PT X e t)(k:∀σ H Q,t' σ H Q->t σ H Q):PT X e t':=λpins s σ H Q I hq=>h pins s σ H Q I (k σ H Q hq)
theorem KZ{X:Cx}{e:Expr}{t t':TT}(h:PW X e t)(k:∀σ H Q,t' σ H Q->t σ H Q):PW X e t':=λwh pins s σ H Q I hq=>h wh pins s σ H Q I (k σ H Q hq)
theorem lB{X:Cx}{e:Stmt}{t t':TS}(h:PS X e t)(k:∀E σ H,t' E σ H->t E σ H):PS X e t':=λpins s σ H E I hq=>h pins s σ H E I (k E σ H hq)
theorem DN{X:Cx}{e:List Stmt}{t t':TS}(h:PSs X e t)(k:∀E σ H,t' E σ H->t E σ H):PSs X e t':=λpins s σ H E I hq=>h pins s σ H E I (k E σ H hq)
def ao(i:Nat):EF:=λδ μ=>match δ[i]? with
 |some (some d)=>some (d,μ)
 |_=>none
def mC(d:D):EF:=λ_ μ=>some (d,μ)
def M1(fa:EF)(op:D->Mu->Option (D×Mu)):EF:=λδ μ=>(fa δ μ).bind λr=>op r.1 r.2
def M2(fa fb:EF)(op:D->D->Mu->Option (D×Mu)):EF:=λδ μ=>(fa δ μ).bind λr=>(fb δ r.2).bind λq=>op r.1 q.1 q.2
def au:AF:=λ_ μ=>some ([],μ)
def aa(f:EF)(fs:AF):AF:=λδ μ=>(f δ μ).bind λr=>(fs δ r.2).bind λq=>some (r.1::q.1,q.2)
def MC(fs:AF)(op:List D->Mu->Option (D×Mu)):EF:=λδ μ=>(fs δ μ).bind λr=>op r.1 r.2
def RD1(K:PySem.W.Frag)(tb:List Addr)(r:V->Hp->VK->Prop)(op:D->Mu->Option (D×Mu)):Prop:=∀(W:Wd)(x:D)(v:V)(d:D)(μ':Mu)(Q:VK),WOk K tb W->Den K tb W x v->op x W.mu=some (d,μ')->
 (∀v W',WOk K tb W'->Le tb W W'->W'.mu=μ'->Den K tb W' d v->Q v W'.H)->r v W.H Q
def RD2(K:PySem.W.Frag)(tb:List Addr)(r:R2)(op:D->D->Mu->Option (D×Mu)):Prop:=∀(W:Wd)(x y:D)(v u:V)(d:D)(μ':Mu)(Q:VK),WOk K tb W->Den K tb W x v->Den K tb W y u->op x y W.mu=some (d,μ')->
 (∀v W',WOk K tb W'->Le tb W W'->W'.mu=μ'->Den K tb W' d v->Q v W'.H)->r v u W.H Q
def RDN(K:PySem.W.Frag)(tb:List Addr)(r:List V->Hp->VK->Prop)(op:List D->Mu->Option (D×Mu)):Prop:=∀(W:Wd)(xs:List D)(vs:List V)(d:D)(μ':Mu)(Q:VK),WOk K tb W->cN K tb W xs vs->op xs W.mu=some (d,μ')->
 (∀v W',WOk K tb W'->Le tb W W'->W'.mu=μ'->Den K tb W' d v->Q v W'.H)->r vs W.H Q
section
variable {K:PySem.W.Frag} {tb:List Addr}
theorem put{W:Wd}{Q:VK}{d:D}{v:V}(ok:WOk K tb W)(h:∀v W',WOk K tb W'->Le tb W W'->W'.mu=W.mu->Den K tb W' d v->Q v W'.H)(r:Den K tb W d v):Q v W.H:=h v W ok (Le.refl _) rfl r
theorem dI{W:Wd}{i:Int}:Den K tb W (.int i) (.int i):=by show bf _ _ _ _ _;unfold bf;rfl
theorem gm{W:Wd}{b:Bool}:Den K tb W (.bl b) (.bl b):=by show bf _ _ _ _ _;unfold bf;rfl
theorem vm{W:Wd}:Den K tb W .non .non:=by show bf _ _ _ _ _;unfold bf;rfl
theorem Iz{W:Wd}{x:Str}:Den K tb W (.str x) (.str x):=by show bf _ _ _ _ _;unfold bf;rfl
theorem bB{W:Wd}{i:Int}{v:V}(h:Den K tb W (.int i) v):v= .int i:=by have h:bf _ _ _ _ _:=h;unfold bf at h;exact h
theorem pX{W:Wd}{b:Bool}{v:V}(h:Den K tb W (.bl b) v):v= .bl b:=by have h:bf _ _ _ _ _:=h;unfold bf at h;exact h
theorem Di{W:Wd}{v:V}(h:Den K tb W .non v):v= .non:=by have h:bf _ _ _ _ _:=h;unfold bf at h;exact h
theorem vY{W:Wd}{x:Str}{v:V}(h:Den K tb W (.str x) v):v= .str x:=by have h:bf _ _ _ _ _:=h;unfold bf at h;exact h
theorem iR{W:Wd}{ds:List D}{v:V}(h:Den K tb W (.tup ds) v):∃a xs,v= .ref a/\SqT K (W.fz tb) a xs/\cN K tb W ds xs:=by have h:bf _ _ _ _ _:=h;unfold bf at h;exact h
theorem oK{W:Wd}{ds:List D}{v:V}(h:Den K tb W (.lst ds) v):∃a xs,v= .ref a/\W.fz tb a=some (.lst xs)/\cN K tb W ds xs:=by have h:bf _ _ _ _ _:=h;unfold bf at h;exact h
theorem kE{W:Wd}{ds:List D}{v:V}(h:Den K tb W (.lst ds) v):∃a xs,v= .ref a/\SqL K (W.fz tb) a xs/\cN K tb W ds xs:=let⟨a,xs,e,q,r⟩:=oK h;⟨a,xs,e,SqL.of q,r⟩
theorem wQ{W:Wd}{ds:List D}{v:V}(h:Den K tb W (.ro ds) v):∃a xs,v= .ref a/\SqL K (W.fz tb) a xs/\cN K tb W ds xs:=by have h:bf _ _ _ _ _:=h;unfold bf at h;exact h
theorem NK{W:Wd}{kvs:List (Key×D)}{v:V}(h:Den K tb W (.dic kvs) v):∃a ps,v= .ref a/\W.fz tb a=some (.dK ps)/\iC K (W.fz tb) W.ad kvs ps:=by have h:bf _ _ _ _ _:=h;unfold bf at h;exact h
theorem gj{W:Wd}{n:Nat}{v:V}(h:Den K tb W (.cell n) v):∃a,v= .ref a/\W.ad[n]? =some a:=by have h:bf _ _ _ _ _:=h;unfold bf at h;exact h
theorem kI{W:Wd}{Q:VK}{ds:List D}{vs:List V}{p:Addr}(ok:WOk K tb W)(h:∀v W',WOk K tb W'->Le tb W W'->W'.mu=W.mu->Den K tb W' (.tup ds) v->Q v W'.H)(r:cN K tb W ds vs)(hp:W.H p=none):Q (.ref p) (upd W.H p (.tup vs)):=by
 obtain⟨ok',le,e⟩:=ok.alloc (o:=.tup vs) hp
 refine h (.ref p) _ ok' le rfl ?_
 show bf _ _ _ _ _
 unfold bf
 exact⟨p,vs,rfl,.inl (.inl e),cN.mono' r le⟩
theorem jb{W:Wd}{Q:VK}{ds:List D}{vs:List V}{p:Addr}(ok:WOk K tb W)(h:∀v W',WOk K tb W'->Le tb W W'->W'.mu=W.mu->Den K tb W' (.lst ds) v->Q v W'.H)(r:cN K tb W ds vs)(hp:W.H p=none):Q (.ref p) (upd W.H p (.lst vs)):=by
 obtain⟨ok',le,e⟩:=ok.alloc (o:=.lst vs) hp
 refine h (.ref p) _ ok' le rfl ?_
 show bf _ _ _ _ _
 unfold bf
 exact⟨p,vs,rfl,e,cN.mono' r le⟩
end
section
variable {X:Cx} {tb:List Addr} {a b c e:Expr} {fa fb fc f:EF} {pos:Pos}
theorem Ls{i:Nat}{x:Str}(hN:X.N[i]? =some x)(hv:Vis X.env.scope x)(hd:(x==("__debug__":Str))=false:=by decide)(hcd:(x==("__classdict__":Str))=false:=by decide):PD X tb (.Name x pos) (ao i):=
 eZ (Mz hN hv hd hcd) λσ H Q zq1=>by
  obtain⟨W,δ,d,μ',e,ok,hd,hf,h⟩:=zq1
  subst e
  unfold ao at hf
  split at hf
  .rename_i d' e
   cases hf
   obtain⟨v,ev,r⟩:=hd.2 i _ e
   exact⟨v,ev,put ok h r⟩
  .cases hf
theorem ye{d:D}{v:V}(hp:PE X e (tC v))(hd:∀W,Den X.K tb W d v):PD X tb e (mC d):=
 eZ hp λσ H Q zq2=>by
  obtain⟨W,δ,d',μ',e,ok,_,hf,h⟩:=zq2
  subst e
  cases hf
  exact put ok h (hd W)
theorem aA{i j}:PD X tb (.Constant (.int i) j pos) (mC (.int i)):=ye zp λ_=>dI
theorem jP{i j}:PD X tb (.Constant (.bool i) j pos) (mC (.bl i)):=ye PQ λ_=>gm
structure GD(K:PySem.W.Frag)(mg:Str->Option Value)(x:Str)(d:D):Prop where
 is:∃u v,mg x=some u/\RelV v u/\∀F ad,bf K F ad d v
theorem Oc{r:V->Hp->VK->Prop}{op:D->Mu->Option (D×Mu)}(hp:∀ta,PE X a ta->PE X e (tUn r ta))(ho:RD1 X.K tb r op)(ha:PD X tb a fa):PD X tb e (M1 fa op):=
 eZ (hp _ ha) λσ H Q zq3=>by
  obtain⟨W,δ,d,μ',e,ok,hd,hf,h⟩:=zq3
  unfold M1 at hf
  obtain⟨⟨x,μ1⟩,e1,e2⟩:=Za.mp hf
  exact⟨W,δ,x,μ1,e,ok,hd,e1,λv W1 ok1 l1 m1 d1=>ho W1 x v d μ' Q ok1 d1 (by rw[m1];exact e2) λv' W' ok' l' m' d'=>h v' W' ok' (l1.trans l') m' d'⟩
theorem yS{r:R2}{op:D->D->Mu->Option (D×Mu)}(hp:∀ta tb,PE X a ta->PE X b tb->PE X e (tOp r ta tb))(ho:RD2 X.K tb r op)(ha:PD X tb a fa)(hb:PD X tb b fb):PD X tb e (M2 fa fb op):=
 eZ (hp _ _ ha hb) λσ H Q zq4=>by
  obtain⟨W,δ,d,μ',e,ok,hd,hf,h⟩:=zq4
  unfold M2 at hf
  obtain⟨⟨x,μ1⟩,e1,hf⟩:=Za.mp hf
  obtain⟨⟨y,μ2⟩,e2,e3⟩:=Za.mp hf
  refine⟨W,δ,x,μ1,e,ok,hd,e1,λv W1 ok1 l1 m1 d1=>⟨W1,δ,y,μ2,rfl,ok1,hd.mono' l1,(by rw[m1];exact e2),λu W2 ok2 l2 m2 d2=>?_⟩⟩
  exact ho W2 x y v u d μ' Q ok2 (Den.mono' d1 l2) d2 (by rw[m2];exact e3) λv' W' ok' l' m' d'=>h v' W' ok' ((l1.trans l2).trans l') m' d'
theorem aq:PAD X tb [] au:=FQ vG λσ H Q zq5=>by
 obtain⟨W,δ,d,μ',e,ok,hd,hf,h⟩:=zq5
 subst e;cases hf
 exact h [] W ok (Le.refl _) rfl az.nil
theorem aj{es:List Expr}{fs:AF}(ha:PD X tb e f)(hr:PAD X tb es fs)(hs:starEach (e::es) X.env=(false,eval e X.env)::starEach es X.env:=by rfl):PAD X tb (e::es) (aa f fs):=
 FQ (oW ha hr hs) λσ H Q zq6=>by
  obtain⟨W,δ,ds,μ',e,ok,hd,hf,h⟩:=zq6
  unfold aa at hf
  obtain⟨⟨x,μ1⟩,e1,hf⟩:=Za.mp hf
  obtain⟨⟨xs,μ2⟩,e2,e3⟩:=Za.mp hf
  cases e3
  refine⟨W,δ,x,μ1,e,ok,hd,e1,λv W1 ok1 l1 m1 d1=>⟨W1,δ,xs,_,rfl,ok1,hd.mono' l1,(by rw[m1];exact e2),λvs W2 ok2 l2 m2 d2=>?_⟩⟩
  exact h (v::vs) W2 ok2 (l1.trans l2) m2 (az.cons (Den.mono' d1 l2) d2)
theorem yq{es:List Expr}{fs:AF}{r:List V->Hp->VK->Prop}{op:List D->Mu->Option (D×Mu)}(hp:∀ta,PA X es ta->PE X e (tCB r ta))(ho:RDN X.K tb r op)(ha:PAD X tb es fs):PD X tb e (MC fs op):=
 eZ (hp _ ha) λσ H Q zq7=>by
  obtain⟨W,δ,d,μ',e,ok,hd,hf,h⟩:=zq7
  unfold MC at hf
  obtain⟨⟨x,μ1⟩,e1,e2⟩:=Za.mp hf
  exact⟨W,δ,x,μ1,e,ok,hd,e1,λv W1 ok1 l1 m1 d1=>ho W1 x v d μ' Q ok1 d1 (by rw[m1];exact e2) λv' W' ok' l' m' d'=>h v' W' ok' (l1.trans l') m' d'⟩
def oTup(ds:List D)(μ:Mu):Option (D×Mu):=if ds.length<=sizeLine then some (.tup ds,μ)else none
def oLst(ds:List D)(μ:Mu):Option (D×Mu):=if ds.length<=sizeLine then some (.lst ds,μ)else none
theorem cg{es:List Expr}{fs:AF}{x1}(h:PAD X tb es fs):PD X tb (.Tuple es x1 pos) (MC fs oTup):=
 yq (r:=λxs H Q=>xs.length<=sizeLine/\∀p,H p=none->Q (.ref p) (upd H p (.tup xs))) (λta h=>Ml h) (λW xs vs d μ' Q ok r ho h=>by
  unfold oTup at ho
  split at ho
  .rename_i hl
   cases ho
   exact⟨by rw[<-az.length r];exact hl,λp hp=>kI ok h r hp⟩
  .cases ho) h
theorem lE{es:List Expr}{fs:AF}(h:PAD X tb es fs):PD X tb (.List es pos) (MC fs oLst):=
 yq (r:=λxs H Q=>xs.length<=sizeLine/\∀p,H p=none->Q (.ref p) (upd H p (.lst xs))) (λta h=>Dm h) (λW xs vs d μ' Q ok r ho h=>by
  unfold oLst at ho
  split at ho
  .rename_i hl
   cases ho
   exact⟨by rw[<-az.length r];exact hl,λp hp=>jb ok h r hp⟩
  .cases ho) h
def yt:D->Mu->Option Bool
 | .bl b,_=>some b
 | .int i,_=>some (i != 0)
 | .non,_=>some false
 | .tup ds,_=>some !ds.isEmpty
 | .lst ds,_=>some !ds.isEmpty
 | .cell n,μ=>match μ[n]? with
  |some (some ds)=>some !ds.isEmpty
  |_=>none
 |_,_=>none
end
section
variable {K:PySem.W.Frag} {tb:List Addr}
theorem Ja{W:Wd}{x:D}{v:V}{k:Bool}(ok:WOk K tb W)(h:Den K tb W x v)(e:yt x W.mu=some k):MN K v W.H k:=by
 cases x with
 |non=>rw[Di h];cases e;rfl
 |bl b=>rw[pX h];cases e;rfl
 |int i=>rw[bB h];cases e;rfl
 |str y=>cases e
 |dic y=>cases e
 |ro y=>cases e
 |tup ds=>
  obtain⟨a,xs,rfl,q,r⟩:=iR h
  cases e
  refine .inr (.inl ⟨xs,SqT.fz q,?_⟩)
  have:=az.length r
  cases ds<;>cases xs<;>simp_all
 |lst ds=>
  obtain⟨a,xs,rfl,q,r⟩:=kE h
  cases e
  refine .inl ⟨xs,SqL.fz q,?_⟩
  have:=az.length r
  cases ds<;>cases xs<;>simp_all
 |cell n=>
  obtain⟨a,rfl,q⟩:=gj h
  have e':(match W.mu[n]? with|some (some ds)=>some !ds.isEmpty|_=>none)=some k:=e
  cases e2:W.mu[n]? with
  |none=>rw[e2]at e';cases e'
  |some o=>
   cases o with
   |none=>rw[e2]at e';cases e'
   |some ds=>
    rw[e2]at e'
    have e'':some (!ds.isEmpty)=some k:=e'
    cases e''
    obtain⟨xs,e3,r⟩:=ok.cont n a ds q e2
    refine .inl ⟨xs,SqL.of e3,?_⟩
    have:=az.length r
    cases ds<;>cases xs<;>simp_all
end
section
variable {X:Cx} {tb:List Addr} {a b c e:Expr} {fa fb fc f:EF} {ta tc:TF} {pos:Pos}
def mj(f:EF):TF:=λδ μ=>(f δ μ).bind λr=>(yt r.1 r.2).map λk=>(k,r.2)
theorem fM(h:PD X tb e f)(he:∀whole,isTrue e X.env whole=(do let v<-whole;standAt e.pos;holding [v] (truthy v)):=by intro _;rfl):PTD X tb e (mj f):=
 Gv (Hb h he) λσ H Q zq1=>by
  obtain⟨W,δ,k,μ',e,ok,hd,hf,h⟩:=zq1
  unfold mj at hf
  obtain⟨⟨x,μ1⟩,e1,e2⟩:=Za.mp hf
  obtain⟨k',e3,e4⟩:=Zp.mp e2
  cases e4
  exact⟨W,δ,x,_,e,ok,hd,e1,λv W1 ok1 l1 m1 d1=>⟨k,Ja ok1 d1 (by rw[m1];exact e3),h W1 ok1 l1 m1⟩⟩
structure OpD(X:Cx)(tb:List Addr)(sem:Value->Value->Sem Value)(op:D->D->Mu->Option (D×Mu)):Prop where
 ex:∃r,OpR X sem r/\RD2 X.K tb r op
theorem aG{o:Operator}{op:D->D->Mu->Option (D×Mu)}(ho:OpD X tb (binaryOp o) op)(ha:PD X tb a fa)(hb:PD X tb b fb):PD X tb (.BinOp a o b pos) (M2 fa fb op):=by
 obtain⟨r,h1,h2⟩:=ho.ex
 exact yS (λta tb ha hb=>KQ h1 ha hb) h2 ha hb
theorem nQ{o:CmpOp}{op:D->D->Mu->Option (D×Mu)}(ho:OpD X tb (compareOp o) op)(ha:PD X tb a fa)(hb:PD X tb b fb)(hm:behindInMarks o b=false:=by first|exact xJ _ (by decide) (by decide)|rfl):PD X tb (.Compare a [o] [b] pos) (M2 fa fb op):=by
 obtain⟨r,h1,h2⟩:=ho.ex
 exact yS (λta tb ha hb=>Ie h1 ha hb hm) h2 ha hb
def toB(f:EF):TF:=λδ μ=>(f δ μ).bind λr=>match r.1 with
 | .bl k=>some (k,r.2)
 |_=>none
theorem bI{o:CmpOp}{op:D->D->Mu->Option (D×Mu)}(ho:OpD X tb (compareOp o) op)(ha:PD X tb a fa)(hb:PD X tb b fb)(hm:behindInMarks o b=false:=by first|exact xJ _ (by decide) (by decide)|rfl):PTD X tb (.Compare a [o] [b] pos) (toB (M2 fa fb op)):=by
 obtain⟨r,h1,h2⟩:=ho.ex
 refine Gv (Kl h1 ha hb hm) λσ H Q zq2=>?_
 obtain⟨W,δ,k,μ',e,ok,hd,hf,h⟩:=zq2
 unfold toB at hf
 obtain⟨⟨z,μz⟩,hf,ez⟩:=Za.mp hf
 unfold M2 at hf
 obtain⟨⟨x,μ1⟩,e1,hf⟩:=Za.mp hf
 obtain⟨⟨y,μ2⟩,e2,e3⟩:=Za.mp hf
 cases z with
 |bl k'=>
  cases ez
  refine⟨W,δ,x,μ1,e,ok,hd,e1,λv W1 ok1 l1 m1 d1=>⟨W1,δ,y,μ2,rfl,ok1,hd.mono' l1,(by rw[m1];exact e2),λu W2 ok2 l2 m2 d2=>?_⟩⟩
  refine h2 W2 x y v u _ _ _ ok2 (Den.mono' d1 l2) d2 (by rw[m2];exact e3) λv' W' ok' l' m' d'=>?_
  exact⟨k,pX d',h W' ok' ((l1.trans l2).trans l') m'⟩
 |_=>cases ez
def MCh(fa fb fc:EF)(op op':D->D->Mu->Option (D×Mu)):EF:=λδ μ=>(fa δ μ).bind λr=>(fb δ r.2).bind λq=>(op r.1 q.1 q.2).bind λz=>match z.1 with
 | .bl true=>(fc δ z.2).bind λt=>op' q.1 t.1 t.2
 | .bl false=>some (.bl false,z.2)
 |_=>none
def lK(ta tc:TF):TF:=λδ μ=>(ta δ μ).bind λr=>if r.1=true then tc δ r.2 else some (false,r.2)
def qm(ta tc:TF):TF:=λδ μ=>(ta δ μ).bind λr=>if r.1=true then some (true,r.2)else tc δ r.2
def iM(ta:TF):TF:=λδ μ=>(ta δ μ).bind λr=>some (!r.1,r.2)
theorem xK(ha:PTD X tb a ta):PWD X tb (.BoolOp .And [a] pos) ta:=HX ha
theorem kZ(ha:PTD X tb a ta):PWD X tb (.BoolOp .Or [a] pos) ta:=Od ha
theorem Bk{rest:List Expr}(ha:PTD X tb a ta)(hb:PWD X tb (.BoolOp .And (b::rest) pos) tc):PWD X tb (.BoolOp .And (a::b::rest) pos) (lK ta tc):=
 KZ (Lz ha hb) λσ H Q zq4=>by
  obtain⟨W,δ,k,μ',e,ok,hd,hf,h⟩:=zq4
  unfold lK at hf
  obtain⟨⟨z,μz⟩,e1,e2⟩:=Za.mp hf
  refine⟨W,δ,z,μz,e,ok,hd,e1,λW1 ok1 l1 m1=>?_⟩
  cases z with
  |true=>exact⟨W1,δ,k,μ',rfl,ok1,hd.mono' l1,(by rw[m1];exact e2),λW' ok' l' m'=>h W' ok' (l1.trans l') m'⟩
  |false=>cases e2;exact h W1 ok1 l1 m1
theorem lY{rest:List Expr}(ha:PTD X tb a ta)(hb:PWD X tb (.BoolOp .Or (b::rest) pos) tc):PWD X tb (.BoolOp .Or (a::b::rest) pos) (qm ta tc):=
 KZ (Rc ha hb) λσ H Q zq5=>by
  obtain⟨W,δ,k,μ',e,ok,hd,hf,h⟩:=zq5
  unfold qm at hf
  obtain⟨⟨z,μz⟩,e1,e2⟩:=Za.mp hf
  refine⟨W,δ,z,μz,e,ok,hd,e1,λW1 ok1 l1 m1=>?_⟩
  cases z with
  |false=>exact⟨W1,δ,k,μ',rfl,ok1,hd.mono' l1,(by rw[m1];exact e2),λW' ok' l' m'=>h W' ok' (l1.trans l') m'⟩
  |true=>cases e2;exact h W1 ok1 l1 m1
theorem kY(h:PWD X tb a ta):PTD X tb a ta:=PW.pt h
theorem fL(ha:PTD X tb a ta):PTD X tb (.UnaryOp .Not a pos) (iM ta):=
 Gv (Nv ha) λσ H Q zq6=>by
  obtain⟨W,δ,k,μ',e,ok,hd,hf,h⟩:=zq6
  unfold iM at hf
  obtain⟨⟨z,μz⟩,e1,e2⟩:=Za.mp hf
  cases e2
  exact⟨W,δ,z,_,e,ok,hd,e1,λW1 ok1 l1 m1=>h W1 ok1 l1 m1⟩
def jR(fa fb:EF):EF:=λδ μ=>(fa δ μ).bind λr=>match r.1 with
 | .bl true=>fb δ r.2
 | .bl false=>some (.bl false,r.2)
 |_=>none
def nA(fa:EF):EF:=λδ μ=>(fa δ μ).bind λr=>match r.1 with
 | .bl k=>some (.bl !k,r.2)
 |_=>none
theorem jZ{o}(ha:PD X tb a fa):PD X tb (.BoolOp o [a] pos) fa:=Mr ha
theorem lO{rest:List Expr}(ha:PD X tb a fa)(hb:PD X tb (.BoolOp .And (b::rest) pos) fb):PD X tb (.BoolOp .And (a::b::rest) pos) (jR fa fb):=
 eZ (Pg ha hb) λσ H Q zq7=>by
  obtain⟨W,δ,d,μ',e,ok,hd,hf,h⟩:=zq7
  unfold jR at hf
  obtain⟨⟨z,μz⟩,e1,e2⟩:=Za.mp hf
  refine⟨W,δ,z,μz,e,ok,hd,e1,λv W1 ok1 l1 m1 d1=>?_⟩
  cases z with
  |bl k=>
   cases k with
   |true=>
   refine⟨true,pX d1,?_⟩
   rw[if_pos rfl]
   exact⟨W1,δ,d,μ',rfl,ok1,hd.mono' l1,(by rw[m1];exact e2),λv W' ok' l' m' d'=>h v W' ok' (l1.trans l') m' d'⟩
   |false=>
   cases e2
   refine⟨false,pX d1,?_⟩
   rw[if_neg Zr]
   exact h _ W1 ok1 l1 m1 gm
  |_=>cases e2
theorem qP(ha:PD X tb a fa):PD X tb (.UnaryOp .Not a pos) (nA fa):=
 eZ (Ln ha) λσ H Q zq9=>by
  obtain⟨W,δ,d,μ',e,ok,hd,hf,h⟩:=zq9
  unfold nA at hf
  obtain⟨⟨z,μz⟩,e1,e2⟩:=Za.mp hf
  refine⟨W,δ,z,μz,e,ok,hd,e1,λv W1 ok1 l1 m1 d1=>?_⟩
  cases z with
  |bl k=>
   cases e2
   exact⟨k,pX d1,h _ W1 ok1 l1 m1 gm⟩
  |_=>cases e2
end
def bR:SF:=λδ μ=>some (.nx,δ,μ)
def aW(g h:SF):SF:=λδ μ=>(g δ μ).bind λr=>match r.1 with
 | .nx=>h r.2.1 r.2.2
 |_=>some r
def dB(f:EF):SF:=λδ μ=>(f δ μ).bind λr=>some (.nx,δ,r.2)
def bG(f:EF):SF:=λδ μ=>(f δ μ).bind λr=>some (.rt r.1,δ,r.2)
def sIf(c:TF)(g h:SF):SF:=λδ μ=>(c δ μ).bind λr=>if r.1=true then g δ r.2 else h δ r.2
def bJ(i:Nat)(f:EF):SF:=λδ μ=>(f δ μ).bind λr=>some (.nx,δ.set i (some r.1),r.2)
section
variable {X:Cx} {tb:List Addr} {e:Expr} {f:EF} {g h:SF} {st:Stmt} {rest:List Stmt} {pos:Pos}
theorem bj:tM X tb [] bR:=DN Ku λE σ H zq11=>by
 obtain⟨W,δ,fl,δ',μ',e,ok,hd,hf,h⟩:=zq11
 subst e;cases hf
 exact h σ W ok (Le.refl _) rfl hd
theorem aF(h1:PSD X tb st g):tM X tb [st] g:=JT h1
theorem aD(h1:PSD X tb st g)(h2:tM X tb rest h):tM X tb (st::rest) (aW g h):=
 DN (Hl h1 h2) λE σ H zq12=>by
  obtain⟨W,δ,fl,δ',μ',e,ok,hd,hf,k⟩:=zq12
  unfold aW at hf
  obtain⟨⟨fl1,δ1,μ1⟩,e1,e2⟩:=Za.mp hf
  refine⟨W,δ,fl1,δ1,μ1,e,ok,hd,e1,λσ1 W1 ok1 l1 m1 d1=>?_⟩
  cases fl1 with
  |nx=>exact⟨W1,δ1,fl,δ',μ',rfl,ok1,d1,(by rw[m1];exact e2),λσ' W' ok' l' m' d'=>k σ' W' ok' (l1.trans l') m' d'⟩
  |bk=>cases e2;exact k σ1 W1 ok1 l1 m1 d1
  |ct=>cases e2;exact k σ1 W1 ok1 l1 m1 d1
  |rt d=>cases e2;exact k σ1 W1 ok1 l1 m1 d1
theorem gb(he:PD X tb e f)(hs:swapsWith e none pos.line X.env=pure false:=by rfl):PSD X tb (.Expr e pos) (dB f):=
 lB (Ji he hs) λE σ H zq16=>by
  obtain⟨W,δ,fl,δ',μ',e,ok,hd,hf,h⟩:=zq16
  unfold dB at hf
  obtain⟨⟨x,μ1⟩,e1,e2⟩:=Za.mp hf
  cases e2
  exact⟨W,δ,x,_,e,ok,hd,e1,λv W1 ok1 l1 m1 d1=>h σ W1 ok1 l1 m1 (hd.mono' l1)⟩
theorem aK(he:PD X tb e f):PSD X tb (.Return (some e) pos) (bG f):=
 lB (Mv he) λE σ H zq17=>by
  obtain⟨W,δ,fl,δ',μ',e,ok,hd,hf,h⟩:=zq17
  unfold bG at hf
  obtain⟨⟨x,μ1⟩,e1,e2⟩:=Za.mp hf
  cases e2
  exact⟨W,δ,x,_,e,ok,hd,e1,λv W1 ok1 l1 m1 d1=>h σ W1 ok1 l1 m1 (hd.mono' l1) v d1⟩
theorem cj{c:Expr}{tc:TF}{as bs:List Stmt}(hc:PTD X tb c tc)(ha:tM X tb as g)(hb:tM X tb bs h):PSD X tb (.If c as bs pos) (sIf tc g h):=
 lB (Qc hc ha hb) λE σ H zq18=>by
  obtain⟨W,δ,fl,δ',μ',e,ok,hd,hf,k⟩:=zq18
  unfold sIf at hf
  obtain⟨⟨z,μ1⟩,e1,e2⟩:=Za.mp hf
  refine⟨W,δ,z,μ1,e,ok,hd,e1,λW1 ok1 l1 m1=>?_⟩
  cases z with
  |true=>exact⟨W1,δ,fl,δ',μ',rfl,ok1,hd.mono' l1,(by rw[m1];exact e2),λσ' W' ok' l' m' d'=>k σ' W' ok' (l1.trans l') m' d'⟩
  |false=>exact⟨W1,δ,fl,δ',μ',rfl,ok1,hd.mono' l1,(by rw[m1];exact e2),λσ' W' ok' l' m' d'=>k σ' W' ok' (l1.trans l') m' d'⟩
theorem bA{i:Nat}{x:Str}{pos':Pos}(hN:X.N.Nodup)(he:PD X tb e f)(hi:X.N[i]? =some x:=by rfl)(hx:Loc X.env.scope x:=by first|exact Or.inl rfl|exact Or.inr rfl)(hs:swapsWith e (some (.Name x pos')) pos.line X.env=pure false:=by rfl)
  (hf:X.fn x=true∨X.env.scope.names.lookup x=some .local:=by first|exact .inl rfl|exact .inr rfl|assumption):PSD X tb (.Assign [.Name x pos'] e pos) (bJ i f):=
 lB (Ny hN hi hx he hs hf) λE σ H zq19=>by
  obtain⟨W,δ,fl,δ',μ',e,ok,hd,hf,h⟩:=zq19
  unfold bJ at hf
  obtain⟨⟨x,μ1⟩,e1,e2⟩:=Za.mp hf
  cases e2
  exact⟨W,δ,x,_,e,ok,hd,e1,λv W1 ok1 l1 m1 d1=>h _ W1 ok1 l1 m1 ((hd.mono' l1).set d1)⟩
def Cq(i j:Nat)(fs:AF):SF:=λδ μ=>(fs δ μ).bind λr=>match r.1 with
 | [x,y]=>some (.nx,(δ.set i (some x)).set j (some y),r.2)
 |_=>none
theorem HR{i j:Nat}{x y:Str}{a b:Expr}{fs:AF}{px py pt:Pos}{kt k2 pt2}(hc:X.calm=true)(hN:X.N.Nodup)(ha:PAD X tb [a,b] fs)(hij:i≠j:=by decide)(hi:X.N[i]? =some x:=by rfl)(hj:X.N[j]? =some y:=by rfl)
  (hx:X.env.scope.names.lookup x=some .local:=by rfl) (hy:X.env.scope.names.lookup y=some .local:=by rfl)
  (hw:swappedStores [.Tuple [.Name x px,.Name y py] kt pt] (.Tuple [a,b] k2 pt2) X.env=pure (some [x,y]):=by rfl)
  (hs:swapsWithSole [.Tuple [.Name x px,.Name y py] kt pt] (.Tuple [a,b] k2 pt2) pos.line X.env=pure false:=by rfl):
  PSD X tb (.Assign [.Tuple [.Name x px,.Name y py] kt pt] (.Tuple [a,b] k2 pt2) pos) (Cq i j fs):=
 lB (Nq hc hN hi hj hij hx hy ha hw hs) λE σ H zq20=>by
  obtain⟨W,δ,fl,δ',μ',e,ok,hd,hf,h⟩:=zq20
  unfold Cq at hf
  obtain⟨⟨xs,μ1⟩,e1,e2⟩:=Za.mp hf
  match xs,e1,e2 with
  | [x,y],e1,e2=>
   cases e2
   refine⟨W,δ,_,_,e,ok,hd,e1,λvs W1 ok1 l1 m1 d1=>?_⟩
   obtain⟨u,v,rfl,du,dv⟩:=az.two d1
   exact⟨u,v,rfl,h _ W1 ok1 l1 m1 (((hd.mono' l1).set du).set dv)⟩
def fK(c:TF)(b:SF):Nat->SF
 |0=>λ_ _=>none
 |n+1=>λδ μ=>(c δ μ).bind λr=>if r.1=true then(b δ r.2).bind λq=>match q.1 with
  | .nx=>fK c b n q.2.1 q.2.2
  | .ct=>fK c b n q.2.1 q.2.2
  | .bk=>some (.nx,q.2)
  | .rt d=>some (.rt d,q.2)
  else some (.nx,δ,r.2)
theorem jx{c:TF}{b:SF}:∀{n m:Nat}{δ:En}{μ:Mu}{r:Fl×En×Mu},n<=m->fK c b n δ μ=some r->fK c b m δ μ=some r
 |0,_,_,_,_,_,h=>by cases h
 |n+1,0,_,_,_,hl,_=>by omega
 |n+1,m+1,δ,μ,r,hl,h=>by
  unfold fK at h ⊢
  obtain⟨q,e1,e2⟩:=Za.mp h
  rw[e1]
  show(if q.1=true then _ else _)=_
  by_cases hq:q.1=true
  .rw[if_pos hq]at e2 ⊢
   obtain⟨t,e3,e4⟩:=Za.mp e2
   rw[e3]
   show(match t.1 with| .nx=>_| .ct=>_| .bk=>_| .rt d=>_)=_
   cases ht:t.1 with
   |nx=>rw[ht]at e4;exact jx (by omega) e4
   |ct=>rw[ht]at e4;exact jx (by omega) e4
   |bk=>rw[ht]at e4;exact e4
   |rt d=>rw[ht]at e4;exact e4
  .rw[if_neg hq]at e2 ⊢;exact e2
open Classical in
noncomputable def lL(c:TF)(b:SF):SF:=λδ μ=>if h:∃n r,fK c b n δ μ=some r then some (choose (choose_spec h))else none
theorem uf{c:TF}{b:SF}{n:Nat}{δ:En}{μ:Mu}{r:Fl×En×Mu}(h:fK c b n δ μ=some r):lL c b δ μ=some r:=by
 have hx:∃n r,fK c b n δ μ=some r:=⟨n,r,h⟩
 unfold lL
 rw[dif_pos hx]
 have q:=Classical.choose_spec (Classical.choose_spec hx)
 have a:=jx (Nat.le_max_left n (Classical.choose hx)) h
 have b:=jx (Nat.le_max_right n (Classical.choose hx)) q
 rw[a]at b
 exact b.symm
theorem Cv{c:TF}{b:SF}{δ:En}{μ:Mu}{r:Fl×En×Mu}(h:lL c b δ μ=some r):∃n,fK c b n δ μ=some r:=by
 unfold lL at h
 split at h
 .rename_i hx
  cases h
  exact⟨_,Classical.choose_spec (Classical.choose_spec hx)⟩
 .cases h
theorem uC{c:Expr}{tc:TF}{body:List Stmt}(hp:PassesOwn (model X.prog X.w) X.A X.env X.xe)(hc:PTD X tb c tc)(hb:tM X tb body g):PSD X tb (.While c body [] pos) (lL tc g):=
 lB (Gx hp hc hb) λE σ H zq21=>by
  obtain⟨W,δ,fl,δ',μ',e,ok,hd,hf,h⟩:=zq21
  obtain⟨n0,hn0⟩:=Cv hf
  refine⟨λm σ1 H1=>∃W1 δ1,W1.H=H1/\WOk X.K tb W1/\Le tb W W1/\gA X.K tb W1 δ1 σ1/\fK tc g m δ1 W1.mu=some (fl,δ',μ'),⟨n0,W,δ,e,ok,Le.refl _,hd,hn0⟩,?_⟩
  rintro m σ1 H1 ⟨W1,δ1,rfl,ok1,l1,d1,hn⟩
  cases m with
  |zero=>cases hn
  |succ m=>
   unfold fK at hn
   obtain⟨⟨k,μ2⟩,e1,e2⟩:=Za.mp hn
   refine⟨W1,δ1,k,μ2,rfl,ok1,d1,e1,λW2 ok2 l2 m2=>?_⟩
   cases k with
   |false=>
    cases e2
    rw[if_neg Zr]
    exact h σ1 W2 ok2 (l1.trans l2) m2 (d1.mono' l2)
   |true=>
    rw[if_pos rfl]
    obtain⟨⟨fl3,δ3,μ3⟩,e3,e4⟩:=Za.mp e2
    refine⟨λσ3 H3=>∃W3,W3.H=H3/\WOk X.K tb W3/\Le tb W W3/\gA X.K tb W3 δ3 σ3/\fK tc g m δ3 W3.mu=some (fl,δ',μ'),λσ3 H3 ⟨W3,q1,q2,q3,q4,q5⟩=>⟨m,Nat.lt_succ_self _,W3,δ3,q1,q2,q3,q4,q5⟩,?_⟩
    refine⟨W2,δ1,fl3,δ3,μ3,rfl,ok2,d1.mono' l2,(by rw[m2];exact e3),λσ3 W3 ok3 l3 m3 d3=>?_⟩
    cases fl3 with
    |nx=>exact⟨W3,rfl,ok3,(l1.trans l2).trans l3,d3,by rw[m3];exact e4⟩
    |ct=>exact⟨W3,rfl,ok3,(l1.trans l2).trans l3,d3,by rw[m3];exact e4⟩
    |bk=>cases e4;exact h σ3 W3 ok3 ((l1.trans l2).trans l3) m3 d3
    |rt d=>cases e4;exact h σ3 W3 ok3 ((l1.trans l2).trans l3) m3 d3
end
abbrev GF:=D->En->Mu->Option En
abbrev GsF:=List D->En->Mu->Option En
def tDG(K:PySem.W.Frag)(tb:List Addr)(ts:List Nat)(h:GF):TG:=λv σ H Q=>∃W δ d δ',W.H=H/\WOk K tb W/\gA K tb W δ σ/\Den K tb W d v/\h d δ W.mu=some δ'/\
 ∀σ',gA K tb W δ' σ'->σ'.length=σ.length->(∀i,i∉ts->σ'[i]? =σ[i]?)->Q σ' H
def tDGs(K:PySem.W.Frag)(tb:List Addr)(ts:List Nat)(h:GsF):TGs:=λvs σ H Q=>∃W δ ds δ',W.H=H/\WOk K tb W/\gA K tb W δ σ/\cN K tb W ds vs/\h ds δ W.mu=some δ'/\
 ∀σ',gA K tb W δ' σ'->σ'.length=σ.length->(∀i,i∉ts->σ'[i]? =σ[i]?)->Q σ' H
def PGD(X:Cx)(tb:List Addr)(tg:Expr)(ts:List Nat)(h:GF):Prop:=PG X tg (tDG X.K tb ts h)
def Ho(X:Cx)(tb:List Addr)(tg:List Expr)(ts:List Nat)(h:GsF):Prop:=PGs X tg (tDGs X.K tb ts h)
theorem Kz{X:Cx}{e:Expr}{t t':TG}(h:PG X e t)(k:∀v σ H Q,t' v σ H Q->t v σ H Q):PG X e t':=λpins s σ H v u Q I r hq=>h pins s σ H v u Q I r (k v σ H Q hq)
theorem Gq{X:Cx}{e:List Expr}{t t':TGs}(h:PGs X e t)(k:∀v σ H Q,t' v σ H Q->t v σ H Q):PGs X e t':=λpins s σ H v u Q I r hq=>h pins s σ H v u Q I r (k v σ H Q hq)
def hName(i:Nat):GF:=λd δ _=>some (δ.set i (some d))
def gq:GsF:=λds δ _=>match ds with
 | []=>some δ
 |_=>none
def aY(h:GF)(hs:GsF):GsF:=λds δ μ=>match ds with
 | []=>none
 |d::r=>(h d δ μ).bind λδ1=>hs r δ1 μ
def gn(n:Nat)(hs:GsF):GF:=λd δ μ=>match d with
 | .tup ds=>if ds.length=n then hs ds δ μ else none
 |_=>none
section
variable {X:Cx} {tb:List Addr} {e tg iter elt:Expr} {f:EF} {pos:Pos}
theorem aH{i:Nat}{x:Str}(hN:X.N.Nodup)(hi:X.N[i]? =some x:=by rfl)(hx:Loc X.env.scope x:=by first|exact Or.inl rfl|exact Or.inr rfl)
  (hf:X.fn x=true∨X.env.scope.names.lookup x=some .local:=by first|exact .inl rfl|exact .inr rfl|assumption):PGD X tb (.Name x pos) [i] (hName i):=
 Kz (HB hN hi hx hf) λv σ H Q zq1=>by
  obtain⟨W,δ,d,δ',e,ok,hd,dv,hh,h⟩:=zq1
  cases hh
  refine h _ (hd.set dv) (by rw[List.length_set]) λj hj=>?_
  rw[List.getElem?_set_ne (λz=>hj (by simp[z]))]
theorem cY:Ho X tb [] [] gq:=
 Gq IK λvs σ H Q zq2=>by
  obtain⟨W,δ,ds,δ',e,ok,hd,dv,hh,h⟩:=zq2
  match ds,dv,hh with
  | [],dv,hh=>
   cases hh
   exact⟨az.zero dv,h σ hd rfl λ_ _=>rfl⟩
theorem aV{es:List Expr}{ts us:List Nat}{h:GF}{hs:GsF}(h1:PGD X tb e ts h)(h2:Ho X tb es us hs)
  (ha:(assignEach (e::es) X.env).map (·.2)=assign e X.env::(assignEach es X.env).map (·.2):=by rfl):Ho X tb (e::es) (ts++us) (aY h hs):=
 Gq (Dp h1 h2 ha) λvs σ H Q zq3=>by
  obtain⟨W,δ,ds,δ',e,ok,hd,dv,hh,k⟩:=zq3
  match ds,dv,hh with
  |d::r,dv,hh=>
   obtain⟨δ1,e1,e2⟩:=Za.mp hh
   have dv':az _ _ _ _ _:=dv
   unfold az at dv'
   obtain⟨u,us',rfl,p,q⟩:=dv'
   refine⟨u,us',rfl,W,δ,d,δ1,e,ok,hd,p,e1,λσ1 d1 l1 s1=>⟨W,δ1,r,δ',e,ok,d1,q,e2,λσ2 d2 l2 s2=>?_⟩⟩
   exact k σ2 d2 (l2.trans l1) λi hi=>(s2 i λz=>hi (Zn _ z)).trans (s1 i λz=>hi (List.mem_append_left _ z))
theorem eG{es:List Expr}{k:Nat}{ts:List Nat}{hs:GsF}{n:Nat}(hc:X.calm=true)(h:Ho X tb es ts hs)(hn:(assignEach es X.env).length=n:=by rfl)(hst:(assignEach es X.env).findIdx? (·.1)=none:=by rfl):
  PGD X tb (.Tuple es k pos) ts (gn n hs):=
 Kz (NQ hc h hn hst) λv σ H Q zq4=>by
  obtain⟨W,δ,d,δ',e,ok,hd,dv,hh,k⟩:=zq4
  cases d with
  |tup ds=>
   obtain⟨a,xs,rfl,q,r⟩:=iR dv
   have hh':(if ds.length=n then hs ds δ W.mu else none)=some δ':=hh
   by_cases hl:ds.length=n
   .rw[if_pos hl]at hh'
    have q':SqT X.K H a xs:=by rw[<-e];exact SqT.fz q
    have hl':xs.length=n:=by rw[<-az.length r];exact hl
    exact⟨a,xs,rfl,q',hl',⟨W,δ,ds,δ',e,ok,hd,r,hh',k⟩⟩
   .rw[if_neg hl]at hh';cases hh'
  |_=>cases hh
def yJ(f:EF)(h:GF):SF:=λδ μ=>(f δ μ).bind λr=>(h r.1 δ r.2).bind λδ'=>some (.nx,δ',r.2)
theorem ou{ts:List Nat}{h:GF}(he:PD X tb e f)(hg:PGD X tb tg ts h)(hs:swapsWithSole [tg] e pos.line X.env=pure false:=by rfl)(hw:swappedStores [tg] e X.env=pure none:=by rfl)
  (h1:(assignEach [tg] X.env).map (·.2)=[assign tg X.env]:=by rfl):PSD X tb (.Assign [tg] e pos) (yJ f h):=
 lB (Hg he hg hs hw h1) λE σ H zq5=>by
  obtain⟨W,δ,fl,δ',μ',e,ok,hd,hf,k⟩:=zq5
  unfold yJ at hf
  obtain⟨⟨x,μ1⟩,e1,hf⟩:=Za.mp hf
  obtain⟨δ1,e2,e3⟩:=Za.mp hf
  cases e3
  refine⟨W,δ,x,_,e,ok,hd,e1,λv W1 ok1 l1 m1 d1=>⟨W1,δ,x,_,rfl,ok1,hd.mono' l1,d1,(by rw[m1];exact e2),λσ1 d2 _ _=>?_⟩⟩
  exact k σ1 W1 ok1 l1 m1 d2
structure Src where
 items:List D
 cel:Option Nat
def Src.ok(S:Src)(μ:Mu):Prop:=∀n,S.cel=some n->μ[n]? =some (some S.items)
theorem Src.bL{S:Src}{μ:Mu}(h:S.cel=none):S.ok μ:=λn e=>by rw[h]at e;cases e
abbrev IF:=En->Mu->Option (Src×Mu)
structure qu(K:PySem.W.Frag)(tb:List Addr)(J:It)(S:Src)(W0:Wd):Prop where
 go:∀(i:Nat) W d,Le tb W0 W->WOk K tb W->S.ok W.mu->S.items[i]? =some d->J.go i W.H/\∀x H',J.yld i W.H x H'->∃W',W'.H=H'/\WOk K tb W'/\Le tb W W'/\W'.mu=W.mu/\Den K tb W' d x
 stop:∀(i:Nat) W,Le tb W0 W->WOk K tb W->S.ok W.mu->S.items.length<=i->J.stop i W.H
def tDI(K:PySem.W.Frag)(tb:List Addr)(f:IF):TI:=λσ H R=>∃W δ S μ',W.H=H/\WOk K tb W/\gA K tb W δ σ/\f δ W.mu=some (S,μ')/\
 ∀J W',WOk K tb W'->Le tb W W'->W'.mu=μ'->qu K tb J S W'->R J W'.H
def PID(X:Cx)(tb:List Addr)(tg iter:Expr)(f:IF):Prop:=PI X tg iter (tDI X.K tb f)
theorem Er{w w':TI}(h:PI X tg iter w)(k:∀σ H R,w' σ H R->w σ H R):PI X tg iter w':=λpins s σ H R I hq=>h pins s σ H R I (k σ H R hq)
theorem Ot{l:Expr}{tl:TE}(hl:PE X l tl):PI X tg l (λσ H R=>tl σ H λx H1=>∃a,x= .ref a/\((∃xs,SqL X.K H1 a xs)/\R (Itl X.K a) H1∨(∃xs,SqT X.K H1 a xs)/\R (Itt X.K a) H1)):=by
 intro pins s σ H R I h
 refine thn (hl pins s σ H _ I h) λv s1 zq6=>?_
 obtain⟨x,H1,I1,r1,q1⟩:=zq6
 obtain⟨a,e,q⟩:=q1
 subst e
 cases r1
 rcases q with⟨⟨xs,hq⟩,q⟩|⟨⟨xs,hq⟩,q⟩
 .obtain⟨its,rv,p,hz⟩:=I1.list hq
  refine wpAny_pyIter_list p.isList ?_
  refine⟨s1.heap.objs.size,[s1.heap.objs.size],_,_,H1,rfl,I1.kept (t':=s1.toks) λb o e=>Zb _ e,uD a _,⟨_,Zf _ rfl,rfl,rfl⟩,λb hb=>?_,q⟩
  have e:b=s1.heap.objs.size:=by simpa using hb
  subst e
  exact I1.fpOk (Zg _) (I1.hok.fresh (Zg _))
 .obtain⟨its,rv,p,hz⟩:=I1.tuple hq
  refine wpAny_pyIter_tuple (show s1.heap.IsTuple a its.toArray from p) ?_
  refine⟨s1.heap.objs.size,[s1.heap.objs.size],_,_,H1,rfl,I1.kept (t':=s1.toks) λb o e=>Zb _ e,sZ a _,⟨_,Zf _ rfl,rfl,rfl⟩,λb hb=>?_,q⟩
  have e:b=s1.heap.objs.size:=by simpa using hb
  subst e
  exact I1.fpOk (Zg _) (I1.hok.fresh (Zg _))
def srcOf(d:D)(μ:Mu):Option Src:=match d with
 | .tup ds=>some ⟨ds,none⟩
 | .lst ds=>some ⟨ds,none⟩
 | .cell n=>match μ[n]? with
  |some (some ds)=>some ⟨ds,some n⟩
  |_=>none
 |_=>none
theorem DQ{K:PySem.W.Frag}{W0:Wd}{a:Addr}{xs:List V}{ds:List D}(q:SqL K (W0.fz tb) a xs)(r:cN K tb W0 ds xs):qu K tb (Itl K a) ⟨ds,none⟩ W0 where
 go:=λi W d l ok _ e=>by
  have q':SqL K W.H a xs:=SqL.fz (SqL.mono l.same q)
  obtain⟨v,ev,dv⟩:=az.get (cN.mono' r l) e
  exact⟨⟨xs,v,q',ev⟩,λx H' ⟨e1,e2⟩=>⟨W,e1.symm,ok,Le.refl _,rfl,by have:=e2 xs q';rw[ev]at this;cases this;exact dv⟩⟩
 stop:=λi W l ok _ hi=>⟨xs,SqL.fz (SqL.mono l.same q),by rw[<-az.length r];exact hi⟩
theorem Gj{K:PySem.W.Frag}{W0:Wd}{a:Addr}{xs:List V}{ds:List D}(q:SqT K (W0.fz tb) a xs)(r:cN K tb W0 ds xs):qu K tb (Itt K a) ⟨ds,none⟩ W0 where
 go:=λi W d l ok _ e=>by
  have q':SqT K W.H a xs:=SqT.fz (SqT.mono l.same q)
  obtain⟨v,ev,dv⟩:=az.get (cN.mono' r l) e
  exact⟨⟨xs,v,q',ev⟩,λx H' ⟨e1,e2⟩=>⟨W,e1.symm,ok,Le.refl _,rfl,by have:=e2 xs q';rw[ev]at this;cases this;exact dv⟩⟩
 stop:=λi W l ok _ hi=>⟨xs,SqT.fz (SqT.mono l.same q),by rw[<-az.length r];exact hi⟩
theorem Ly{K:PySem.W.Frag}{W0:Wd}{a:Addr}{n:Nat}{ds:List D}(q:W0.ad[n]? =some a):qu K tb (Itl K a) ⟨ds,some n⟩ W0 where
 go:=λi W d l ok hs e=>by
  obtain⟨xs,ex,r⟩:=ok.cont n a ds (l.ad _ _ q) (hs n rfl)
  obtain⟨v,ev,dv⟩:=az.get r e
  exact⟨⟨xs,v,SqL.of ex,ev⟩,λx H' ⟨e1,e2⟩=>⟨W,e1.symm,ok,Le.refl _,rfl,by have:=e2 xs (SqL.of ex);rw[ev]at this;cases this;exact dv⟩⟩
 stop:=λi W l ok hs hi=>by
  obtain⟨xs,ex,r⟩:=ok.cont n a ds (l.ad _ _ q) (hs n rfl)
  exact⟨xs,SqL.of ex,by rw[<-az.length r];exact hi⟩
def cV(f:EF):IF:=λδ μ=>(f δ μ).bind λr=>(srcOf r.1 r.2).map λS=>(S,r.2)
theorem bT(he:PD X tb e f):PID X tb tg e (cV f):=
 Er (Ot he) λσ H R zq7=>by
  obtain⟨W,δ,S,μ',e,ok,hd,hf,h⟩:=zq7
  unfold cV at hf
  obtain⟨⟨x,μ1⟩,e1,hf⟩:=Za.mp hf
  obtain⟨S',e2,e3⟩:=Zp.mp hf
  cases e3
  refine⟨W,δ,x,_,e,ok,hd,e1,λv W1 ok1 l1 m1 d1=>?_⟩
  cases x with
  |tup ds=>
   cases e2
   obtain⟨a,xs,rfl,q,r⟩:=iR d1
   exact⟨a,rfl,.inr ⟨⟨xs,SqT.fz q⟩,h _ W1 ok1 l1 m1 (Gj q r)⟩⟩
  |lst ds=>
   cases e2
   obtain⟨a,xs,rfl,q,r⟩:=kE d1
   exact⟨a,rfl,.inl ⟨⟨xs,SqL.fz q⟩,h _ W1 ok1 l1 m1 (DQ q r)⟩⟩
  |cell n=>
   obtain⟨a,rfl,q⟩:=gj d1
   have e2':(match μ1[n]? with|some (some ds)=>some (⟨ds,some n⟩:Src)|_=>none)=some S:=e2
   cases e4:μ1[n]? with
   |none=>rw[e4]at e2';cases e2'
   |some o=>
    cases o with
    |none=>rw[e4]at e2';cases e2'
    |some ds=>
     rw[e4]at e2'
     cases e2'
     obtain⟨xs,ex,_⟩:=ok1.cont n a ds q (by rw[m1];exact e4)
     exact⟨a,rfl,.inl ⟨⟨xs,SqL.of ex⟩,h _ W1 ok1 l1 m1 (Ly q)⟩⟩
  |_=>cases e2
def cQ(lo:Int)(n:Nat):List D:=(List.range n).map λ(k:Nat)=>D.int (lo+(k:Int))
theorem Mg{K:PySem.W.Frag}{W0:Wd}{lo:Int}{n:Nat}:qu K tb (Itr lo n) ⟨cQ lo n,none⟩ W0 where
 go:=λi W d l ok _ e=>by
  unfold cQ at e
  rw[List.getElem?_map]at e
  by_cases hi:i<n
  .rw[List.getElem?_range hi]at e
   cases e
   exact⟨hi,λx H' ⟨e1,e2⟩=>⟨W,e1.symm,ok,Le.refl _,rfl,by rw[e2];exact dI⟩⟩
  .rw[List.getElem?_eq_none (by simpa using hi)]at e;cases e
 stop:=λi W l ok _ hi=>by
  unfold cQ at hi
  have hi':n<=i:=by simpa using hi
  exact hi'
def bV(fs:AF):IF:=λδ μ=>(fs δ μ).bind λr=>match r.1 with
 | [.int j]=>if -(2 ^ 62)<=j/\j<2 ^ 62 then some (⟨cQ 0 j.toNat,none⟩,r.2)else none
 |_=>none
theorem cJ{a:Expr}{fs:AF}{p:Pos}(hm:X.mg "range"=none)(ha:PAD X tb [a] fs)(hg:Gl X "range":=by rfl)(hs:starEach [a] X.env=[(false,eval a X.env)]:=by rfl):PID X tb tg (.Call (.Name "range" p) [a] [] pos) (bV fs):=
 Er (Cy hg hm ha hs) λσ H R zq8=>by
  obtain⟨W,δ,S,μ',e,ok,hd,hf,h⟩:=zq8
  unfold bV at hf
  obtain⟨⟨xs,μ1⟩,e1,e2⟩:=Za.mp hf
  match xs,e1,e2 with
  | [.int j],e1,e2=>
   have e2':(if -(2 ^ 62)<=j/\j<2 ^ 62 then some ((⟨cQ 0 j.toNat,none⟩:Src),μ1)else none)=some (S,μ'):=e2
   split at e2'
   .rename_i hj
    cases e2'
    refine⟨W,δ,_,_,e,ok,hd,e1,λvs W1 ok1 l1 m1 d1=>?_⟩
    obtain⟨u,rfl,du⟩:=az.one d1
    rw[bB du]
    exact⟨j,rfl,hj.1,hj.2,h _ W1 ok1 l1 m1 Mg⟩
   .cases e2'
open Classical in
noncomputable def forL(S:Src)(h:GF)(b:SF):List D->SF
 | [],δ,μ=>if S.ok μ then some (.nx,δ,μ)else none
 |d::r,δ,μ=>if S.ok μ then(h d δ μ).bind λδ1=>(b δ1 μ).bind λq=>match q.1 with
  | .nx=>forL S h b r q.2.1 q.2.2
  | .ct=>forL S h b r q.2.1 q.2.2
  | .bk=>some (.nx,q.2)
  | .rt d=>some (.rt d,q.2)
  else none
noncomputable def jw(f:IF)(h:GF)(b:SF):SF:=λδ μ=>(f δ μ).bind λr=>forL r.1 h b r.1.items δ r.2
theorem gP{body:List Stmt}{fi:IF}{ts:List Nat}{h:GF}{b:SF}(hp:PassesOwn (model X.prog X.w) X.A X.env X.xe)(hc:X.calm=true)(hi:PID X tb tg iter fi)(hg:PGD X tb tg ts h)(hb:tM X tb body b)
  (hs:∀x,foldedSetIterable iter X.env x=pure x:=by intro _;rfl):PSD X tb (.For tg iter body [] pos) (jw fi h b):=
 lB (Nt hp hc hi hg hb hs) λE σ H zq10=>by
  obtain⟨W,δ,fl,δ',μ',e,ok,hd,hf,k⟩:=zq10
  unfold jw at hf
  obtain⟨⟨S,μ1⟩,e1,e2⟩:=Za.mp hf
  refine⟨W,δ,S,μ1,e,ok,hd,e1,λJ W1 ok1 l1 m1 io=>?_⟩
  refine⟨λi m σ2 H2=>m=S.items.length-i/\i<=S.items.length/\∃W2 δ2,W2.H=H2/\WOk X.K tb W2/\Le tb W1 W2/\gA X.K tb W2 δ2 σ2/\forL S h b (S.items.drop i) δ2 W2.mu=some (fl,δ',μ'),
   ⟨S.items.length,rfl,Nat.zero_le _,W1,δ,rfl,ok1,Le.refl _,hd.mono' l1,by rw[m1];exact e2⟩,?_⟩
  rintro i m σ2 H2 ⟨hm,hi',W2,δ2,rfl,ok2,l2,d2,hn⟩
  by_cases hlt:i<S.items.length
  .right
   have hdr:S.items.drop i=S.items[i]::S.items.drop (i+1):=List.drop_eq_getElem_cons hlt
   rw[hdr]at hn
   unfold forL at hn
   split at hn
   .rename_i hok
    obtain⟨δ3,e3,hn⟩:=Za.mp hn
    obtain⟨⟨fl4,δ4,μ4⟩,e4,e5⟩:=Za.mp hn
    obtain⟨go,yl⟩:=io.go i W2 S.items[i] l2 ok2 hok (by simp[hlt])
    refine⟨go,λσ5 H5=>∃W5,W5.H=H5/\WOk X.K tb W5/\Le tb W1 W5/\gA X.K tb W5 δ4 σ5/\forL S h b (S.items.drop (i+1)) δ4 W5.mu=some (fl,δ',μ'),λσ5 H5 ⟨W5,q1,q2,q3,q4,q5⟩=>⟨S.items.length-(i+1),by omega,rfl,hlt,W5,δ4,q1,q2,q3,q4,q5⟩,λx H' y=>?_⟩
    obtain⟨W3,rfl,ok3,l3,m3,d3⟩:=yl x H' y
    refine⟨W3,δ2,S.items[i],δ3,rfl,ok3,d2.mono' l3,d3,(by rw[m3];exact e3),λσ3 d3' _ _=>?_⟩
    refine⟨W3,δ3,fl4,δ4,μ4,rfl,ok3,d3',(by rw[m3];exact e4),λσ4 W4 ok4 l4 m4 d4=>?_⟩
    cases fl4 with
    |nx=>exact⟨W4,rfl,ok4,(l2.trans l3).trans l4,d4,by rw[m4];exact e5⟩
    |ct=>exact⟨W4,rfl,ok4,(l2.trans l3).trans l4,d4,by rw[m4];exact e5⟩
    |bk=>cases e5;exact k σ4 W4 ok4 (((l1.trans l2).trans l3).trans l4) m4 d4
    |rt d=>cases e5;exact k σ4 W4 ok4 (((l1.trans l2).trans l3).trans l4) m4 d4
   .cases hn
  .left
   have hdr:S.items.drop i=[]:=List.drop_of_length_le (by omega)
   rw[hdr]at hn
   unfold forL at hn
   split at hn
   .rename_i hok
    have hn':some (Fl.nx,δ2,W2.mu)=some (fl,δ',μ'):=hn
    cases hn'
    exact⟨io.stop i W2 l2 ok2 hok (by omega),k σ2 W2 ok2 (l1.trans l2) rfl d2⟩
   .cases hn
abbrev LF:=En->Mu->Option (List D×Mu)
def tDN(K:PySem.W.Frag)(tb:List Addr)(f:LF):TE:=λσ H Q=>∃W δ ds μ',W.H=H/\WOk K tb W/\gA K tb W δ σ/\f δ W.mu=some (ds,μ')/\
 ∀p vs W',WOk K tb W'->Le tb W W'->W'.mu=μ'->W'.H p=none->cN K tb W' ds vs->Q (.ref p) (upd W'.H p (.lst vs))
def PDN(X:Cx)(tb:List Addr)(e:Expr)(f:LF):Prop:=PE X e (tDN X.K tb f)
def mFz(f:LF):EF:=λδ μ=>(f δ μ).bind λr=>some (.lst r.1,r.2)
def oG(f:LF):EF:=λδ μ=>(f δ μ).bind λr=>some (.cell r.2.length,r.2++[some r.1])
theorem bY{f:LF}(h:PDN X tb e f):PD X tb e (mFz f):=eZ h λσ H Q zq11=>by
 obtain⟨W,δ,d,μ',e,ok,hd,hf,k⟩:=zq11
 unfold mFz at hf
 obtain⟨⟨ds,μ1⟩,e1,e2⟩:=Za.mp hf
 cases e2
 refine⟨W,δ,ds,_,e,ok,hd,e1,λp vs W1 ok1 l1 m1 hp r=>?_⟩
 exact jb ok1 (λv W' ok' l' m' d'=>k v W' ok' (l1.trans l') (m'.trans m1) d') r hp
theorem km{f:LF}(h:PDN X tb e f):PD X tb e (oG f):=eZ h λσ H Q zq12=>by
 obtain⟨W,δ,d,μ',e,ok,hd,hf,k⟩:=zq12
 unfold oG at hf
 obtain⟨⟨ds,μ1⟩,e1,e2⟩:=Za.mp hf
 cases e2
 refine⟨W,δ,ds,μ1,e,ok,hd,e1,λp vs W1 ok1 l1 m1 hp r=>?_⟩
 obtain⟨ok2,l2,d2⟩:=ok1.new hp r
 exact k _ _ ok2 (l1.trans l2) (by show W1.mu++[some ds]=_;rw[m1]) (by rw[<-m1];exact d2)
def oR(fs:AF):LF:=λδ μ=>(fs δ μ).bind λr=>if r.1.length<=sizeLine then some r else none
theorem jW{es:List Expr}{fs:AF}(h:PAD X tb es fs):PDN X tb (.List es pos) (oR fs):=eZ (Dm h) λσ H Q zq13=>by
 obtain⟨W,δ,ds,μ',e,ok,hd,hf,k⟩:=zq13
 unfold oR at hf
 obtain⟨⟨xs,μ1⟩,e1,e2⟩:=Za.mp hf
 split at e2
 .rename_i hl
  cases e2
  exact⟨W,δ,_,_,e,ok,hd,e1,λvs W1 ok1 l1 m1 d1=>⟨by rw[<-az.length d1];exact hl,λp hp=>k p vs W1 ok1 l1 m1 hp d1⟩⟩
 .cases e2
def bU(own:List Str)(δ:En)(capI:List Nat):En:=List.replicate own.length none++capI.map λi=>(δ[i]?).join
theorem qF{K:PySem.W.Frag}{W:Wd}{own:List Str}{capI:List Nat}{δ:En}{σ:SV}(h:gA K tb W δ σ):gA K tb W (bU own δ capI) (bz own σ capI):=by
 refine⟨by unfold bU bz su;simp,λi d e=>?_⟩
 unfold bU at e
 unfold bz su
 by_cases hi:i<own.length
 .rw[Zs (by simpa using hi),List.getElem?_replicate]at e
  split at e<;>cases e
 .rw[List.getElem?_append_right (by simpa using hi),List.getElem?_map]at e
  rw[List.getElem?_append_right (by simpa using hi),List.getElem?_map]
  rw[List.length_replicate]at e ⊢
  cases q:capI[i-own.length]? with
  |none=>rw[q]at e;cases e
  |some j=>
   rw[q]at e
   have e':(δ[j]?).join=some d:=by simpa using e
   cases q2:δ[j]? with
   |none=>rw[q2]at e';cases e'
   |some o=>
    rw[q2]at e'
    have e2:o=some d:=e'
    subst e2
    obtain⟨v,ev,dv⟩:=h.2 j d q2
    exact⟨v,by simp[ev],dv⟩
theorem fits_of{own:List Str}{capI:List Nat}{σ σ':SV}{ts:List Nat}(hts:∀i∈ts,i<own.length)(hl:σ'.length=(bz own σ capI).length)(h:∀i,i∉ts->σ'[i]? =(bz own σ capI)[i]?):Fits (bz own σ capI) σ':=
 ⟨hl,λi v e=>by
  rw[h i λz=>?_]
  .exact e
  .unfold bz at e
   rw[Zs (by simpa using hts i z),List.getElem?_replicate]at e
   split at e<;>cases e⟩
open Classical in
noncomputable def lcL(S:Src)(h:GF)(tt:TF)(fe:EF)(δb:En):List D->Mu->Option (List D×Mu)
 | [],μ=>if S.ok μ then some ([],μ)else none
 |d::r,μ=>if S.ok μ then(h d δb μ).bind λδ1=>(tt δ1 μ).bind λk=>if k.1=true then(fe δ1 k.2).bind λy=>(lcL S h tt fe δb r y.2).bind λys=>some (y.1::ys.1,ys.2)else lcL S h tt fe δb r k.2 else none
noncomputable def lLC(own:List Str)(capI:List Nat)(fi:IF)(h:GF)(tt:TF)(fe:EF):LF:=λδ μ=>(fi δ μ).bind λr=>if r.1.items.length<=sizeLine then lcL r.1 h tt fe (bU own δ capI) r.1.items r.2 else none
def Gu(X:Cx)(tb:List Addr)(ifs:List Expr)(t:TF):Prop:=PIf X ifs (tDT X.K tb t)
def aR:TF:=λ_ μ=>some (true,μ)
theorem NP{X:Cx}{e:List Expr}{t t':TT}(h:PIf X e t)(k:∀σ H Q,t' σ H Q->t σ H Q):PIf X e t':=λpins s σ H Q I hq=>h pins s σ H Q I (k σ H Q hq)
theorem bu:Gu X tb [] aR:=NP Ia λσ H Q zq14=>by
 obtain⟨W,δ,k,μ',e,ok,hd,hf,h⟩:=zq14
 subst e;cases hf
 exact h W ok (Le.refl _) rfl
theorem cM{ifs:List Expr}{fi:IF}{h:GF}{tt:TF}{fe:EF}{own cap:List Str}{capI ts:List Nat}{scope:Scope}(hc:X.calm=true)(B:eY X own cap capI scope)(hown:∀x∈own,(x,NameKind.free)∉scope.names)(hi:PID X tb tg iter fi)
  (hg:∀cs C fp s2 H2,PGD (dF X own cap scope cs C fp s2 H2) tb tg ts h) (ht:∀cs C fp s2 H2,Gu (dF X own cap scope cs C fp s2 H2) tb ifs tt) (he:∀cs C fp s2 H2,PD (dF X own cap scope cs C fp s2 H2) tb elt fe)
  (hts:∀i∈ts,i<own.length:=by decide) (hs:∀x,foldedSetIterable iter X.env x=pure x:=by intro _;rfl):PDN X tb (.ListComp elt [⟨tg,iter,ifs,0⟩] scope pos) (lLC own capI fi h tt fe):=
 eZ (Rf (g:=tDG X.K tb ts h) (tt:=tDT X.K tb tt) (te:=tD X.K tb fe) hc B hown hi hg ht he hs) λσ H Q zq15=>by
  obtain⟨W,δ,ds,μ',e,ok,hd,hf,k⟩:=zq15
  unfold lLC at hf
  obtain⟨⟨S,μ1⟩,e1,e2⟩:=Za.mp hf
  split at e2
  .rename_i hz
   refine⟨W,δ,S,μ1,e,ok,hd,e1,λJ W1 ok1 l1 m1 io=>?_⟩
   refine⟨λi m ys H2=>m=S.items.length-i/\i<=S.items.length/\ys.length<=i/\∃W2 zs rs,W2.H=H2/\WOk X.K tb W2/\Le tb W1 W2/\cN X.K tb W2 zs ys/\lcL S h tt fe (bU own δ capI) (S.items.drop i) W2.mu=some (rs,μ')/\zs++rs=ds,
    ⟨S.items.length,rfl,Nat.zero_le _,Nat.zero_le _,W1,[],ds,rfl,ok1,Le.refl _,az.nil,by rw[m1];exact e2,rfl⟩,?_⟩
   rintro i m ys H2 ⟨hm,hi',hy,W2,zs,rs,rfl,ok2,l2,d2,hn,hzs⟩
   by_cases hlt:i<S.items.length
   .right
    have hdr:S.items.drop i=S.items[i]::S.items.drop (i+1):=List.drop_eq_getElem_cons hlt
    rw[hdr]at hn
    unfold lcL at hn
    split at hn
    .rename_i hok
     obtain⟨δ3,e3,hn⟩:=Za.mp hn
     obtain⟨⟨kk,μ4⟩,e4,hn⟩:=Za.mp hn
     obtain⟨go,yl⟩:=io.go i W2 S.items[i] l2 ok2 hok (by simp[hlt])
     refine⟨go,Zc (Nat.lt_of_le_of_lt hy hlt) hz,λx H' y=>?_⟩
     obtain⟨W3,rfl,ok3,l3,m3,d3⟩:=yl x H' y
     refine⟨W3,bU own δ capI,S.items[i],δ3,rfl,ok3,(qF hd).mono' ((l1.trans l2).trans l3),d3,(by rw[m3];exact e3),λσ3 d3' hl3 ht3=>⟨fits_of hts hl3 ht3,?_⟩⟩
     refine⟨W3,δ3,kk,μ4,rfl,ok3,d3',(by rw[m3];exact e4),λW4 ok4 l4 m4=>?_⟩
     cases kk with
     |false=>
      rw[if_neg Zr]
      exact⟨S.items.length-(i+1),by omega,rfl,hlt,by omega,W4,zs,rs,rfl,ok4,(l2.trans l3).trans l4,cN.mono' d2 (l3.trans l4),by rw[m4];exact hn,hzs⟩
     |true=>
      rw[if_pos rfl]
      have hn':((fe δ3 μ4).bind λy=>(lcL S h tt fe (bU own δ capI) (S.items.drop (i+1)) y.2).bind λys=>some (y.1::ys.1,ys.2))=some (rs,μ'):=hn
      obtain⟨⟨yd,μ5⟩,e5,hn'⟩:=Za.mp hn'
      obtain⟨⟨rs',μ6⟩,e6,e7⟩:=Za.mp hn'
      cases e7
      refine⟨W4,δ3,yd,μ5,rfl,ok4,d3'.mono' l4,(by rw[m4];exact e5),λv W5 ok5 l5 m5 d5=>?_⟩
      refine⟨S.items.length-(i+1),by omega,rfl,hlt,by rw[List.length_append];simp;omega,W5,zs++[yd],rs',rfl,ok5,((l2.trans l3).trans l4).trans l5,az.append (cN.mono' d2 ((l3.trans l4).trans l5)) (az.cons d5 az.nil),by rw[m5];exact e6,by rw[List.append_assoc];exact hzs⟩
    .cases hn
   .left
    have hdr:S.items.drop i=[]:=List.drop_of_length_le (by omega)
    rw[hdr]at hn
    unfold lcL at hn
    split at hn
    .rename_i hok
     cases hn
     rw[List.append_nil]at hzs
     subst hzs
     exact⟨io.stop i W2 l2 ok2 hok (by omega),λl hl=>k l ys W2 ok2 (l1.trans l2) rfl hl d2⟩
    .cases hn
  .cases e2
end
end L3
namespace L2
open PySem PySem.Spec PyProof.Rows
theorem zQ{X:Cx}{pins:List (Addr×Obj)}{σ:L2.St}{H:Hp}{s:Shared}(I:Inv X pins σ H s)(hc:X.calm=true){A':Around}(h1:A'.handled=X.A.handled)(h2:A'.frames=X.A.frames):A'.handled=none/\A'.frames=some X.stack:=
 ⟨h1.trans (I.ok.hd hc),h2.trans I.ok.frames⟩
theorem vh{X:Cx}{e:Expr}{pos:Pos}{s:Shared}{Q:List Value->Shared->Prop}(h:wpAny (model X.prog X.w) X.A (eval e X.env) (λu s1=>Q [u] s1) X.xe s)(hs:starEach [e] X.env=(false,eval e X.env)::starEach [] X.env:=by rfl):
  wpAny (model X.prog X.w) X.A (spliced (backTo pos (starEach [e] X.env))) Q X.xe s:=by
 rw[hs]
 show wpAny _ _ (spliced ((false,eval e X.env)::backTo pos (starEach [] X.env))) _ _ s
 exact Calls.spliced_cons (thn h λu s1 q=>Calls.spliced_nil q)
def Df(y:V)(k:Bool):Prop:=y= .bl k∨∃i,y= .int i/\k=(i != 0)
theorem Ay{P:Program}{w:World}{A:Around}{E:Value->Shared->Prop}{s:Shared}{y:V}{v:Value}{k:Bool}{Q:Bool->Shared->Prop}(r:RelV y v)(h:Df y k)(hq:Q k s):wpAny (model P w) A (truthy v) Q E s:=by
 rcases h with rfl|⟨i,rfl,rfl⟩
 .cases r;exact wpAny_truthy_bool hq
 .obtain⟨t,rfl⟩:=r;exact PySem.P.truthy_int hq
theorem xu{M:Model}{A:Around}{E:Value->Shared->Prop}{s:Shared}{t:Sem (Option Value)}{P:Value->Shared->Prop}{f:Value->Sem Unit}(hf:∀u,f u=pure ())
  (h:wpAny M A t (λr s1=>∃u,r=some u/\wpAny M A (f u) (λ_ s2=>P u s2) E s1) E s):wpAny M A t (λr s1=>∃u,r=some u/\P u s1) E s:=λΓ p hΓ=>
 Sem.wp_mono M Γ t (λa p' s ⟨u,e,q⟩=>⟨u,e,by rw[hf]at q;exact q Γ p' hΓ⟩) (λ_ _ _ e=>e) p s (h Γ p hΓ)
section
variable {X:Cx} {e:Expr} {ts:pJ} {p pos:Pos} {pins:List (Addr×Obj)} {σ:L2.St}
def Rg(ts:pJ):TE:=λσ H Q=>ts σ H λS H1=>∃W:Nat->Nat->Hp->Prop,(∃m,W 0 m H1)/\∀i m H,W i m H->
 S.fin i H (λH'=>Q (.bl true) H')∨S.nxt i H λy H'=>∃k,Df y k/\if k=true then∃m',m'<m/\W (i+1) m' H' else Q (.bl false) H'
def Qz(ts:pJ):TE:=λσ H Q=>ts σ H λS H1=>∃W:Nat->Nat->Hp->Prop,(∃m,W 0 m H1)/\∀i m H,W i m H->
 S.fin i H (λH'=>Q (.bl false) H')∨S.nxt i H λy H'=>∃k,Df y k/\if k=true then Q (.bl true) H' else∃m',m'<m/\W (i+1) m' H'
theorem DP{it:Addr}{lo:Nat}{S:oX}{SS:List (Addr×Obj)->Nat->Hp->Shared->Prop}{Q:VK}{W:Nat->Nat->Hp->Prop}(sm:tG X pins σ X.A.in1 it lo S SS)
  (st:∀i m H,W i m H->S.fin i H (λH'=>Q (.bl true) H')∨S.nxt i H λy H'=>∃k,Df y k/\if k=true then∃m',m'<m/\W (i+1) m' H' else Q (.bl false) H'):
  ∀(m i:Nat)(H:Hp)(s:Shared),SS [] i H s->W i m H->codeAny (model X.prog X.w) X.A (.builtin "all.loop" ⟨[.ref it],[]⟩) (λr s'=>∃u,r= .ok (.ret u)/\EP X pins σ Q u s') s:=by
 intro m
 induction m using Nat.strongRecOn with
 |ind m ih=>
  intro i H s hs hw
  refine codeAny_builtin F.entry_all_loop ?_
  rw[Around.under_plainId F.plain_all_loop _]
  show wpAny _ X.A.in1 (pyNext (.ref it) >>= _) _ _ s
  rcases st i m H hw with hf|hn
  .refine wpAny_bind (wpAny_mono (sm.stop (λ_ _=>False) hs hf) (λr s1 ⟨hr,H1,q,I1⟩=>?_) λ_ _ z=>z.elim)
   subst hr
   refine wpAny_bind (wpAny_rule (wpAny_pure ⟨_,rfl,.bl true,H1,?_,rfl,q⟩))
   rw[List.append_nil]at I1
   exact I1
  .refine wpAny_bind (wpAny_mono (sm.next (λ_ _=>False) hs hn) (λr s1 ⟨u,y,H',hr,ry,⟨k,tk,q⟩,hs'⟩=>?_) λ_ _ z=>z.elim)
   subst hr
   refine wpAny_bind (wpAny_holding (Ay ry tk ?_))
   refine wpAny_bind (wpAny_letGo ?_)
   cases k with
   |true=>
    simp only[if_true]
    rw[if_pos rfl]at q
    obtain⟨m',hm,hw'⟩:=q
    exact wpAny_pure ⟨plainId_quiet F.plain_all_loop _,ih m' hm (i+1) H' s1 hs' hw'⟩
   |false=>
    simp only[Bool.false_eq_true,if_false]
    rw[if_neg Zr]at q
    refine wpAny_bind (wpAny_rule (wpAny_pure ⟨_,rfl,.bl false,H',?_,rfl,q⟩))
    have I1:=sm.inv hs'
    rw[List.append_nil]at I1
    exact I1
theorem Hi{it:Addr}{lo:Nat}{S:oX}{SS:List (Addr×Obj)->Nat->Hp->Shared->Prop}{Q:VK}{W:Nat->Nat->Hp->Prop}(sm:tG X pins σ X.A.in1 it lo S SS)
  (st:∀i m H,W i m H->S.fin i H (λH'=>Q (.bl false) H')∨S.nxt i H λy H'=>∃k,Df y k/\if k=true then Q (.bl true) H' else∃m',m'<m/\W (i+1) m' H'):
  ∀(m i:Nat)(H:Hp)(s:Shared),SS [] i H s->W i m H->codeAny (model X.prog X.w) X.A (.builtin "any.loop" ⟨[.ref it],[]⟩) (λr s'=>∃u,r= .ok (.ret u)/\EP X pins σ Q u s') s:=by
 intro m
 induction m using Nat.strongRecOn with
 |ind m ih=>
  intro i H s hs hw
  refine codeAny_builtin F.entry_any_loop ?_
  rw[Around.under_plainId F.plain_any_loop _]
  show wpAny _ X.A.in1 (pyNext (.ref it) >>= _) _ _ s
  rcases st i m H hw with hf|hn
  .refine wpAny_bind (wpAny_mono (sm.stop (λ_ _=>False) hs hf) (λr s1 ⟨hr,H1,q,I1⟩=>?_) λ_ _ z=>z.elim)
   subst hr
   refine wpAny_bind (wpAny_rule (wpAny_pure ⟨_,rfl,.bl false,H1,?_,rfl,q⟩))
   rw[List.append_nil]at I1
   exact I1
  .refine wpAny_bind (wpAny_mono (sm.next (λ_ _=>False) hs hn) (λr s1 ⟨u,y,H',hr,ry,⟨k,tk,q⟩,hs'⟩=>?_) λ_ _ z=>z.elim)
   subst hr
   refine wpAny_bind (wpAny_holding (Ay ry tk ?_))
   refine wpAny_bind (wpAny_letGo ?_)
   cases k with
   |false=>
    simp only[Bool.false_eq_true,if_false]
    rw[if_neg Zr]at q
    obtain⟨m',hm,hw'⟩:=q
    exact wpAny_pure ⟨plainId_quiet F.plain_any_loop _,ih m' hm (i+1) H' s1 hs' hw'⟩
   |true=>
    simp only[if_true]
    rw[if_pos rfl]at q
    refine wpAny_bind (wpAny_rule (wpAny_pure ⟨_,rfl,.bl true,H',?_,rfl,q⟩))
    have I1:=sm.inv hs'
    rw[List.append_nil]at I1
    exact I1
theorem Jl(hc:X.calm=true)(hm:X.mg "all"=none)(hstr:xj X e ts)(hg:Gl X "all":=by rfl)(hs:starEach [e] X.env=(false,eval e X.env)::starEach [] X.env:=by rfl):PE X (.Call (.Name "all" p) [e] [] pos) (Rg ts):=by
 intro pins s σ H Q I h
 refine wpAny_Call_Name_kw (lZ I hg hm boot_all ?_ (by decide) (by decide))
 refine PyProof.Rows.callWith_builtin1 (vh (thn (hstr pins s σ H _ I h) λu s1 ⟨S,H1,I1,rdy,W,⟨m,w0⟩,st⟩=>?_) hs) hs rfl
 refine call_function_tree F.kind_all F.plain_all F.entry_all (F.args_all1 _) ?_
 unfold Builtin.«all»
 refine wpAny_bind (m:=oneArg "all" _) (wpAny_pure ?_)
 obtain⟨a1,a2⟩:=zQ I1 hc (A':=X.A.in1) rfl rfl
 refine wpAny_bind (wpAny_mono (rdy X.A.in1 (λ_ _=>False) a1 a2 (Nat.le_succ _) (by show X.A.units+1<=_;omega)) (λitv s2 ⟨it,lo,SS,e,sm,s0,_⟩=>?_) λ_ _ z=>z.elim)
 subst e
 refine wpAny_pure ⟨plainId_quiet F.plain_all_loop _,codeAny_mono (DP sm st m 0 H1 s2 s0 w0) λr s' ⟨u,hr,q⟩=>?_⟩
 subst hr
 exact q
theorem Hz(hc:X.calm=true)(hm:X.mg "any"=none)(hstr:xj X e ts)(hg:Gl X "any":=by rfl)(hs:starEach [e] X.env=(false,eval e X.env)::starEach [] X.env:=by rfl):PE X (.Call (.Name "any" p) [e] [] pos) (Qz ts):=by
 intro pins s σ H Q I h
 refine wpAny_Call_Name_kw (lZ I hg hm boot_any ?_ (by decide) (by decide))
 refine PyProof.Rows.callWith_builtin1 (vh (thn (hstr pins s σ H _ I h) λu s1 ⟨S,H1,I1,rdy,W,⟨m,w0⟩,st⟩=>?_) hs) hs rfl
 refine call_function_tree F.kind_any F.plain_any F.entry_any (F.args_any1 _) ?_
 unfold Builtin.«any»
 refine wpAny_bind (m:=oneArg "any" _) (wpAny_pure ?_)
 obtain⟨a1,a2⟩:=zQ I1 hc (A':=X.A.in1) rfl rfl
 refine wpAny_bind (wpAny_mono (rdy X.A.in1 (λ_ _=>False) a1 a2 (Nat.le_succ _) (by show X.A.units+1<=_;omega)) (λitv s2 ⟨it,lo,SS,e,sm,s0,_⟩=>?_) λ_ _ z=>z.elim)
 subst e
 refine wpAny_pure ⟨plainId_quiet F.plain_any_loop _,codeAny_mono (Hi sm st m 0 H1 s2 s0 w0) λr s' ⟨u,hr,q⟩=>?_⟩
 subst hr
 exact q
def Ar(J:It):oX:=⟨λi H Q=>J.go i H/\∀x H',J.yld i H x H'->Q x H',λi H Q=>J.stop i H/\Q H⟩
theorem ue{A':Around}{it:Addr}{fp:List Addr}{tn:Nat->Heap->Prop}{J:It}{H:Hp}{s:Shared}(hc:X.calm=true)(hP:A'.handled=none)(hf:A'.frames=some X.stack)
  (T:Turn X.prog X.w X.K (.Name "x" ⟨0,0,0,0⟩) J fp it tn) (I:Inv X pins σ H s) (st:tn 0 s.heap) (fk:∀b∈fp,jk X pins H b):
  ∃lo SS,tG X pins σ A' it lo (Ar J) SS/\SS [] 0 H s/\lo<=s.heap.objs.size:=by
 have toA:∀{P:List (Addr×Obj)}{H:Hp}{s:Shared},Inv X P σ H s->Inv ({ X with A:=A'}:Cx) P σ H s:=λI=>
  ⟨⟨I.ok.mod,I.ok.kind,I.ok.glob,I.ok.blt,I.ok.above,I.ok.inj,I.ok.has,I.ok.cab,λ_=>hP,hf,I.ok.stk,I.ok.exf,I.ok.bs,I.ok.bsz,I.ok.noex,I.ok.exfs,I.ok.funs,I.ok.frf⟩,I.os,I.bare,I.base,I.loc,I.cell,I.free,I.freeC,I.pin,I.hok,I.len⟩
 have ofA:∀{P:List (Addr×Obj)}{H:Hp}{s:Shared},X.Ok->Inv ({ X with A:=A'}:Cx) P σ H s->Inv X P σ H s:=λok I=>
  ⟨ok,I.os,I.bare,I.base,I.loc,I.cell,I.free,I.freeC,I.pin,I.hok,I.len⟩
 have flt:∀b∈fp,b<s.heap.objs.size:=λb hb=>let⟨o,e,_⟩:=T.obj 0 _ st b hb;Ze e
 have fkA:∀{P:List (Addr×Obj)}{H':Hp},(∀p∈P,s.heap.objs.size<=p.1)->(∀b∈fp,H' b=none)->∀b∈fp,jk ({ X with A:=A'}:Cx) (pins++P) H' b:=λ{P H'} hP hn b hb=>by
  obtain⟨q0,q1,q2,q3,q4,q5⟩:=fk b hb
  refine⟨hn b hb,q1,q2,q3,q4,λp hp=>?_⟩
  rcases Zm.mp hp with z|z
  .exact q5 p (by simp only[Zm];exact .inl z)
  .rcases Zm.mp z with z|z
   .exact q5 p (by simp only[Zm];exact .inr z)
   .exactλe=>absurd (flt b hb) (by rw[<-e];exact Nat.not_lt.mpr (hP p z))
 refine⟨s.heap.objs.size,λP i H' s'=>(∀p∈P,s.heap.objs.size<=p.1)/\Inv X (pins++P) σ H' s'/\tn i s'.heap/\∀b∈fp,H' b=none,tG.mk' (λst=>st.2.1) (λst=>st.1) ?_ ?_ ?_ ?_ ?_ ?_,⟨λp hp=>absurd hp (by simp),by rw[List.append_nil];exact I,st,λb hb=>(fk b hb).1⟩,Zg _⟩
 .rintro P i H1 s1 Q E ⟨hP1,I1,st1,fr1⟩ ⟨go,yl⟩
  have q:=T.item ({ X with A:=A'}:Cx) rfl rfl rfl hc i (pins++P) s1 σ H1 (λ_ _=>False) (toA I1) (fkA hP1 fr1) st1 go
  refine wpAny_mono (xu (λu=>rfl) q) (λr s2 ⟨u,hr,x,H',I3,r3,y3,st3,fr3⟩=>?_) λ_ _ z=>z.elim
  exact⟨u,x,H',hr,r3,yl x H' y3,hP1,ofA I1.ok I3,st3,fr3⟩
 .rintro P i H1 s1 Q E ⟨hP1,I1,st1,fr1⟩ ⟨hf,hq⟩
  exact wpAny_mono (T.done ({ X with A:=A'}:Cx) rfl rfl rfl hc i (pins++P) s1 σ H1 (λ_ _=>False) (toA I1) (fkA hP1 fr1) st1 hf) (λr s2 ⟨hr,I2⟩=>⟨hr,H1,hq,ofA I1.ok I2⟩) λ_ _ z=>z.elim
 .rintro P i H1 s1 h' tk ⟨hP1,I1,st1,fr1⟩ hk
  exact⟨hP1,I1.kept hk,T.keep _ _ _ st1 λb _ o e=>hk b o e,fr1⟩
 .rintro P i H1 s1 D o ⟨hP1,I1,st1,fr1⟩ hD ho hn hcell
  refine⟨λp hp=>?_,I1.pins_of λp hp=>?_,st1,fr1⟩
  .rcases Zi.mp hp with z|z
   .subst z;exact hD
   .exact hP1 p z
  .rcases Zm.mp hp with z|z
   .exact I1.pin p (by simp[z])
   .rcases Zi.mp z with z|z
    .subst z
     exact⟨ho,hn,λz=>absurd I.lt (by rw[<-z];exact Nat.not_lt.mpr hD),I.nofs hD,hcell⟩
    .exact I1.pin p (by simp[z])
 .rintro p P i H1 s1 ⟨hP1,I1,st1,fr1⟩
  exact⟨λq hq=>hP1 q (List.mem_cons_of_mem _ hq),I1.pins_of λq hq=>I1.pin q (by rcases Zm.mp hq with z|z<;>simp[z]),st1,fr1⟩
 .rintro P i H1 s1 h' tk D ⟨hP1,I1,st1,fr1⟩ hD hn hPD hk
  have l4:∀b,b<s.heap.objs.size->b≠D:=λb hb=>Zk (Zc hb hD)
  refine⟨hP1,I1.turned hk hn (Ne.symm (l4 _ I.lt)) (.inr (Zl I.sz hD)) (λx c e=>let⟨v,q⟩:=I.cell x c e;l4 c q.lt) (λp hp=>?_),T.keep _ _ _ st1 λb hb o e=>hk b o (l4 b (flt b hb)) e,fr1⟩
  rcases Zm.mp hp with z|z
  .exact l4 _ (Ze (I.pin p (by simp[z])).1)
  .rcases Zm.mp z with z|z
   .exact l4 _ (Ze (I.pin p (by simp[z])).1)
   .exact hPD p z
theorem Dz{te:TE}(hc:X.calm=true)(he:PE X e te):xj X e (λσ H R=>te σ H λx H1=>∃a,x= .ref a/\((∃xs,SqL X.K H1 a xs)/\R (Ar (Itl X.K a)) H1∨(∃xs,SqT X.K H1 a xs)/\R (Ar (Itt X.K a)) H1)):=by
 intro pins s σ H R I h
 refine thn (he pins s σ H _ I h) λv s1 zq1=>?_
 obtain⟨x,H1,I1,r1,a,e,q⟩:=zq1
 subst e
 cases r1
 rcases q with⟨⟨xs,hq⟩,q⟩|⟨⟨xs,hq⟩,q⟩
 .refine⟨_,H1,I1,λA' E h1 h2 h3 h4=>?_,q⟩
  obtain⟨its,rv,p,hz⟩:=I1.list hq
  refine wpAny_pyIter_list p.isList ?_
  obtain⟨lo,SS,sm,s0,hl⟩:=ue (A':=A') (H:=H1) (s:={ s1 with heap:=s1.heap.push { cls:=.type "list_iterator",data:=.fields #[.ref a,.int 0 0] } }) hc h1 h2 (uD a s1.heap.objs.size) (I1.kept (t':=s1.toks) λb o e=>Zb _ e) ⟨_,Zf _ rfl,rfl,rfl⟩ λb hb=>by
   have e:b=s1.heap.objs.size:=by simpa using hb
   subst e
   exact I1.fpOk (Zg _) (I1.hok.fresh (Zg _))
  exact⟨_,lo,SS,rfl,sm,s0,hl⟩
 .refine⟨_,H1,I1,λA' E h1 h2 h3 h4=>?_,q⟩
  obtain⟨its,rv,p,hz⟩:=I1.tuple hq
  refine wpAny_pyIter_tuple (show s1.heap.IsTuple a its.toArray from p) ?_
  obtain⟨lo,SS,sm,s0,hl⟩:=ue (A':=A') (H:=H1) (s:={ s1 with heap:=s1.heap.push { cls:=.type "tuple_iterator",data:=.fields #[.ref a,.int 0 0] } }) hc h1 h2 (sZ a s1.heap.objs.size) (I1.kept (t':=s1.toks) λb o e=>Zb _ e) ⟨_,Zf _ rfl,rfl,rfl⟩ λb hb=>by
   have e:b=s1.heap.objs.size:=by simpa using hb
   subst e
   exact I1.fpOk (Zg _) (I1.hok.fresh (Zg _))
  exact⟨_,lo,SS,rfl,sm,s0,hl⟩
end
section
variable {X:Cx} {e:Expr} {ts:pJ} {p pos:Pos} {pins:List (Addr×Obj)} {σ:L2.St}
def RB(ts:pJ):TE:=λσ H Q=>ts σ H λS H1=>∃W:Nat->Nat->Int->Hp->Prop,(∃m,W 0 m 0 H1)/\∀i m t H,W i m t H->
 S.fin i H (λH'=>Q (.int t) H')∨S.nxt i H λy H'=>∃j,y= .int j/\∃m',m'<m/\W (i+1) m' (t+j) H'
theorem Gw{A:Around}{it D:Addr}{lo:Nat}{S:oX}{SS:List (Addr×Obj)->Nat->Hp->Shared->Prop}{Q:VK}{W:Nat->Nat->Int->Hp->Prop}(sm:tG X pins σ A.in1 it lo S SS)(hD:lo<=D)
  (st:∀i m t H,W i m t H->S.fin i H (λH'=>Q (.int t) H')∨S.nxt i H λy H'=>∃j,y= .int j/\∃m',m'<m/\W (i+1) m' (t+j) H'):
  ∀(m i:Nat)(t:Int)(tA:Tok)(c:Nat)(stage:Int)(H:Hp)(s:Shared),(stage=0∨stage=2)->SS [(D,bO [.int t tA] c)] i H s->W i m t H->
   codeAny (model X.prog X.w) A (.builtin "sum.loop" ⟨[.ref it,.ref D,rawInt stage,rawInt 0],[]⟩) (λr s'=>∃u,r= .ok (.ret u)/\EP X pins σ Q u s') s:=by
 intro m
 induction m using Nat.strongRecOn with
 |ind m ih=>
  intro i t tA c stage H s hstg hsp hw
  have ho:s.heap.get? D=some (bO [.int t tA] c):=((sm.inv hsp).pin (D,bO [.int t tA] c) (by simp)).1
  refine codeAny_builtin F.entry_sum_loop ?_
  rw[Around.under_plainId F.plain_sum_loop _]
  show wpAny _ A.in1 (seqItems? (.ref D) >>= _) _ _ s
  refine wpAny_bind (wpAny_seqItems ho rfl ?_)
  show wpAny _ A.in1 (tryCatch (pyNext (.ref it)) _ >>= _) _ _ s
  rcases st i m t H hw with hf|hn'
  .refine wpAny_bind (wpAny_tryCatch (wpAny_mono (sm.stop (λ_ _=>False) hsp hf) (λr s1 ⟨hr,H1,q,I1⟩=>?_) λ_ _ z=>z.elim))
   subst hr
   exact wpAny_pure ⟨_,rfl,.int t,H1,I1.pins_of λp hp=>I1.pin p (by simp[hp]),⟨tA,rfl⟩,q⟩
  .refine wpAny_bind (wpAny_tryCatch (wpAny_mono (sm.next (λ_ _=>False) hsp hn') (λr s1 ⟨u,y,H',hr,ry,⟨j,ey,m',hm,hw'⟩,hs'⟩=>?_) λ_ _ z=>z.elim))
   subst hr ey
   obtain⟨tj,rfl⟩:=ry
   have pl:=(sm.inv hs').pin (D,bO [.int t tA] c) (by simp)
   have plain:∀(next:Value->Int),(∀r,next r=2)->wpAny (model X.prog X.w) A.in1 (do
     match<-(holding [Value.int j tj] (binaryOp .Add (Value.int t tA) (Value.int j tj))).attempt with
     | .ok r=>updateSeq D λ_=> #[r];letGo [Value.int t tA,Value.int j tj];(do updateSeq D λ_=> #[r];again (.builtin "sum.loop" ⟨[.ref it,.ref D,rawInt (next r),rawInt 0],[]⟩))
     | .error e=>updateSeq D λ_=> #[];letGo [Value.int t tA,Value.int j tj] [e];throw e) (λfin s'=>match fin with
      | .done f=>∃u,(Except.ok f:Result)= .ok (.ret u)/\EP X pins σ Q u s'
      | .again c=>c.quiet=true/\codeAny (model X.prog X.w) A c (λr s'=>∃u,r= .ok (.ret u)/\EP X pins σ Q u s') s') (λe s'=>∃u,(Except.error e:Result)= .ok (.ret u)/\EP X pins σ Q u s') s1:=by
    intro next hnx
    refine wpAny_bind (wpAny_attempt (wpAny_holding (add_int ?_)))
    refine wpAny_bind (wpAny_updateSeq (s:={ s1 with toks:=s1.toks+1}) pl.1 rfl ?_)
    have o1:=Heap.get?_update_self (Obj.mapSeq (λ_=> #[Value.int (t+j) s1.toks])) pl.1 rfl
    refine wpAny_bind (wpAny_letGo ?_)
    refine wpAny_bind (wpAny_updateSeq o1 rfl ?_)
    have o2:=Heap.get?_update_self (Obj.mapSeq (λ_=> #[Value.int (t+j) s1.toks])) o1 rfl
    rw[hnx]
    refine wpAny_pure ⟨plainId_quiet F.plain_sum_loop _,ih m' hm (i+1) (t+j) s1.toks _ 2 H' _ (.inr rfl) (sm.put (s:=s1) (h':=(s1.heap.update D (Obj.mapSeq (λ_=> #[Value.int (t+j) s1.toks]))).update D (Obj.mapSeq (λ_=> #[Value.int (t+j) s1.toks]))) (tk:=s1.toks+1) hs' (λp hp=>absurd hp (by simp)) (λb o hb e=>(Heap.get?_update_other _ _ (Ne.symm hb)).trans ((Heap.get?_update_other _ _ (Ne.symm hb)).trans e)) o2 (λv z=>by cases z)) hw'⟩
   rcases hstg with rfl|rfl
   .show wpAny _ A.in1 (if(_:Bool)=true then(mkInt (t+j) >>= _)else _) _ _ _
    split
    .refine wpAny_bind (wpAny_mkInt ?_)
     show wpAny _ A.in1 (updateSeq D (λ_=> #[.int (t+j) s1.toks]) >>= _) _ _ _
     refine wpAny_bind (wpAny_updateSeq (s:={ s1 with toks:=s1.toks+1}) pl.1 rfl ?_)
     have o1:=Heap.get?_update_self (Obj.mapSeq (λ_=> #[Value.int (t+j) s1.toks])) pl.1 rfl
     exact wpAny_pure ⟨plainId_quiet F.plain_sum_loop _,ih m' hm (i+1) (t+j) s1.toks _ 0 H' _ (.inl rfl) (sm.put (s:=s1) (h':=s1.heap.update D (Obj.mapSeq (λ_=> #[Value.int (t+j) s1.toks]))) (tk:=s1.toks+1) hs' (λp hp=>absurd hp (by simp)) (λb o hb e=>(Heap.get?_update_other _ _ (Ne.symm hb)).trans e) o1 (λv z=>by cases z)) hw'⟩
    .exact wpAny_bind (wpAny_rule (plain (λ_=>2) λ_=>rfl))
   .exact plain (λ_=>2) λ_=>rfl
theorem Kv(hc:X.calm=true)(hm:X.mg "sum"=none)(hstr:xj X e ts)(hg:Gl X "sum":=by rfl)(hs:starEach [e] X.env=(false,eval e X.env)::starEach [] X.env:=by rfl):PE X (.Call (.Name "sum" p) [e] [] pos) (RB ts):=by
 intro pins s σ H Q I h
 refine wpAny_Call_Name_kw (lZ I hg hm boot_sum ?_ (by decide) (by decide))
 refine PyProof.Rows.callWith_builtin1 (vh (thn (hstr pins s σ H _ I h) λu s1 ⟨S,H1,I1,rdy,W,⟨m,w0⟩,st⟩=>?_) hs) hs rfl
 refine call_function_tree F.kind_sum F.plain_sum F.entry_sum (F.args_sum1 _) ?_
 unfold Builtin.«sum»
 simp only[List.length_cons,List.length_nil]
 rw[if_neg (by decide)]
 refine wpAny_bind (wpAny_of_eq (show Builtin.Builtins.bindParams "sum" ["start"] 0 { }=pure [none]from rfl) ?_)
 obtain⟨a1,a2⟩:=zQ I1 hc (A':=X.A.in1) rfl rfl
 refine wpAny_bind (wpAny_mono (rdy X.A.in1 (λ_ _=>False) a1 a2 (Nat.le_succ _) (by show X.A.units+1<=_;omega)) (λitv s2 ⟨it,lo,SS,e,sm,s0,hlo⟩=>?_) λ_ _ z=>z.elim)
 subst e
 refine wpAny_bind (wpAny_mkInt ?_)
 refine wpAny_bind (wpAny_pure ?_)
 simp only[List.forIn_cons,List.forIn_nil]
 refine wpAny_bind (wpAny_bind (wpAny_bind (wpAny_isInstance (T:="int") (b:=false) (typeIs_int _ _ _) PySem.sub_int_str ?_)))
 simp only[Bool.false_eq_true,if_false]
 refine wpAny_pure (wpAny_bind (wpAny_bind (wpAny_isInstance (T:="int") (b:=false) (typeIs_int _ _ _) PySem.sub_int_bytes ?_)))
 simp only[Bool.false_eq_true,if_false]
 refine wpAny_pure (wpAny_bind (wpAny_bind (wpAny_isInstance (T:="int") (b:=false) (typeIs_int _ _ _) PySem.sub_int_bytearray ?_)))
 simp only[Bool.false_eq_true,if_false]
 refine wpAny_pure (wpAny_pure ?_)
 refine wpAny_bind (wpAny_newObj_type ?_)
 have hn:H1 s2.heap.objs.size=none:=(sm.inv s0).hok.fresh (Zg _)
 refine wpAny_pure ⟨plainId_quiet F.plain_sum_loop _,codeAny_mono (Gw sm hlo st m 0 0 s2.toks 0 0 H1 _ (.inl rfl) (sm.pin (sm.keep (s:=s2) (h':=s2.heap.push { cls:=.type "list",dict:=none,data:=.seq [Value.int 0 s2.toks].toArray}) (tk:=s2.toks+1) s0 λb o e=>Zb _ e) hlo (Zf _ rfl) hn (λv z=>by cases z)) w0) λr s' ⟨u,hr,q⟩=>?_⟩
 subst hr
 exact q
end
end L2
namespace L3
open PySem PySem.Spec PyProof.Rows L2
abbrev cR:=Mu->Option (D×Mu)
structure KD(K:PySem.W.Frag)(tb:List Addr)(S:oX)(ths:List cR)(W0:Wd):Prop where
 nxt:∀(i:Nat) W th d μ' Q,Le tb W0 W->WOk K tb W->ths[i]? =some th->th W.mu=some (d,μ')->(∀v W',WOk K tb W'->Le tb W W'->W'.mu=μ'->Den K tb W' d v->Q v W'.H)->S.nxt i W.H Q
 fin:∃P:Mu->Prop,P W0.mu/\(∀th∈ths,∀μ d μ',P μ->th μ=some (d,μ')->P μ')/\∀(i:Nat) W Q,Le tb W0 W->WOk K tb W->P W.mu->ths.length<=i->(∀W',WOk K tb W'->Le tb W W'->W'.mu=W.mu->Q W'.H)->S.fin i W.H Q
abbrev StF:=En->Mu->Option (List cR×Mu)
def Lj(K:PySem.W.Frag)(tb:List Addr)(f:StF):pJ:=λσ H R=>∃W δ ths μ',W.H=H/\WOk K tb W/\gA K tb W δ σ/\f δ W.mu=some (ths,μ')/\
 ∀S W',WOk K tb W'->Le tb W W'->W'.mu=μ'->KD K tb S ths W'->R S W'.H
def wO(X:Cx)(tb:List Addr)(e:Expr)(f:StF):Prop:=xj X e (Lj X.K tb f)
def zV(X:Cx)(tb:List Addr)(e:Expr)(f:StF):Prop:=uJ X e (Lj X.K tb f)
section
variable {X:Cx} {tb:List Addr} {e tg iter elt:Expr} {f:EF} {pos p:Pos} {fs:StF}
theorem Iv{t t':pJ}(h:xj X e t)(k:∀σ H R,t' σ H R->t σ H R):xj X e t':=λpins s σ H R I hq=>h pins s σ H R I (k σ H R hq)
theorem xg{t t':pJ}(h:uJ X e t)(k:∀σ H R,t' σ H R->t σ H R):uJ X e t':=λpins s σ H R I hq=>h pins s σ H R I (k σ H R hq)
theorem oh(h:zV X tb e fs):wO X tb e fs:=xH h
def thE(d:D):cR:=λμ=>some (d,μ)
def gH(f:EF):StF:=λδ μ=>(f δ μ).bind λr=>match r.1 with
 | .tup ds=>some (ds.map thE,r.2)
 | .lst ds=>some (ds.map thE,r.2)
 |_=>none
theorem FZ{K:PySem.W.Frag}{J:It}{ds:List D}{W0:Wd}(io:qu K tb J ⟨ds,none⟩ W0):KD K tb (Ar J) (ds.map thE) W0 where
 nxt:=λi W th d μ' Q l ok e1 e2 hQ=>by
  rw[List.getElem?_map]at e1
  cases q:ds[i]? with
  |none=>rw[q]at e1;cases e1
  |some d0=>
   rw[q]at e1
   cases e1
   cases e2
   obtain⟨go,yl⟩:=io.go i W d l ok (Src.bL rfl) q
   exact⟨go,λx H' y=>by
    obtain⟨W',rfl,ok',l',m',d'⟩:=yl x H' y
    exact hQ x W' ok' l' m' d'⟩
 fin:=⟨λ_=>True,trivial,λ_ _ _ _ _ _ _=>trivial,λi W Q l ok _ hi hq=>⟨io.stop i W l ok (Src.bL rfl) (by simpa using hi),hq W ok (Le.refl _) rfl⟩⟩
theorem dm(hc:X.calm=true)(he:PD X tb e f):wO X tb e (gH f):=
 Iv (Dz hc he) λσ H R zq1=>by
  obtain⟨W,δ,ths,μ',e,ok,hd,hf,h⟩:=zq1
  unfold gH at hf
  obtain⟨⟨x,μ1⟩,e1,e2⟩:=Za.mp hf
  refine⟨W,δ,x,μ1,e,ok,hd,e1,λv W1 ok1 l1 m1 d1=>?_⟩
  cases x with
  |tup ds=>
   cases e2
   obtain⟨a,xs,rfl,q,r⟩:=iR d1
   exact⟨a,rfl,.inr ⟨⟨xs,SqT.fz q⟩,h _ W1 ok1 l1 m1 (FZ (Gj q r))⟩⟩
  |lst ds=>
   cases e2
   obtain⟨a,xs,rfl,q,r⟩:=kE d1
   exact⟨a,rfl,.inl ⟨⟨xs,SqL.fz q⟩,h _ W1 ok1 l1 m1 (FZ (DQ q r))⟩⟩
  |_=>cases e2
def thG(h:GF)(fe:EF)(δb:En)(d:D):cR:=λμ=>(h d δb μ).bind λδ1=>fe δ1 μ
def qd(own:List Str)(capI:List Nat)(fi:IF)(h:GF)(fe:EF):StF:=λδ μ=>(fi δ μ).bind λr=>match r.1.cel with
 |none=>some (r.1.items.map (thG h fe (bU own δ capI)),r.2)
 |some _=>none
theorem pP{fi:IF}{h:GF}{fe:EF}{own cap:List Str}{capI ts:List Nat}{scope:Scope}{P:Addr}{kr:Nat}(hc:X.calm=true)(hr:cL kr X.A)(B:eY X own cap capI scope)(hown:∀x∈own,(x,NameKind.free)∉scope.names)(hnc:∀y∈scope.names,y.2≠ .cell)
  (hP:P∈tb) (htb:∃c,X.env.code= .ref c/\PySem.W.CodeHd X.base c P) (hi:PID X tb tg iter fi)
  (hg:∀AG cs C code fp s2 H2,PGD (gF X AG own cap scope cs C code fp s2 H2) tb tg ts h)
  (he:∀AG cs C code fp s2 H2,(∀k,cL (k+1) X.A->cL k AG)->PD (gF X AG own cap scope cs C code fp s2 H2) tb elt fe)
  (hts:∀i∈ts,i<own.length:=by decide) (h0:scope.names.lookup (".0":Str)=some NameKind.local:=by rfl) (hco:scope.isCoroutine=false:=by rfl) (hs:∀x,genFold iter X.env x=pure x:=by intro _;rfl):
  zV X tb (.GeneratorExp elt [⟨tg,iter,[],0⟩] scope pos) (qd own capI fi h fe):=
 xg (Gg (g:=tDG X.K tb ts h) (te:=tD X.K tb fe) hc hr B hown hnc h0 hco htb hi hg he hs) λσ H R zq2=>by
  obtain⟨W,δ,ths,μ',e,ok,hd,hf,k⟩:=zq2
  unfold qd at hf
  obtain⟨⟨S,μ1⟩,e1,e2⟩:=Za.mp hf
  obtain⟨items,cel⟩:=S
  cases cel with
  |some n=>cases e2
  |none=>
   cases e2
   refine⟨W,δ,⟨items,none⟩,_,e,ok,hd,e1,λJ W1 ok1 l1 m1 io=>?_⟩
   obtain⟨ps,ep,tp⟩:=ok1.tab P hP
   refine⟨ps,ep,tp,λlo H2 ps' hG=>?_⟩
   obtain⟨ok2,l2⟩:=ok1.tbl hP ep hG
   refine k _ ⟨H2,W1.ad,W1.mu⟩ ok2 (l1.trans l2) m1 ⟨λi W3 th d μ3 Q l3 ok3 e3 e4 hQ=>?_,⟨λ_=>True,trivial,λ_ _ _ _ _ _ _=>trivial,λi W3 Q l3 ok3 _ hi3 hq=>?_⟩⟩
   .rw[List.getElem?_map]at e3
    cases q:items[i]? with
    |none=>rw[q]at e3;cases e3
    |some d0=>
     rw[q]at e3
     cases e3
     unfold thG at e4
     obtain⟨δ1,e5,e6⟩:=Za.mp e4
     obtain⟨go,yl⟩:=io.go i W3 d0 (l2.trans l3) ok3 (Src.bL rfl) q
     refine⟨go,λx H' y=>?_⟩
     obtain⟨W4,rfl,ok4,l4,m4,d4⟩:=yl x H' y
     refine⟨W4,bU own δ capI,d0,δ1,rfl,ok4,(qF hd).mono' (((l1.trans l2).trans l3).trans l4),d4,(by rw[m4];exact e5),λσ' d' hl ht=>⟨fits_of hts hl ht,?_⟩⟩
     exact⟨W4,δ1,d,μ3,rfl,ok4,d',(by rw[m4];exact e6),λv W5 ok5 l5 m5 d5=>hQ v W5 ok5 (l4.trans l5) m5 d5⟩
   .exact⟨io.stop i W3 (l2.trans l3) ok3 (Src.bL rfl) (by simpa using hi3),hq W3 ok3 (Le.refl _) rfl⟩
def qK:D->Option Bool
 | .bl b=>some b
 | .int i=>some (i != 0)
 |_=>none
theorem wZ{K:PySem.W.Frag}{W:Wd}{x:D}{v:V}{k:Bool}(h:Den K tb W x v)(e:qK x=some k):Df v k:=by
 cases x with
 |bl b=>cases e;exact .inl (pX h)
 |int i=>cases e;exact .inr ⟨i,bB h,rfl⟩
 |_=>cases e
def tB:List cR->Mu->Option (Bool×Mu)
 | [],μ=>some (true,μ)
 |t::r,μ=>(t μ).bind λx=>(qK x.1).bind λk=>if k=true then tB r x.2 else some (false,x.2)
def nO:List cR->Mu->Option (Bool×Mu)
 | [],μ=>some (false,μ)
 |t::r,μ=>(t μ).bind λx=>(qK x.1).bind λk=>if k=true then some (true,x.2)else nO r x.2
def CJ:List cR->Mu->Option (List D×Mu)
 | [],μ=>some ([],μ)
 |t::r,μ=>(t μ).bind λx=>(CJ r x.2).bind λq=>some (x.1::q.1,q.2)
def pN:Int->List cR->Mu->Option (Int×Mu)
 |a,[],μ=>some (a,μ)
 |a,t::r,μ=>(t μ).bind λx=>match x.1 with
  | .int j=>pN (a+j) r x.2
  |_=>none
def wM(f:StF):EF:=λδ μ=>(f δ μ).bind λr=>(tB r.1 r.2).bind λq=>some (.bl q.1,q.2)
def zu(f:StF):EF:=λδ μ=>(f δ μ).bind λr=>(nO r.1 r.2).bind λq=>some (.bl q.1,q.2)
def Eb(f:StF):EF:=λδ μ=>(f δ μ).bind λr=>if r.1.length<=sizeLine then(CJ r.1 r.2).bind λq=>some (.tup q.1,q.2)else none
def nW(f:StF):EF:=λδ μ=>(f δ μ).bind λr=>(pN 0 r.1 r.2).bind λq=>some (.int q.1,q.2)
theorem sE(hc:X.calm=true)(hm:X.mg "all"=none)(hstr:wO X tb e fs)(hg:Gl X "all":=by rfl)(hs:starEach [e] X.env=(false,eval e X.env)::starEach [] X.env:=by rfl):PD X tb (.Call (.Name "all" p) [e] [] pos) (wM fs):=
 eZ (Jl hc hm hstr hg hs) λσ H Q zq3=>by
  obtain⟨W,δ,d,μ',e,ok,hd,hf,h⟩:=zq3
  unfold wM at hf
  obtain⟨⟨ths,μ1⟩,e1,hf⟩:=Za.mp hf
  obtain⟨⟨b,μ2⟩,e2,e3⟩:=Za.mp hf
  cases e3
  refine⟨W,δ,ths,μ1,e,ok,hd,e1,λS W1 ok1 l1 m1 so=>?_⟩
  obtain⟨P,p0,pk,fin⟩:=so.fin
  refine⟨λi m H2=>m=ths.length-i/\∃W2,W2.H=H2/\WOk X.K tb W2/\Le tb W1 W2/\P W2.mu/\tB (ths.drop i) W2.mu=some (b,μ2),⟨_,rfl,W1,rfl,ok1,Le.refl _,p0,by rw[m1];exact e2⟩,?_⟩
  rintro i m H2 ⟨rfl,W2,rfl,ok2,l2,hp2,ha⟩
  by_cases hlt:i<ths.length
  .right
   rw[List.drop_eq_getElem_cons hlt]at ha
   unfold tB at ha
   obtain⟨⟨x,μ3⟩,e3,ha⟩:=Za.mp ha
   obtain⟨k,e4,ha⟩:=Za.mp ha
   refine so.nxt i W2 ths[i] x μ3 _ l2 ok2 (by simp[hlt]) e3 λv W3 ok3 l3 m3 d3=>⟨k,wZ d3 e4,?_⟩
   cases k with
   |true=>
    rw[if_pos rfl]
    exact⟨ths.length-(i+1),by omega,rfl,W3,rfl,ok3,l2.trans l3,(by rw[m3];exact pk _ (List.getElem_mem hlt) _ _ _ hp2 e3),by rw[m3];exact ha⟩
   |false=>
    rw[if_neg Zr]
    cases ha
    exact h _ W3 ok3 ((l1.trans l2).trans l3) m3 gm
  .left
   rw[List.drop_of_length_le (by omega)]at ha
   cases ha
   exact fin i W2 _ l2 ok2 hp2 (by omega) λW3 ok3 l3 m3=>h _ W3 ok3 ((l1.trans l2).trans l3) m3 gm
theorem yQ(hc:X.calm=true)(hm:X.mg "any"=none)(hstr:wO X tb e fs)(hg:Gl X "any":=by rfl)(hs:starEach [e] X.env=(false,eval e X.env)::starEach [] X.env:=by rfl):PD X tb (.Call (.Name "any" p) [e] [] pos) (zu fs):=
 eZ (Hz hc hm hstr hg hs) λσ H Q zq4=>by
  obtain⟨W,δ,d,μ',e,ok,hd,hf,h⟩:=zq4
  unfold zu at hf
  obtain⟨⟨ths,μ1⟩,e1,hf⟩:=Za.mp hf
  obtain⟨⟨b,μ2⟩,e2,e3⟩:=Za.mp hf
  cases e3
  refine⟨W,δ,ths,μ1,e,ok,hd,e1,λS W1 ok1 l1 m1 so=>?_⟩
  obtain⟨P,p0,pk,fin⟩:=so.fin
  refine⟨λi m H2=>m=ths.length-i/\∃W2,W2.H=H2/\WOk X.K tb W2/\Le tb W1 W2/\P W2.mu/\nO (ths.drop i) W2.mu=some (b,μ2),⟨_,rfl,W1,rfl,ok1,Le.refl _,p0,by rw[m1];exact e2⟩,?_⟩
  rintro i m H2 ⟨rfl,W2,rfl,ok2,l2,hp2,ha⟩
  by_cases hlt:i<ths.length
  .right
   rw[List.drop_eq_getElem_cons hlt]at ha
   unfold nO at ha
   obtain⟨⟨x,μ3⟩,e3,ha⟩:=Za.mp ha
   obtain⟨k,e4,ha⟩:=Za.mp ha
   refine so.nxt i W2 ths[i] x μ3 _ l2 ok2 (by simp[hlt]) e3 λv W3 ok3 l3 m3 d3=>⟨k,wZ d3 e4,?_⟩
   cases k with
   |false=>
    rw[if_neg Zr]
    exact⟨ths.length-(i+1),by omega,rfl,W3,rfl,ok3,l2.trans l3,(by rw[m3];exact pk _ (List.getElem_mem hlt) _ _ _ hp2 e3),by rw[m3];exact ha⟩
   |true=>
    rw[if_pos rfl]
    cases ha
    exact h _ W3 ok3 ((l1.trans l2).trans l3) m3 gm
  .left
   rw[List.drop_of_length_le (by omega)]at ha
   cases ha
   exact fin i W2 _ l2 ok2 hp2 (by omega) λW3 ok3 l3 m3=>h _ W3 ok3 ((l1.trans l2).trans l3) m3 gm
theorem mq(hc:X.calm=true)(hm:X.mg "sum"=none)(hstr:wO X tb e fs)(hg:Gl X "sum":=by rfl)(hs:starEach [e] X.env=(false,eval e X.env)::starEach [] X.env:=by rfl):PD X tb (.Call (.Name "sum" p) [e] [] pos) (nW fs):=
 eZ (Kv hc hm hstr hg hs) λσ H Q zq5=>by
  obtain⟨W,δ,d,μ',e,ok,hd,hf,h⟩:=zq5
  unfold nW at hf
  obtain⟨⟨ths,μ1⟩,e1,hf⟩:=Za.mp hf
  obtain⟨⟨b,μ2⟩,e2,e3⟩:=Za.mp hf
  cases e3
  refine⟨W,δ,ths,μ1,e,ok,hd,e1,λS W1 ok1 l1 m1 so=>?_⟩
  obtain⟨P,p0,pk,fin⟩:=so.fin
  refine⟨λi m t H2=>m=ths.length-i/\∃W2,W2.H=H2/\WOk X.K tb W2/\Le tb W1 W2/\P W2.mu/\pN t (ths.drop i) W2.mu=some (b,μ2),⟨_,rfl,W1,rfl,ok1,Le.refl _,p0,by rw[m1];exact e2⟩,?_⟩
  rintro i m t H2 ⟨rfl,W2,rfl,ok2,l2,hp2,ha⟩
  by_cases hlt:i<ths.length
  .right
   rw[List.drop_eq_getElem_cons hlt]at ha
   unfold pN at ha
   obtain⟨⟨x,μ3⟩,e3,ha⟩:=Za.mp ha
   cases x with
   |int j=>
    refine so.nxt i W2 ths[i] _ μ3 _ l2 ok2 (by simp[hlt]) e3 λv W3 ok3 l3 m3 d3=>⟨j,bB d3,ths.length-(i+1),by omega,rfl,W3,rfl,ok3,l2.trans l3,(by rw[m3];exact pk _ (List.getElem_mem hlt) _ _ _ hp2 e3),by rw[m3];exact ha⟩
   |_=>cases ha
  .left
   rw[List.drop_of_length_le (by omega)]at ha
   cases ha
   exact fin i W2 _ l2 ok2 hp2 (by omega) λW3 ok3 l3 m3=>h _ W3 ok3 ((l1.trans l2).trans l3) m3 dI
end
abbrev FF:=List D->Mu->Option (D×Mu)
def spD(K:PySem.W.Frag)(tb:List Addr)(n:Nat)(φ:FF):Sp:=λvs H Q _=>∃W ds d μ',W.H=H/\WOk K tb W/\cN K tb W ds vs/\ds.length=n/\φ ds W.mu=some (d,μ')/\
 ∀v W',WOk K tb W'->Le tb W W'->W'.mu=μ'->Den K tb W' d v->Q v W'.H
structure FI(P:Program)(w:World)(K:PySem.W.Frag)(mg:Str->Option Value)(base:Heap)(tb:List Addr)(x:Str)(n k:Nat)(φ:FF):Prop where
 is:∃f fd ps,qp P w K mg base CX0 k f fd ps (spD K tb n φ)/\mg x=some (.ref f)/\PySem.W.keepIn K (.ref f)=true/\Binds K fd ps []
def aJ(m:Nat)(g:SF):FF:=λds μ=>(g (ds.map some++List.replicate (m-ds.length) none) μ).bind λr=>match r.1 with
 | .rt d=>some (d,r.2.2)
 | .nx=>some (.non,r.2.2)
 |_=>none
section
variable {X:Cx} {tb:List Addr} {e:Expr} {es:List Expr} {fs:AF} {x:Str} {n k:Nat} {φ:FF} {p pos:Pos}
theorem aP(F:FI X.prog X.w X.K X.mg X.base tb x n k φ)(hr:cL k X.A)(ha:PAD X tb (e::es) fs)(hn:∀δ μ r,fs δ μ=some r->r.1.length=n)(hg:Gl X x:=by rfl)(hdb:(x==("__debug__":Str))=false:=by decide)
  (he:starEach (e::es) X.env=(false,eval e X.env)::starEach es X.env:=by rfl) (hpl:(backTo pos (starEach es X.env)).any (·.1)=false:=by rfl):PD X tb (.Call (.Name x p) (e::es) [] pos) (MC fs φ):=by
 obtain⟨f,fd,ps,h1,h2,h3,h4⟩:=F.is
 refine eZ (JN (E:=E0) h1 hr hg h2 h3 h4 .nil Qv ha hdb he hpl) λσ H Q zq7=>?_
 obtain⟨W,δ,d,μ',e,ok,hd,hf,h⟩:=zq7
 unfold MC at hf
 obtain⟨⟨xs,μ1⟩,e1,e2⟩:=Za.mp hf
 refine⟨W,δ,xs,μ1,e,ok,hd,e1,λvs W1 ok1 l1 m1 d1=>?_⟩
 refine⟨W1,xs,d,μ',rfl,ok1,by rw[List.append_nil];exact d1,hn _ _ _ e1,(by rw[m1];exact e2),λv W' ok' l' m' d'=>h v W' ok' (l1.trans l') m' d'⟩
theorem aQ(δ:En)(μ:Mu)(r:List D×Mu)(h:au δ μ=some r):r.1.length=0:=by cases h;rfl
theorem aB{f:EF}{fs:AF}{n:Nat}(hk:∀δ μ r,fs δ μ=some r->r.1.length=n)(δ:En)(μ:Mu)(r:List D×Mu)(h:aa f fs δ μ=some r):r.1.length=n+1:=by
 unfold aa at h
 obtain⟨q,_,h⟩:=Za.mp h
 obtain⟨t,e,h⟩:=Za.mp h
 cases h
 rw[List.length_cons,hk _ _ _ e]
end
structure gh(K:PySem.W.Frag)(x qual:Str)(st:Stmt)(f:Addr)(fd:FuncData)(P:Addr):Prop where
 ex:∃(oc:Value)(od:Option Addr)(kV doc pm:Value)(an:Option Addr)(c:Addr)(ct:Value)(osl:Array (Option Value)),
  fd=PySem.W.fnOf x qual (jY st) (iY st) (aL st) .none kV doc pm an (.ref c) ct/\K.lookup f=some ⟨oc,od,.func fd,osl⟩/\PySem.W.codeIn K (.ref c) qual=true/\∀h:Heap,K.In h->PySem.W.CodeHd h c P
 kp:PySem.W.keepIn K (.ref f)=true
theorem dM{P:Program}{w:World}{K:PySem.W.Frag}{mg:Str->Option Value}{base:Heap}{tb:List Addr}{x qual:Str}{st:Stmt}{f:Addr}{fd:FuncData}{T:Addr}{N ps:List Str}{n k:Nat}{g:SF}(F:gh K x qual st f fd T)(KB:K.In base)(hmg:mg x=some (.ref f))(S:bx N ps (aL st))(hps:ps.length=n)
  (hb:∀(kV doc pm:Value)(an:Option Addr)(cdv ct:Value)(us:List Value),us.length=ps.length->bindArgs (PySem.W.fnOf x qual (jY st) (iY st) (aL st) .none kV doc pm an cdv ct) ⟨us,[]⟩=pure (ps.zip us))
  (hbody:∀(c:Addr)(A:Around)(outer:List Env)(s:Shared)(H:Hp)(E:XK),PySem.W.CodeHd base c T->cL k (A.deeper (envOfC qual (aL st) s.heap.objs.size f (.ref c)))->
   tM (zE CX0 P w K mg base N qual (aL st) f (.ref c) A outer s H E).nox tb (iY st) g):FI P w K mg base tb x n (k+1) (aJ N.length g):=by
 obtain⟨oc,od,kV,doc,pm,an,c,ct,osl,rfl,lk,hcd,hhd⟩:=F.ex
 refine⟨f,_,ps,Li lk hcd S (λvs H Q E ⟨W,ds,d,μ',e,ok,dl,hl,_⟩=>by rw[<-az.length dl,hl,hps]) λA outer s H vs Q E hr hsp=>?_,hmg,F.kp,.all (hb kV doc pm an (.ref c) ct)⟩
 obtain⟨W,ds,d,μ',e,ok,dl,hl,hf,k⟩:=hsp
 refine⟨_,(hbody c A outer s H E (hhd base KB) hr).nox,?_⟩
 unfold aJ at hf
 obtain⟨⟨fl,δ',μ1⟩,e1,e2⟩:=Za.mp hf
 refine⟨W,_,fl,δ',μ1,e,ok,?_,e1,λσ' W' ok' l' m' d'=>?_⟩
 .have hlen:=az.length dl
  refine⟨by unfold L2.start;simp[hlen],λi y q=>?_⟩
  unfold L2.start
  by_cases hi:i<ds.length
  .rw[Zs (by simpa using hi),List.getElem?_map]at q
   cases q2:ds[i]? with
   |none=>rw[q2]at q;cases q
   |some z=>
    rw[q2]at q
    cases q
    obtain⟨v,ev,dv⟩:=az.get dl q2
    exact⟨v,by rw[Zs (by rw[Zu,<-hlen];exact hi),List.getElem?_map,ev];rfl,dv⟩
  .rw[List.getElem?_append_right (by simpa using hi),List.getElem?_replicate]at q
   split at q<;>cases q
 .cases fl with
  |nx=>cases e2;exact k .non W' ok' l' m' vm
  |rt d0=>cases e2;exactλv dv=>k v W' ok' l' m' dv
  |bk=>cases e2
  |ct=>cases e2
end L3
namespace L2
open PySem PySem.Spec PyProof.Rows
section
variable {X:Cx} {a b c e:Expr} {ta tb tc te:TE} {pos:Pos}
def mF(i j:Int):Nat:=Builtin.Int.intBits i+Builtin.Int.intBits j
theorem JZ:OpR X (binaryOp .Mult) (rI (λi j=>mF i j<=134217728) λi j=>.int (i*j)):=opI λ_ _ _ _ _ _ _ hc q=>mul_int q (IntMulOk.of_le (Zg _) (Zg _) hc)
theorem DY:OpR X (binaryOp .FloorDiv) (rI (λ_ j=>j≠0/\j.natAbs.log2<9000) λi j=>.int (i.fdiv j)):=opI λ_ _ _ _ _ _ _ hc q=>floordiv_int hc.1 q (.inl (PyProof.noPylong_of_log2 hc.2))
theorem Hy:OpR X (binaryOp .Pow) (rI (λi j=>0<=j/\(Builtin.Int.intBits i:Int)*j<=2 ^ 27) λi j=>.int (i ^ j.toNat)):=opI λ_ _ _ _ _ _ _ hc q=>pow_int hc.1 hc.2 q
def QX(K:PySem.W.Frag):R2:=λx y H Q=>∃a b xs ys,x= .ref a/\y= .ref b/\SqT K H a xs/\SqT K H b ys/\xs.length+ys.length<=sizeLine/\
 (xs=[]->Q (.ref b) H)/\(xs≠[]->ys=[]->Q (.ref a) H)/\(xs≠[]->ys≠[]->∀p,H p=none->Q (.ref p) (upd H p (.tup (xs++ys))))
theorem JW:OpR X (binaryOp .Add) (QX X.K):=by
 intro pins s σ H x y v u Q I rx ry h
 obtain⟨t,b,xs,ys,rfl,rfl,ha,hb,hz,q0,q1,q2⟩:=h
 by_cases hx:xs=[]
 .subst hx
  cases rx
  cases ry
  obtain⟨its,r1,p1,_⟩:=I.tuple ha
  obtain⟨its2,r2,p2,_⟩:=I.tuple hb
  cases r1
  obtain⟨⟨cls,dd,data,sl⟩,ho,hc,n,hd⟩:=id p1
  obtain⟨⟨cls2,dd2,data2,sl2⟩,ho2,hc2,n2,hd2⟩:=id p2
  simp only at hc hd hc2 hd2
  subst hc hd hc2 hd2
  exact concat_meets ⟨_,ho,rfl⟩ ⟨_,ho2,rfl⟩ noFill_tuple_add seq_tuple_add PySem.F.slot_tuple_add PySem.F.entry_tuple_add (PySem.F.args_tuple_add_2 _ _)
   (tuple_addW0 t b _ _ n n2 dd dd2 sl sl2 (by simp)) ⟨ho,ho2,⟨.ref b,H,I,rfl,q0 rfl⟩⟩
 .exact JD pins s σ H _ _ v u Q I rx ry ⟨t,b,xs,ys,rfl,rfl,ha,hb,hx,hz,q1 hx,q2 hx⟩
theorem pO:fillsNumberSlot (.type "tuple") "mul"=pure false:=
 PySem.fillsNumberSlot_seq (id:="tuple.__mul__") (r:=some (.builtin "tuple.__rmul__")) F.slot_tuple_mul.lookup (by decide +kernel) F.slot_tuple_rmul.lookup (by decide +kernel)
theorem vN:seqRepeat? (.type "tuple")=pure (some (.builtin "tuple.__mul__")):=by
 unfold seqRepeat?
 rw[PySem.seqSlot_of (T:="tuple") (name:="__mul__") (id:="tuple.__mul__") F.slot_tuple_mul.lookup (by decide +kernel),PySem.seqSlot_of (T:="tuple") (name:="__rmul__") (id:="tuple.__rmul__") F.slot_tuple_rmul.lookup (by decide +kernel)]
 rfl
theorem sG(a:Int)(t:Tok)(l:Addr)(items:Array Value)(n:Nat)(dd:Option Addr)(sl:Array (Option Value)):
  Meets (Builtin.«int.__rmul__» ⟨[.int a t,.ref l],[]⟩) (λ_ R s=>s.heap.get? l=some { cls:=.type "tuple",dict:=dd,data:=.seq items n,slots:=sl}/\R (.ok (.ret Value.notImplemented)) s):=
 .of_wp λprog w A R s h=>by obtain⟨hp,g,d,tk,os⟩:=s;obtain⟨hl,h⟩:=h;wp_walk;exact⟨_,rfl,h⟩
theorem sS(l:Addr)(items:Array Value)(n:Nat)(x:Int)(u:Tok)(dd:Option Addr)(sl:Array (Option Value))(h0:(decide (x< -2 ^ 63)||decide (x>=2 ^ 63))=false)(h1:(items.isEmpty||x==1)=true):
  Meets (Builtin.«tuple.__mul__» ⟨[.ref l,.int x u],[]⟩) (λ_ R s=>s.heap.get? l=some { cls:=.type "tuple",dict:=dd,data:=.seq items n,slots:=sl}/\R (.ok (.ret (Value.ref l))) s):=
 .of_wp λprog w A R s h=>by
  obtain⟨hp,g,d,tk,os⟩:=s;obtain⟨hl,h⟩:=h
  unfold Builtin.«tuple.__mul__»
  wp_walk using AutoSeq1.wpAny_loadPart' hl
  refine wpAny_ite_false (decide_eq_false (by rw[h0];exact Zr)) ?_
  wp_walk using AutoSeq1.wpAny_loadPart' hl
  exact⟨_,rfl,h⟩
theorem rZ(l:Addr)(items:Array Value)(n:Nat)(x:Int)(u:Tok)(dd:Option Addr)(sl:Array (Option Value))(h0:(decide (x< -2 ^ 63)||decide (x>=2 ^ 63))=false)(h1:(items.isEmpty||x==1)=false)(h2:(decide (x<=0)||items.isEmpty)=true):
  Meets (Builtin.«tuple.__mul__» ⟨[.ref l,.int x u],[]⟩) (λ_ R s=>s.heap.get? l=some { cls:=.type "tuple",dict:=dd,data:=.seq items n,slots:=sl}/\R (.ok (.ret (Value.ref s.heap.objs.size))) { s with heap:=s.heap.push { cls:=Value.type "tuple",data:=Data.seq #[] },toks:=s.toks}):=
 .of_wp λprog w A R s h=>by
  obtain⟨hp,g,d,tk,os⟩:=s;obtain⟨hl,h⟩:=h
  unfold Builtin.«tuple.__mul__»
  wp_walk using AutoSeq1.wpAny_loadPart' hl
  refine wpAny_ite_false (decide_eq_false (by rw[h0];exact Zr)) ?_
  wp_walk using AutoSeq1.wpAny_loadPart' hl
  exact⟨_,rfl,h⟩
theorem tH(l:Addr)(items:Array Value)(n:Nat)(x:Int)(u:Tok)(dd:Option Addr)(sl:Array (Option Value))(h0:(decide (x< -2 ^ 63)||decide (x>=2 ^ 63))=false)(h1:(items.isEmpty||x==1)=false)(h2:(decide (x<=0)||items.isEmpty)=false)
  (h3:¬(items.size:Int)*x>(2 ^ 63-1) / 8) (h4:Builtin.Tuple.tupleTooMany ((items.size:Int)*x)=false) (h5:((List.replicate x.toNat items).foldl (· ++ ·) #[]).size<=sizeLine):
  Meets (Builtin.«tuple.__mul__» ⟨[.ref l,.int x u],[]⟩) (λ_ R s=>s.heap.get? l=some { cls:=.type "tuple",dict:=dd,data:=.seq items n,slots:=sl}/\R (.ok (.ret (Value.ref s.heap.objs.size))) { s with heap:=s.heap.push { cls:=Value.type "tuple",data:=Data.seq ((List.replicate x.toNat items).foldl (· ++ ·) #[]) },toks:=s.toks}):=
 .of_wp λprog w A R s h=>by
  obtain⟨hp,g,d,tk,os⟩:=s;obtain⟨hl,h⟩:=h
  unfold Builtin.«tuple.__mul__»
  wp_walk using AutoSeq1.wpAny_loadPart' hl
  refine wpAny_ite_false (decide_eq_false (by rw[h0];exact Zr)) ?_
  wp_walk using AutoSeq1.wpAny_loadPart' hl
  refine wpAny_ite_false (decide_eq_false h3) ?_
  wp_walk using AutoSeq1.wpAny_loadPart' hl
  exact⟨_,rfl,h⟩
def Rh(K:PySem.W.Frag):R2:=λx y H Q=>∃l k xs,x= .ref l/\y= .int k/\SqT K H l xs/\ -(2 ^ 63)<=k/\k<2 ^ 63/\xs.length*k.toNat<=sizeLine/\
 ((xs=[]∨k=1)->Q (.ref l) H)/\(¬(xs=[]∨k=1)->∀p,H p=none->Q (.ref p) (upd H p (.tup (List.replicate k.toNat xs).flatten)))
theorem JP:OpR X (binaryOp .Mult) (Rh X.K):=by
 intro pins s σ H x y v u Q I rx ry h
 obtain⟨l,k,xs,rfl,rfl,hH,h1,h2,hz,q1,q2⟩:=h
 cases rx
 obtain⟨t,rfl⟩:=ry
 obtain⟨its,r,p,hz0⟩:=I.tuple hH
 have hl:=r.length
 obtain⟨⟨cls,dd,data,sl⟩,e,hc,n,hd⟩:=id p
 simp only at hc hd
 subst hc hd
 have h0:(decide (k< -2 ^ 63)||decide (k>=2 ^ 63))=false:=by
  rw[decide_eq_false (by omega),decide_eq_false (by omega)];rfl
 refine wpAny_binaryOp_repeat_ref (T:="tuple") (U:="int") (by decide) ⟨_,e,rfl⟩ (λs'=>typeIs_int s' k t) pO F.fills_int_mul F.slot_int_rmul vN F.slot_int_index.lookup
  (call_meets F.slot_int_rmul (typeIs_int s k t) F.entry_int_rmul (F.args_int_rmul_2 _ _) (sG k t l its.toArray n dd sl) ⟨e,rfl,⟨_,e,rfl⟩,?_⟩)
 by_cases hs:xs=[]∨k=1
 .refine call_meets F.slot_tuple_mul ⟨_,e,rfl⟩ F.entry_tuple_mul (F.args_tuple_mul_2 _ _) (sS l its.toArray n k t dd sl h0 ?_) ⟨e,⟨.ref l,H,I,rfl,q1 hs⟩⟩
  rcases hs with hs|hs
  .subst hs;cases r;rfl
  .subst hs;simp
 .have hne:(its.toArray.isEmpty||k==1)=false:=by
   rw[Bool.or_eq_false_iff]
   refine⟨?_,by simpa usingλz=>hs (.inr z)⟩
   cases its with
   |nil=>cases r;exact absurd (Or.inl rfl) hs
   |cons a b=>simp
  have hne':its.toArray.isEmpty=false:=(Bool.or_eq_false_iff.mp hne).1
  by_cases hk:k<=0
  .refine call_meets F.slot_tuple_mul ⟨_,e,rfl⟩ F.entry_tuple_mul (F.args_tuple_mul_2 _ _) (rZ l its.toArray n k t dd sl h0 hne (by rw[decide_eq_true hk];rfl)) ⟨e,?_⟩
   have hk0:k.toNat=0:=by omega
   refine⟨.ref s.heap.objs.size,_,I.laid (t':=s.toks) (o:=.tup []) (λb ob q=>Zb _ q) (Zg _) ⟨Nat.zero_le _,[],.nil,IsTup.new _ _⟩,rfl,?_⟩
   have:=q2 hs _ (I.hok.fresh (Zg _))
   rw[hk0]at this
   exact this
  .have hp:its.length*k.toNat<=sizeLine:=by rw[<-hl];exact hz
   have hsz:=sizeLine_eq
   have hcast:((its.toArray.size:Int))*k=((its.length*k.toNat:Nat):Int):=by
    rw[Zd,Int.natCast_mul,Int.toNat_of_nonneg (by omega)]
   have hfold:List.foldl (λx1 x2=>x1++x2) #[] (List.replicate k.toNat its.toArray)=(List.replicate k.toNat its).flatten.toArray:=by
    have:=foldl_rep its k.toNat []
    rw[List.nil_append]at this
    exact this
   have hlen:(List.replicate k.toNat its).flatten.length<=sizeLine:=by rw[len_rep,Nat.mul_comm];exact hp
   refine call_meets F.slot_tuple_mul ⟨_,e,rfl⟩ F.entry_tuple_mul (F.args_tuple_mul_2 _ _) (tH l its.toArray n k t dd sl h0 hne (by rw[decide_eq_false hk,hne'];rfl) ?_ ?_ ?_) ⟨e,?_⟩
   .rw[hcast]
    have:(sizeLine:Int)<=(2 ^ 63-1) / 8:=by decide
    omega
   .rw[hcast]
    unfold Builtin.Tuple.tupleTooMany
    exact decide_eq_false (by omega)
   .rw[hfold,Zd];exact hlen
   .rw[hfold]
    refine⟨.ref s.heap.objs.size,_,I.laid (t':=s.toks) (o:=.tup (List.replicate k.toNat xs).flatten) (λb ob q=>Zb _ q) (Zg _) ⟨by rw[len_rep,Nat.mul_comm];exact hz,_,r.rep k.toNat,IsTup.new _ _⟩,rfl,q2 hs _ (I.hok.fresh (Zg _))⟩
def Ol(K:PySem.W.Frag)(T:String)(x:V)(H:Hp)(k:Bool):Prop:=match x with
 | .non=>k=false
 | .bl _=>k=(T=="bool"||T=="int")
 | .int _=>k=(T=="int")
 | .str _=>k=(T=="str")
 | .ref p=>(k=(T=="list")/\∃xs,SqL K H p xs)∨(k=(T=="tuple")/\∃xs,SqT K H p xs)∨(k=(T=="dict")/\∃xs,H p=some (.dK xs))
 |_=>False
def JM:List String:=["bool","int","str","list","tuple","dict"]
theorem Gp:iI X (.builtin "isinstance") (λxs H Q=>∃x T k,xs=[x,.ty T]/\T∈JM/\Ol X.K T x H k/\Q (.bl k) H):=by
 intro pins s σ H xs us Q I r h
 obtain⟨x,T,k,rfl,hT,hx,q⟩:=h
 obtain⟨u,w',rfl,rx,rt⟩:=vals2 r
 cases rt
 have fin:EP X pins σ Q (.bool k) s:=⟨.bl k,H,I,rfl,q⟩
 have fin1:EP X pins σ Q (.bool k) { s with toks:=s.toks+1}:=⟨.bl k,H,I.tok _,rfl,q⟩
 simp only[JM,Zi,List.not_mem_nil,or_false]at hT
 cases x with
 |non=>
  cases rx
  have hk:k=false:=hx
  subst hk
  rcases hT with rfl|rfl|rfl|rfl|rfl|rfl
  .exact IsiPair.NoneType_bool fin1
  .exact IsiPair.NoneType_int fin1
  .exact IsiPair.NoneType_str fin1
  .exact IsiPair.NoneType_list fin1
  .exact IsiPair.NoneType_tuple fin1
  .exact IsiPair.NoneType_dict fin1
 |bl b=>
  cases rx
  have hk:k=_:=hx
  subst hk
  rcases hT with rfl|rfl|rfl|rfl|rfl|rfl
  .exact IsiPair.bool_bool fin
  .exact IsiPair.bool_int fin
  .exact IsiPair.bool_str fin1
  .exact IsiPair.bool_list fin1
  .exact IsiPair.bool_tuple fin1
  .exact IsiPair.bool_dict fin1
 |int b=>
  obtain⟨t,rfl⟩:=rx
  have hk:k=_:=hx
  subst hk
  rcases hT with rfl|rfl|rfl|rfl|rfl|rfl
  .exact IsiPair.int_bool fin1
  .exact IsiPair.int_int fin
  .exact IsiPair.int_str fin1
  .exact IsiPair.int_list fin1
  .exact IsiPair.int_tuple fin1
  .exact IsiPair.int_dict fin1
 |str b=>
  obtain⟨t,rfl⟩:=rx
  have hk:k=_:=hx
  subst hk
  rcases hT with rfl|rfl|rfl|rfl|rfl|rfl
  .exact IsiPair.str_bool fin1
  .exact IsiPair.str_int fin1
  .exact IsiPair.str_str fin
  .exact IsiPair.str_list fin1
  .exact IsiPair.str_tuple fin1
  .exact IsiPair.str_dict fin1
 |ref p=>
  cases rx
  rcases hx with⟨hk,xs,hq⟩|⟨hk,xs,hq⟩|⟨hk,xs,hq⟩
  .subst hk
   obtain⟨its,_,pl,_⟩:=I.list hq
   obtain⟨o,ho,hc,_⟩:=pl.isList
   rcases hT with rfl|rfl|rfl|rfl|rfl|rfl
   .exact IsiPair.list_bool ho hc fin1
   .exact IsiPair.list_int ho hc fin1
   .exact IsiPair.list_str ho hc fin1
   .exact IsiPair.list_list ho hc fin
   .exact IsiPair.list_tuple ho hc fin1
   .exact IsiPair.list_dict ho hc fin1
  .subst hk
   obtain⟨its,_,pl,_⟩:=I.tuple hq
   obtain⟨o,ho,hc,_⟩:=pl
   rcases hT with rfl|rfl|rfl|rfl|rfl|rfl
   .exact IsiPair.tuple_bool ho hc fin1
   .exact IsiPair.tuple_int ho hc fin1
   .exact IsiPair.tuple_str ho hc fin1
   .exact IsiPair.tuple_list ho hc fin1
   .exact IsiPair.tuple_tuple ho hc fin
   .exact IsiPair.tuple_dict ho hc fin1
  .subst hk
   obtain⟨_,_,vs,_,o,_,_,ho,ex,_⟩:=I.hok p _ hq
   have hc:=ex.1
   rcases hT with rfl|rfl|rfl|rfl|rfl|rfl
   .exact IsiPair.dict_bool ho hc fin1
   .exact IsiPair.dict_int ho hc fin1
   .exact IsiPair.dict_str ho hc fin1
   .exact IsiPair.dict_list ho hc fin1
   .exact IsiPair.dict_tuple ho hc fin1
   .exact IsiPair.dict_dict ho hc fin
 |_=>exact hx.elim
end
end L2
namespace L3
open PySem PySem.Spec PyProof.Rows L2
abbrev O2:=D->D->Mu->Option (D×Mu)
abbrev O1':=D->Mu->Option (D×Mu)
abbrev ON:=List D->Mu->Option (D×Mu)
def bc:O2
 | .int i,.int j,μ=>some (.int (i+j),μ)
 | .tup xs,.tup ys,μ=>if xs.length+ys.length<=sizeLine then some (.tup (xs++ys),μ)else none
 | .lst xs,.lst ys,μ=>if xs.length+ys.length<=sizeLine then some (.lst (xs++ys),μ)else none
 | .str x,.str y,μ=>if x.length+y.length<=sizeLine then some (.str (x++y),μ)else none
 |_,_,_=>none
def dU:O2
 | .int i,.int j,μ=>some (.int (i-j),μ)
 |_,_,_=>none
def cB:O2
 | .int i,.int j,μ=>if mF i j<=134217728 then some (.int (i*j),μ)else none
 | .tup xs,.int k,μ=>if -(2 ^ 63)<=k/\k<2 ^ 63/\xs.length*k.toNat<=sizeLine then some (.tup (List.replicate k.toNat xs).flatten,μ)else none
 | .lst xs,.int k,μ=>if -(2 ^ 63)<=k/\k<2 ^ 63/\xs.length*k.toNat<=sizeLine then some (.lst (List.replicate k.toNat xs).flatten,μ)else none
 |_,_,_=>none
def oDiv:O2
 | .int i,.int j,μ=>if j≠0/\j.natAbs.log2<9000 then some (.int (i.fdiv j),μ)else none
 |_,_,_=>none
def oMod:O2
 | .int i,.int j,μ=>if j≠0 then some (.int (i.fmod j),μ)else none
 |_,_,_=>none
def xV:O2
 | .int i,.int j,μ=>if 0<=j/\(Builtin.Int.intBits i:Int)*j<=2 ^ 27 then some (.int (i ^ j.toNat),μ)else none
 |_,_,_=>none
def oLt:O2
 | .int i,.int j,μ=>some (.bl (decide (i<j)),μ)
 |_,_,_=>none
def oGt:O2
 | .int i,.int j,μ=>some (.bl (decide (j<i)),μ)
 |_,_,_=>none
def oGe:O2
 | .int i,.int j,μ=>some (.bl (decide (j<=i)),μ)
 |_,_,_=>none
section
variable {X:Cx} {tb:List Addr}
theorem wu{K:PySem.W.Frag}{F:Hp}{ad:List Addr}{ds:List D}{vs:List V}(h:az K F ad ds vs):∀k:Nat,az K F ad (List.replicate k ds).flatten (List.replicate k vs).flatten
 |0=>az.nil
 |k+1=>by
  rw[List.replicate_succ,List.replicate_succ,List.flatten_cons,List.flatten_cons]
  exact az.append h (wu h k)
theorem jX{K:PySem.W.Frag}{F:Hp}{ad:List Addr}{ds:List D}{vs:List V}(h:az K F ad ds vs):vs=[]↔ds=[]:=by
 have:=az.length h
 cases ds<;>cases vs<;>simp_all
theorem Io{α:Type}(xs:List α):(List.replicate (1:Int).toNat xs).flatten=xs:=by simp
theorem bH:OpD X tb (binaryOp .Add) bc:=⟨_,OJ.or (JW.or (Dn.or yN)),λW x y v u d μ' Q ok dx dy ho h=>by
 cases x with
 |int i=>
  cases y with
  |int j=>cases ho;rw[bB dx,bB dy];exact .inl ⟨i,j,rfl,rfl,put ok h dI⟩
  |_=>cases ho
 |tup xs=>
  cases y with
  |tup ys=>
   have ho':(if xs.length+ys.length<=sizeLine then some (D.tup (xs++ys),W.mu)else none)=some (d,μ'):=ho
   split at ho'
   .rename_i hz
    cases ho'
    obtain⟨a,us,rfl,q1,r1⟩:=iR dx
    obtain⟨b,ws,rfl,q2,r2⟩:=iR dy
    refine .inr (.inl ⟨a,b,us,ws,rfl,rfl,SqT.fz q1,SqT.fz q2,by rw[<-az.length r1,<-az.length r2];exact hz,λe=>?_,λ_ e=>?_,λ_ _ p hp=>kI ok h (az.append r1 r2) hp⟩)
    .have e':=(jX r1).mp e
     subst e'
     exact put ok h dy
    .have e':=(jX r2).mp e
     subst e'
     rw[List.append_nil]at h
     exact put ok h dx
   .cases ho'
  |_=>cases ho
 |lst xs=>
  cases y with
  |lst ys=>
   have ho':(if xs.length+ys.length<=sizeLine then some (D.lst (xs++ys),W.mu)else none)=some (d,μ'):=ho
   split at ho'
   .rename_i hz
    cases ho'
    obtain⟨a,us,rfl,q1,r1⟩:=oK dx
    obtain⟨b,ws,rfl,q2,r2⟩:=oK dy
    exact .inr (.inr (.inl ⟨a,b,us,ws,rfl,rfl,(dJ q1).1,(dJ q2).1,by rw[<-az.length r1,<-az.length r2];exact hz,λp hp=>jb ok h (az.append r1 r2) hp⟩))
   .cases ho'
  |_=>cases ho
 |str x=>
  cases y with
  |str y=>
   have ho':(if x.length+y.length<=sizeLine then some (D.str (x++y),W.mu)else none)=some (d,μ'):=ho
   split at ho'
   .rename_i hz
    cases ho'
    rw[vY dx,vY dy]
    exact .inr (.inr (.inr ⟨x,y,rfl,rfl,hz,put ok h Iz⟩))
   .cases ho'
  |_=>cases ho
 |_=>cases y<;>cases ho⟩
theorem gk:OpD X tb (binaryOp .Sub) dU:=⟨_,Nu,λW x y v u d μ' Q ok dx dy ho h=>by
 cases x with
 |int i=>
  cases y with
  |int j=>cases ho;rw[bB dx,bB dy];exact⟨i,j,rfl,rfl,put ok h dI⟩
  |_=>cases ho
 |_=>cases y<;>cases ho⟩
theorem dZ:OpD X tb (binaryOp .Mult) cB:=⟨_,JZ.or (JP.or OD),λW x y v u d μ' Q ok dx dy ho h=>by
 cases x with
 |int i=>
  cases y with
  |int j=>
   have ho':(if mF i j<=134217728 then some (D.int (i*j),W.mu)else none)=some (d,μ'):=ho
   split at ho'
   .rename_i hz
    cases ho'
    rw[bB dx,bB dy];exact .inl ⟨i,j,rfl,rfl,hz,put ok h dI⟩
   .cases ho'
  |_=>cases ho
 |tup xs=>
  cases y with
  |int k=>
   have ho':(if -(2 ^ 63)<=k/\k<2 ^ 63/\xs.length*k.toNat<=sizeLine then some (D.tup (List.replicate k.toNat xs).flatten,W.mu)else none)=some (d,μ'):=ho
   split at ho'
   .rename_i hz
    cases ho'
    obtain⟨a,us,rfl,q1,r1⟩:=iR dx
    rw[bB dy]
    refine .inr (.inl ⟨a,k,us,rfl,rfl,SqT.fz q1,hz.1,hz.2.1,by rw[<-az.length r1];exact hz.2.2,λe=>?_,λ_ p hp=>kI ok h (wu r1 _) hp⟩)
    rcases e with e|e
    .have e':=(jX r1).mp e
     subst e'
     have e2:(List.replicate k.toNat ([]:List D)).flatten=[]:=by simp
     rw[e2]at h
     exact put ok h dx
    .subst e
     rw[Io]at h
     exact put ok h dx
   .cases ho'
  |_=>cases ho
 |lst xs=>
  cases y with
  |int k=>
   have ho':(if -(2 ^ 63)<=k/\k<2 ^ 63/\xs.length*k.toNat<=sizeLine then some (D.lst (List.replicate k.toNat xs).flatten,W.mu)else none)=some (d,μ'):=ho
   split at ho'
   .rename_i hz
    cases ho'
    obtain⟨a,us,rfl,q1,r1⟩:=oK dx
    rw[bB dy]
    exact .inr (.inr ⟨a,k,us,rfl,rfl,(dJ q1).1,hz.1,hz.2.1,by rw[<-az.length r1];exact hz.2.2,λp hp=>jb ok h (wu r1 _) hp⟩)
   .cases ho'
  |_=>cases ho
 |_=>cases y<;>cases ho⟩
theorem lg:OpD X tb (binaryOp .FloorDiv) oDiv:=⟨_,DY,λW x y v u d μ' Q ok dx dy ho h=>by
 cases x with
 |int i=>
  cases y with
  |int j=>
   have ho':(if j≠0/\j.natAbs.log2<9000 then some (D.int (i.fdiv j),W.mu)else none)=some (d,μ'):=ho
   split at ho'
   .rename_i hz
    cases ho'
    rw[bB dx,bB dy];exact⟨i,j,rfl,rfl,hz,put ok h dI⟩
   .cases ho'
  |_=>cases ho
 |_=>cases y<;>cases ho⟩
theorem dj:OpD X tb (binaryOp .Mod) oMod:=⟨_,Kc,λW x y v u d μ' Q ok dx dy ho h=>by
 cases x with
 |int i=>
  cases y with
  |int j=>
   have ho':(if j≠0 then some (D.int (i.fmod j),W.mu)else none)=some (d,μ'):=ho
   split at ho'
   .rename_i hz
    cases ho'
    rw[bB dx,bB dy];exact⟨i,j,rfl,rfl,hz,put ok h dI⟩
   .cases ho'
  |_=>cases ho
 |_=>cases y<;>cases ho⟩
theorem GP:OpD X tb (binaryOp .Pow) xV:=⟨_,Hy,λW x y v u d μ' Q ok dx dy ho h=>by
 cases x with
 |int i=>
  cases y with
  |int j=>
   have ho':(if 0<=j/\(Builtin.Int.intBits i:Int)*j<=2 ^ 27 then some (D.int (i ^ j.toNat),W.mu)else none)=some (d,μ'):=ho
   split at ho'
   .rename_i hz
    cases ho'
    rw[bB dx,bB dy];exact⟨i,j,rfl,rfl,hz,put ok h dI⟩
   .cases ho'
  |_=>cases ho
 |_=>cases y<;>cases ho⟩
theorem ud:OpD X tb (compareOp .Lt) oLt:=⟨_,Qf,λW x y v u d μ' Q ok dx dy ho h=>by
 cases x with
 |int i=>
  cases y with
  |int j=>cases ho;rw[bB dx,bB dy];exact⟨i,j,rfl,rfl,put ok h gm⟩
  |_=>cases ho
 |_=>cases y<;>cases ho⟩
theorem Qm:OpD X tb (compareOp .Gt) oGt:=⟨_,Rj,λW x y v u d μ' Q ok dx dy ho h=>by
 cases x with
 |int i=>
  cases y with
  |int j=>cases ho;rw[bB dx,bB dy];exact⟨i,j,rfl,rfl,put ok h gm⟩
  |_=>cases ho
 |_=>cases y<;>cases ho⟩
theorem Es:OpD X tb (compareOp .GtE) oGe:=⟨_,Qw,λW x y v u d μ' Q ok dx dy ho h=>by
 cases x with
 |int i=>
  cases y with
  |int j=>cases ho;rw[bB dx,bB dy];exact⟨i,j,rfl,rfl,put ok h gm⟩
  |_=>cases ho
 |_=>cases y<;>cases ho⟩
end
open PySem.SeqAt
mutual
def eqD:D->D->Bool
 | .non,.non=>true
 | .bl a,.bl b=>a==b
 | .bl a,.int b=>(if a then 1 else 0)==b
 | .int a,.bl b=>a==(if b then 1 else 0)
 | .int a,.int b=>a==b
 | .str a,.str b=>a==b
 | .tup xs,.tup ys=>gQ xs ys
 | .lst xs,.lst ys=>gQ xs ys
 |_,_=>false
def gQ:List D->List D->Bool
 | [],[]=>true
 |x::xs,y::ys=>eqD x y&&gQ xs ys
 |_,_=>false
end
mutual
def gV:D->Nat
 | .tup ds=>iV ds+1
 | .lst ds=>iV ds+1
 |_=>0
def iV:List D->Nat
 | []=>0
 |d::ds=>max (gV d) (iV ds)
end
mutual
def cX:D->Bool
 | .non=>true
 | .bl _=>true
 | .int _=>true
 | .str _=>true
 | .tup ds=>fH ds
 | .lst ds=>fH ds
 |_=>false
def fH:List D->Bool
 | []=>true
 |d::ds=>cX d&&fH ds
end
mutual
def DV(K:PySem.W.Frag)(H:Hp):D->V->Prop
 | .non,v=>v= .non
 | .bl b,v=>v= .bl b
 | .int i,v=>v= .int i
 | .str x,v=>v= .str x
 | .tup ds,v=>∃a xs,v= .ref a/\SqT K H a xs/\DVL K H ds xs
 | .lst ds,v=>∃a xs,v= .ref a/\SqL K H a xs/\DVL K H ds xs
 | .ro _,_=>False
 | .dic _,_=>False
 | .cell _,_=>False
def DVL(K:PySem.W.Frag)(H:Hp):List D->List V->Prop
 | [],vs=>vs=[]
 |d::ds,vs=>∃u us,vs=u::us/\DV K H d u/\DVL K H ds us
end
section
variable {K:PySem.W.Frag} {tb:List Addr} {W:Wd}
mutual
theorem KC:∀(d:D)(v:V),cX d=true->bf K (W.fz tb) W.ad d v->DV K W.H d v
 | .non,v,_,h=>by unfold bf at h;unfold DV;exact h
 | .bl _,v,_,h=>by unfold bf at h;unfold DV;exact h
 | .int _,v,_,h=>by unfold bf at h;unfold DV;exact h
 | .str _,v,_,h=>by unfold bf at h;unfold DV;exact h
 | .tup ds,v,p,h=>by
  unfold bf at h;unfold DV;unfold cX at p
  obtain⟨a,xs,e,q,r⟩:=h
  exact⟨a,xs,e,SqT.fz q,rT ds xs p r⟩
 | .lst ds,v,p,h=>by
  unfold bf at h;unfold DV;unfold cX at p
  obtain⟨a,xs,e,q,r⟩:=h
  exact⟨a,xs,e,SqL.of (dJ q).1,rT ds xs p r⟩
 | .ro ds,v,p,h=>by unfold cX at p;cases p
 | .dic ds,v,p,h=>by unfold cX at p;cases p
 | .cell ds,v,p,h=>by unfold cX at p;cases p
theorem rT:∀(ds:List D)(vs:List V),fH ds=true->az K (W.fz tb) W.ad ds vs->DVL K W.H ds vs
 | [],vs,_,h=>by unfold az at h;unfold DVL;exact h
 |d::ds,vs,p,h=>by
  unfold az at h;unfold DVL;unfold fH at p
  rw[Zo]at p
  obtain⟨u,us,e,q,r⟩:=h
  exact⟨u,us,e,KC d u p.1 q,rT ds us p.2 r⟩
end
end
def qb(xs ys:List D)(j:Nat):Bool:=match xs[j]?,ys[j]? with
 |some x,some y=>eqD x y
 |_,_=>false
theorem lq:∀(xs ys:List D),xs.length=ys.length->(List.range xs.length).all (qb xs ys)=gQ xs ys
 | [],[],_=>by unfold gQ;rfl
 |x::xs,y::ys,h=>by
  unfold gQ
  rw[List.length_cons,List.range_succ_eq_map,List.all_cons,List.all_map,<-lq xs ys (by simpa using h)]
  rfl
theorem oZ:∀(xs ys:List D),xs.length≠ys.length->gQ xs ys=false
 | [],[],h=>absurd rfl h
 | [],y::ys,_=>by unfold gQ;rfl
 |x::xs,[],_=>by unfold gQ;rfl
 |x::xs,y::ys,h=>by
  unfold gQ
  rw[oZ xs ys (by simpa using h),Bool.and_false]
theorem yH(xs ys:List D):((List.range (min xs.length ys.length)).all (qb xs ys)&&xs.length==ys.length)=gQ xs ys:=by
 by_cases h:xs.length=ys.length
 .rw[<-h,Nat.min_self,lq xs ys h];simp
 .rw[oZ xs ys h,beq_false_of_ne h,Bool.and_false]
section
variable {X:Cx} {pins:List (Addr×Obj)} {σ:L2.St} {H:Hp} {s:Shared}
theorem DVL.length{K:PySem.W.Frag}:∀{ds:List D}{vs:List V},DVL K H ds vs->ds.length=vs.length
 | [],vs,h=>by unfold DVL at h;subst h;rfl
 |d::ds,vs,h=>by
  unfold DVL at h
  obtain⟨u,us,rfl,_,r⟩:=h
  rw[List.length_cons,List.length_cons,DVL.length r]
theorem DVL.get'{K:PySem.W.Frag}:∀{ds:List D}{vs:List V}{i:Nat}{v:V},DVL K H ds vs->vs[i]? =some v->∃d,ds[i]? =some d/\DV K H d v
 | [],vs,i,v,h,e=>by unfold DVL at h;subst h;simp at e
 |d::ds,vs,0,x,h,e=>by
  unfold DVL at h
  obtain⟨u,us,rfl,p,r⟩:=h
  simp at e;subst e
  exact⟨d,rfl,p⟩
 |d::ds,vs,i+1,x,h,e=>by
  unfold DVL at h
  obtain⟨u,us,rfl,p,r⟩:=h
  obtain⟨y,e1,e2⟩:=DVL.get' (i:=i) r (by simpa using e)
  exact⟨y,by simpa using e1,e2⟩
theorem yK{a:Addr}{xs ys:List V}(I:Inv X pins σ H s)(h:SqL X.K H a xs)(h':SqT X.K H a ys):False:=by
 obtain⟨its,_,pl,_⟩:=I.list h
 obtain⟨its',_,pt,_⟩:=I.tuple h'
 obtain⟨o,ho,hc,_⟩:=pl.isList
 obtain⟨o',ho',hc',_⟩:=pt
 rw[ho]at ho';cases ho'
 rw[hc]at hc'
 exact absurd hc' (by decide)
mutual
theorem qM(I:Inv X pins σ H s):∀(x y:D)(v:V),DV X.K H x v->DV X.K H y v->eqD x y=true
 | .non,.non,v,h,k=>by unfold eqD;rfl
 | .non,.bl b,v,h,k=>by unfold DV at h k;subst h;cases k
 | .non,.int b,v,h,k=>by unfold DV at h k;subst h;cases k
 | .non,.str b,v,h,k=>by unfold DV at h k;subst h;cases k
 | .non,.tup ys,v,h,k=>by unfold DV at h k;obtain⟨a,us,rfl,q,r⟩:=k;cases h
 | .non,.lst ys,v,h,k=>by unfold DV at h k;obtain⟨a,us,rfl,q,r⟩:=k;cases h
 | .bl a,.non,v,h,k=>by unfold DV at h k;subst h;cases k
 | .bl a,.bl b,v,h,k=>by unfold DV at h k;subst h;cases k;unfold eqD;simp
 | .bl a,.int b,v,h,k=>by unfold DV at h k;subst h;cases k
 | .bl a,.str b,v,h,k=>by unfold DV at h k;subst h;cases k
 | .bl a,.tup ys,v,h,k=>by unfold DV at h k;obtain⟨a,us,rfl,q,r⟩:=k;cases h
 | .bl a,.lst ys,v,h,k=>by unfold DV at h k;obtain⟨a,us,rfl,q,r⟩:=k;cases h
 | .int a,.non,v,h,k=>by unfold DV at h k;subst h;cases k
 | .int a,.bl b,v,h,k=>by unfold DV at h k;subst h;cases k
 | .int a,.int b,v,h,k=>by unfold DV at h k;subst h;cases k;unfold eqD;simp
 | .int a,.str b,v,h,k=>by unfold DV at h k;subst h;cases k
 | .int a,.tup ys,v,h,k=>by unfold DV at h k;obtain⟨a,us,rfl,q,r⟩:=k;cases h
 | .int a,.lst ys,v,h,k=>by unfold DV at h k;obtain⟨a,us,rfl,q,r⟩:=k;cases h
 | .str a,.non,v,h,k=>by unfold DV at h k;subst h;cases k
 | .str a,.bl b,v,h,k=>by unfold DV at h k;subst h;cases k
 | .str a,.int b,v,h,k=>by unfold DV at h k;subst h;cases k
 | .str a,.str b,v,h,k=>by unfold DV at h k;subst h;cases k;unfold eqD;simp
 | .str a,.tup ys,v,h,k=>by unfold DV at h k;obtain⟨a,us,rfl,q,r⟩:=k;cases h
 | .str a,.lst ys,v,h,k=>by unfold DV at h k;obtain⟨a,us,rfl,q,r⟩:=k;cases h
 | .tup xs,.non,v,h,k=>by unfold DV at h k;obtain⟨a,us,rfl,q,r⟩:=h;cases k
 | .tup xs,.bl b,v,h,k=>by unfold DV at h k;obtain⟨a,us,rfl,q,r⟩:=h;cases k
 | .tup xs,.int b,v,h,k=>by unfold DV at h k;obtain⟨a,us,rfl,q,r⟩:=h;cases k
 | .tup xs,.str b,v,h,k=>by unfold DV at h k;obtain⟨a,us,rfl,q,r⟩:=h;cases k
 | .tup xs,.tup ys,v,h,k=>by
  unfold DV at h k
  obtain⟨a,us,rfl,q,r⟩:=h
  obtain⟨a',us',e,q',r'⟩:=k
  cases e
  have:=I.tuple_inj q q'
  subst this
  unfold eqD
  exact pH I xs ys us r r'
 | .tup xs,.lst ys,v,h,k=>by
  unfold DV at h k
  obtain⟨a,us,rfl,q,r⟩:=h
  obtain⟨a',us',e,q',r'⟩:=k
  cases e
  exact(yK I q' q).elim
 | .lst xs,.non,v,h,k=>by unfold DV at h k;obtain⟨a,us,rfl,q,r⟩:=h;cases k
 | .lst xs,.bl b,v,h,k=>by unfold DV at h k;obtain⟨a,us,rfl,q,r⟩:=h;cases k
 | .lst xs,.int b,v,h,k=>by unfold DV at h k;obtain⟨a,us,rfl,q,r⟩:=h;cases k
 | .lst xs,.str b,v,h,k=>by unfold DV at h k;obtain⟨a,us,rfl,q,r⟩:=h;cases k
 | .lst xs,.tup ys,v,h,k=>by
  unfold DV at h k
  obtain⟨a,us,rfl,q,r⟩:=h
  obtain⟨a',us',e,q',r'⟩:=k
  cases e
  exact(yK I q q').elim
 | .lst xs,.lst ys,v,h,k=>by
  unfold DV at h k
  obtain⟨a,us,rfl,q,r⟩:=h
  obtain⟨a',us',e,q',r'⟩:=k
  cases e
  have:=I.list_inj q q'
  subst this
  unfold eqD
  exact pH I xs ys us r r'
 | .ro _,_,v,h,_=>by unfold DV at h;exact h.elim
 | .dic _,_,v,h,_=>by unfold DV at h;exact h.elim
 | .cell _,_,v,h,_=>by unfold DV at h;exact h.elim
 |_,.ro _,v,_,k=>by unfold DV at k;exact k.elim
 |_,.dic _,v,_,k=>by unfold DV at k;exact k.elim
 |_,.cell _,v,_,k=>by unfold DV at k;exact k.elim
theorem pH(I:Inv X pins σ H s):∀(xs ys:List D)(vs:List V),DVL X.K H xs vs->DVL X.K H ys vs->gQ xs ys=true
 | [],[],vs,_,_=>by unfold gQ;rfl
 | [],y::ys,vs,h,k=>by unfold DVL at h k;subst h;obtain⟨u,us,e,_⟩:=k;cases e
 |x::xs,[],vs,h,k=>by unfold DVL at h k;subst k;obtain⟨u,us,e,_⟩:=h;cases e
 |x::xs,y::ys,vs,h,k=>by
  unfold DVL at h k
  obtain⟨u,us,rfl,p,r⟩:=h
  obtain⟨u',us',e,p',r'⟩:=k
  cases e
  unfold gQ
  rw[qM I x y u p p',pH I xs ys us r r'];rfl
end
def sk:D->D->Bool
 | .tup _,.tup _=>true
 | .lst _,.lst _=>true
 |_,_=>false
def Vw(s:Shared):D->Value->Prop
 | .non,v=>v= .none
 | .bl b,v=>v= .bool b
 | .int i,v=>∃t,v= .int i t
 | .str z,v=>∃t,v= .str z t
 | .tup _,v=>∃a its,v= .ref a/\IsTup s.heap a its
 | .lst _,v=>∃a its,v= .ref a/\s.heap.IsList a its
 |_,_=>False
theorem vw{x:D}{v:V}{vv:Value}(I:Inv X pins σ H s)(h:DV X.K H x v)(rv:RelV v vv):Vw s x vv:=by
 cases x<;>unfold DV at h
 case tup=>obtain⟨a,us,rfl,q,r⟩:=h;obtain⟨_,_,pl,_⟩:=I.tuple q;exact⟨a,_,rv,pl⟩
 case lst=>obtain⟨a,us,rfl,q,r⟩:=h;obtain⟨_,_,pl,_⟩:=I.list q;exact⟨a,_,rv,pl.isList⟩
 case ro=>exact h.elim
 case dic=>exact h.elim
 case cell=>exact h.elim
 all_goals subst h;exact rv
theorem lu{vv uu:Value}{A:Around}(hu:A.units<cLine):∀(x y:D),Vw s x vv->Vw s y uu->sk x y=false->EqAt A s vv uu (eqD x y)
 | .non,.non,rfl,rfl,_=>by unfold eqD;exact EqAt.same _
 | .non,.bl _,rfl,rfl,_=>by unfold eqD;exact EqAt.none_bool _
 | .non,.int _,rfl,⟨_,rfl⟩,_=>by unfold eqD;exact EqAt.none_int _ _
 | .non,.str _,rfl,⟨_,rfl⟩,_=>by unfold eqD;exact EqAt.none_str _ _
 | .non,.tup _,rfl,⟨_,_,rfl,m⟩,_=>by unfold eqD;exact EqAt.none_tuple m hu
 | .non,.lst _,rfl,⟨_,_,rfl,m⟩,_=>by unfold eqD;exact EqAt.none_list m hu
 | .bl _,.non,rfl,rfl,_=>by unfold eqD;exact EqAt.bool_none _
 | .bl _,.bl _,rfl,rfl,_=>by unfold eqD;exact EqAt.bool_bool _ _
 | .bl _,.int _,rfl,⟨_,rfl⟩,_=>by unfold eqD;exact EqAt.bool_int _ _ _
 | .bl _,.str _,rfl,⟨_,rfl⟩,_=>by unfold eqD;exact EqAt.bool_str _ _ _
 | .bl _,.tup _,rfl,⟨_,_,rfl,m⟩,_=>by unfold eqD;exact EqAt.bool_tuple _ m hu
 | .bl _,.lst _,rfl,⟨_,_,rfl,m⟩,_=>by unfold eqD;exact EqAt.bool_list _ m hu
 | .int _,.non,⟨_,rfl⟩,rfl,_=>by unfold eqD;exact EqAt.int_none _ _
 | .int _,.bl _,⟨_,rfl⟩,rfl,_=>by unfold eqD;exact EqAt.int_bool _ _ _
 | .int _,.int _,⟨_,rfl⟩,⟨_,rfl⟩,_=>by unfold eqD;exact EqAt.int_int _ _ _ _
 | .int _,.str _,⟨_,rfl⟩,⟨_,rfl⟩,_=>by unfold eqD;exact EqAt.int_str _ _ _ _
 | .int _,.tup _,⟨_,rfl⟩,⟨_,_,rfl,m⟩,_=>by unfold eqD;exact EqAt.int_tuple _ _ m hu
 | .int _,.lst _,⟨_,rfl⟩,⟨_,_,rfl,m⟩,_=>by unfold eqD;exact EqAt.int_list _ _ m hu
 | .str _,.non,⟨_,rfl⟩,rfl,_=>by unfold eqD;exact EqAt.str_none _ _
 | .str _,.bl _,⟨_,rfl⟩,rfl,_=>by unfold eqD;exact EqAt.str_bool _ _ _
 | .str _,.int _,⟨_,rfl⟩,⟨_,rfl⟩,_=>by unfold eqD;exact EqAt.str_int _ _ _ _
 | .str _,.str _,⟨_,rfl⟩,⟨_,rfl⟩,_=>by unfold eqD;exact EqAt.str_str _ _ _ _
 | .str _,.tup _,⟨_,rfl⟩,⟨_,_,rfl,m⟩,_=>by unfold eqD;exact EqAt.str_tuple _ _ m hu
 | .str _,.lst _,⟨_,rfl⟩,⟨_,_,rfl,m⟩,_=>by unfold eqD;exact EqAt.str_list _ _ m hu
 | .tup _,.non,⟨_,_,rfl,l⟩,rfl,_=>by unfold eqD;exact EqAt.tuple_none l hu
 | .tup _,.bl _,⟨_,_,rfl,l⟩,rfl,_=>by unfold eqD;exact EqAt.tuple_bool _ l hu
 | .tup _,.int _,⟨_,_,rfl,l⟩,⟨_,rfl⟩,_=>by unfold eqD;exact EqAt.tuple_int _ _ l hu
 | .tup _,.str _,⟨_,_,rfl,l⟩,⟨_,rfl⟩,_=>by unfold eqD;exact EqAt.tuple_str _ _ l hu
 | .tup _,.tup _,_,_,h=>nomatch h
 | .tup _,.lst _,⟨_,_,rfl,l⟩,⟨_,_,rfl,m⟩,_=>by unfold eqD;exact EqAt.tuple_list l m hu
 | .lst _,.non,⟨_,_,rfl,l⟩,rfl,_=>by unfold eqD;exact EqAt.list_none l hu
 | .lst _,.bl _,⟨_,_,rfl,l⟩,rfl,_=>by unfold eqD;exact EqAt.list_bool _ l hu
 | .lst _,.int _,⟨_,_,rfl,l⟩,⟨_,rfl⟩,_=>by unfold eqD;exact EqAt.list_int _ _ l hu
 | .lst _,.str _,⟨_,_,rfl,l⟩,⟨_,rfl⟩,_=>by unfold eqD;exact EqAt.list_str _ _ l hu
 | .lst _,.tup _,⟨_,_,rfl,l⟩,⟨_,_,rfl,m⟩,_=>by unfold eqD;exact EqAt.list_tuple l m hu
 | .lst _,.lst _,_,_,h=>nomatch h
 | .ro _,_,p,_,_=>p.elim
 |_,.ro _,_,p,_=>p.elim
 | .dic _,_,p,_,_=>p.elim
 |_,.dic _,_,p,_=>p.elim
 | .cell _,_,p,_,_=>p.elim
 |_,.cell _,_,p,_=>p.elim
theorem kJ{vv uu:Value}{A:Around}(hu:A.units<cLine):∀(x y:D),Vw s x vv->Vw s y uu->sk x y=false->RcAt A s vv uu (eqD x y)
 | .non,.non,rfl,rfl,_=>by unfold eqD;exact RcAt.none_none
 | .non,.bl _,rfl,rfl,_=>by unfold eqD;exact RcAt.none_bool _
 | .non,.int _,rfl,⟨_,rfl⟩,_=>by unfold eqD;exact RcAt.none_int _ _
 | .non,.str _,rfl,⟨_,rfl⟩,_=>by unfold eqD;exact RcAt.none_str _ _
 | .non,.tup _,rfl,⟨_,_,rfl,m⟩,_=>by unfold eqD;exact RcAt.none_tuple m hu
 | .non,.lst _,rfl,⟨_,_,rfl,m⟩,_=>by unfold eqD;exact RcAt.none_list m hu
 | .bl _,.non,rfl,rfl,_=>by unfold eqD;exact RcAt.bool_none _
 | .bl _,.bl _,rfl,rfl,_=>by unfold eqD;exact RcAt.bool_bool _ _
 | .bl _,.int _,rfl,⟨_,rfl⟩,_=>by unfold eqD;exact RcAt.bool_int _ _ _
 | .bl _,.str _,rfl,⟨_,rfl⟩,_=>by unfold eqD;exact RcAt.bool_str _ _ _
 | .bl _,.tup _,rfl,⟨_,_,rfl,m⟩,_=>by unfold eqD;exact RcAt.bool_tuple _ m hu
 | .bl _,.lst _,rfl,⟨_,_,rfl,m⟩,_=>by unfold eqD;exact RcAt.bool_list _ m hu
 | .int _,.non,⟨_,rfl⟩,rfl,_=>by unfold eqD;exact RcAt.int_none _ _
 | .int _,.bl _,⟨_,rfl⟩,rfl,_=>by unfold eqD;exact RcAt.int_bool _ _ _
 | .int _,.int _,⟨_,rfl⟩,⟨_,rfl⟩,_=>by unfold eqD;exact RcAt.int_int _ _ _ _
 | .int _,.str _,⟨_,rfl⟩,⟨_,rfl⟩,_=>by unfold eqD;exact RcAt.int_str _ _ _ _
 | .int _,.tup _,⟨_,rfl⟩,⟨_,_,rfl,m⟩,_=>by unfold eqD;exact RcAt.int_tuple _ _ m hu
 | .int _,.lst _,⟨_,rfl⟩,⟨_,_,rfl,m⟩,_=>by unfold eqD;exact RcAt.int_list _ _ m hu
 | .str _,.non,⟨_,rfl⟩,rfl,_=>by unfold eqD;exact RcAt.str_none _ _
 | .str _,.bl _,⟨_,rfl⟩,rfl,_=>by unfold eqD;exact RcAt.str_bool _ _ _
 | .str _,.int _,⟨_,rfl⟩,⟨_,rfl⟩,_=>by unfold eqD;exact RcAt.str_int _ _ _ _
 | .str _,.str _,⟨_,rfl⟩,⟨_,rfl⟩,_=>by unfold eqD;exact RcAt.str_str _ _ _ _
 | .str _,.tup _,⟨_,rfl⟩,⟨_,_,rfl,m⟩,_=>by unfold eqD;exact RcAt.str_tuple _ _ m hu
 | .str _,.lst _,⟨_,rfl⟩,⟨_,_,rfl,m⟩,_=>by unfold eqD;exact RcAt.str_list _ _ m hu
 | .tup _,.non,⟨_,_,rfl,l⟩,rfl,_=>by unfold eqD;exact RcAt.tuple_none l hu
 | .tup _,.bl _,⟨_,_,rfl,l⟩,rfl,_=>by unfold eqD;exact RcAt.tuple_bool _ l hu
 | .tup _,.int _,⟨_,_,rfl,l⟩,⟨_,rfl⟩,_=>by unfold eqD;exact RcAt.tuple_int _ _ l hu
 | .tup _,.str _,⟨_,_,rfl,l⟩,⟨_,rfl⟩,_=>by unfold eqD;exact RcAt.tuple_str _ _ l hu
 | .tup _,.tup _,_,_,h=>nomatch h
 | .tup _,.lst _,⟨_,_,rfl,l⟩,⟨_,_,rfl,m⟩,_=>by unfold eqD;exact RcAt.tuple_list l m hu
 | .lst _,.non,⟨_,_,rfl,l⟩,rfl,_=>by unfold eqD;exact RcAt.list_none l hu
 | .lst _,.bl _,⟨_,_,rfl,l⟩,rfl,_=>by unfold eqD;exact RcAt.list_bool _ l hu
 | .lst _,.int _,⟨_,_,rfl,l⟩,⟨_,rfl⟩,_=>by unfold eqD;exact RcAt.list_int _ _ l hu
 | .lst _,.str _,⟨_,_,rfl,l⟩,⟨_,rfl⟩,_=>by unfold eqD;exact RcAt.list_str _ _ l hu
 | .lst _,.tup _,⟨_,_,rfl,l⟩,⟨_,_,rfl,m⟩,_=>by unfold eqD;exact RcAt.list_tuple l m hu
 | .lst _,.lst _,_,_,h=>nomatch h
 | .ro _,_,p,_,_=>p.elim
 |_,.ro _,_,p,_=>p.elim
 | .dic _,_,p,_,_=>p.elim
 |_,.dic _,_,p,_=>p.elim
 | .cell _,_,p,_,_=>p.elim
 |_,.cell _,_,p,_=>p.elim
theorem lr{vv uu:Value}{A:Around}(hu:A.units<cLine):∀(x y:D),Vw s x vv->Vw s y uu->sk x y=false->RcNeAt A s vv uu (!eqD x y)
 | .non,.non,rfl,rfl,_=>by unfold eqD;exact RcNeAt.none_none
 | .non,.bl _,rfl,rfl,_=>by unfold eqD;exact RcNeAt.none_bool _
 | .non,.int _,rfl,⟨_,rfl⟩,_=>by unfold eqD;exact RcNeAt.none_int _ _
 | .non,.str _,rfl,⟨_,rfl⟩,_=>by unfold eqD;exact RcNeAt.none_str _ _
 | .non,.tup _,rfl,⟨_,_,rfl,m⟩,_=>by unfold eqD;exact RcNeAt.none_tuple m hu
 | .non,.lst _,rfl,⟨_,_,rfl,m⟩,_=>by unfold eqD;exact RcNeAt.none_list m hu
 | .bl _,.non,rfl,rfl,_=>by unfold eqD;exact RcNeAt.bool_none _
 | .bl _,.bl _,rfl,rfl,_=>by unfold eqD;exact RcNeAt.bool_bool _ _
 | .bl _,.int _,rfl,⟨_,rfl⟩,_=>by unfold eqD;exact RcNeAt.bool_int _ _ _
 | .bl _,.str _,rfl,⟨_,rfl⟩,_=>by unfold eqD;exact RcNeAt.bool_str _ _ _
 | .bl _,.tup _,rfl,⟨_,_,rfl,m⟩,_=>by unfold eqD;exact RcNeAt.bool_tuple _ m hu
 | .bl _,.lst _,rfl,⟨_,_,rfl,m⟩,_=>by unfold eqD;exact RcNeAt.bool_list _ m hu
 | .int _,.non,⟨_,rfl⟩,rfl,_=>by unfold eqD;exact RcNeAt.int_none _ _
 | .int _,.bl _,⟨_,rfl⟩,rfl,_=>by unfold eqD;exact RcNeAt.int_bool _ _ _
 | .int _,.int _,⟨_,rfl⟩,⟨_,rfl⟩,_=>by unfold eqD;exact RcNeAt.int_int _ _ _ _
 | .int _,.str _,⟨_,rfl⟩,⟨_,rfl⟩,_=>by unfold eqD;exact RcNeAt.int_str _ _ _ _
 | .int _,.tup _,⟨_,rfl⟩,⟨_,_,rfl,m⟩,_=>by unfold eqD;exact RcNeAt.int_tuple _ _ m hu
 | .int _,.lst _,⟨_,rfl⟩,⟨_,_,rfl,m⟩,_=>by unfold eqD;exact RcNeAt.int_list _ _ m hu
 | .str _,.non,⟨_,rfl⟩,rfl,_=>by unfold eqD;exact RcNeAt.str_none _ _
 | .str _,.bl _,⟨_,rfl⟩,rfl,_=>by unfold eqD;exact RcNeAt.str_bool _ _ _
 | .str _,.int _,⟨_,rfl⟩,⟨_,rfl⟩,_=>by unfold eqD;exact RcNeAt.str_int _ _ _ _
 | .str _,.str _,⟨_,rfl⟩,⟨_,rfl⟩,_=>by unfold eqD;exact RcNeAt.str_str _ _ _ _
 | .str _,.tup _,⟨_,rfl⟩,⟨_,_,rfl,m⟩,_=>by unfold eqD;exact RcNeAt.str_tuple _ _ m hu
 | .str _,.lst _,⟨_,rfl⟩,⟨_,_,rfl,m⟩,_=>by unfold eqD;exact RcNeAt.str_list _ _ m hu
 | .tup _,.non,⟨_,_,rfl,l⟩,rfl,_=>by unfold eqD;exact RcNeAt.tuple_none l hu
 | .tup _,.bl _,⟨_,_,rfl,l⟩,rfl,_=>by unfold eqD;exact RcNeAt.tuple_bool _ l hu
 | .tup _,.int _,⟨_,_,rfl,l⟩,⟨_,rfl⟩,_=>by unfold eqD;exact RcNeAt.tuple_int _ _ l hu
 | .tup _,.str _,⟨_,_,rfl,l⟩,⟨_,rfl⟩,_=>by unfold eqD;exact RcNeAt.tuple_str _ _ l hu
 | .tup _,.tup _,_,_,h=>nomatch h
 | .tup _,.lst _,⟨_,_,rfl,l⟩,⟨_,_,rfl,m⟩,_=>by unfold eqD;exact RcNeAt.tuple_list l m hu
 | .lst _,.non,⟨_,_,rfl,l⟩,rfl,_=>by unfold eqD;exact RcNeAt.list_none l hu
 | .lst _,.bl _,⟨_,_,rfl,l⟩,rfl,_=>by unfold eqD;exact RcNeAt.list_bool _ l hu
 | .lst _,.int _,⟨_,_,rfl,l⟩,⟨_,rfl⟩,_=>by unfold eqD;exact RcNeAt.list_int _ _ l hu
 | .lst _,.str _,⟨_,_,rfl,l⟩,⟨_,rfl⟩,_=>by unfold eqD;exact RcNeAt.list_str _ _ l hu
 | .lst _,.tup _,⟨_,_,rfl,l⟩,⟨_,_,rfl,m⟩,_=>by unfold eqD;exact RcNeAt.list_tuple l m hu
 | .lst _,.lst _,_,_,h=>nomatch h
 | .ro _,_,p,_,_=>p.elim
 |_,.ro _,_,p,_=>p.elim
 | .dic _,_,p,_,_=>p.elim
 |_,.dic _,_,p,_=>p.elim
 | .cell _,_,p,_,_=>p.elim
 |_,.cell _,_,p,_=>p.elim
theorem wA{xs ys:List D}{us ws:List V}{its0 its1:List Value}{A:Around}(r:DVL X.K H xs us)(r2:DVL X.K H ys ws)(iv0:Vals us its0)(iv1:Vals ws its1)
  (E:∀(j:Nat)(x y:D),xs[j]? =some x->ys[j]? =some y->∀(z z':Value),its0[j]? =some z->its1[j]? =some z'->EqAt A.in1 s z z' (eqD x y)) (j:Nat) (h1:j<its0.toArray.size) (h2:j<its1.toArray.size):EqAt A.in1 s its0.toArray[j] its1.toArray[j] (qb xs ys j):=by
 have h1':j<its0.length:=by simpa using h1
 have h2':j<its1.length:=by simpa using h2
 obtain⟨d,e1,dv⟩:=DVL.get' r (show us[j]? =some (us[j]'(by rw[iv0.length];exact h1')) by simp)
 obtain⟨d',e2,dv'⟩:=DVL.get' r2 (show ws[j]? =some (ws[j]'(by rw[iv1.length];exact h2')) by simp)
 obtain⟨z,ez,rz⟩:=iv0.get (show us[j]? =some (us[j]'(by rw[iv0.length];exact h1')) by simp)
 obtain⟨z',ez',rz'⟩:=iv1.get (show ws[j]? =some (ws[j]'(by rw[iv1.length];exact h2')) by simp)
 have f1:its0.toArray[j]=z:=by simpa[h1']using ez
 have f2:its1.toArray[j]=z':=by simpa[h2']using ez'
 rw[f1,f2]
 have:=E j d d' e1 e2 z z' ez ez'
 unfold qb
 rw[e1,e2]
 exact this
theorem An{xs ys:List D}{us ws:List V}{its0 its1:List Value}{a b:Addr}{A:Around}(pl0:IsTup s.heap a its0.toArray)(pl1:IsTup s.heap b its1.toArray)(r:DVL X.K H xs us)(r2:DVL X.K H ys ws)(iv0:Vals us its0)(iv1:Vals ws its1)(hu:A.units<cLine)
  (E:∀(j:Nat)(x y:D),xs[j]? =some x->ys[j]? =some y->∀(z z':Value),its0[j]? =some z->its1[j]? =some z'->EqAt A.in1 s z z' (eqD x y)):RcAt A s (.ref a) (.ref b) (gQ xs ys):=by
 have hl0:its0.toArray.size=xs.length:=by rw[Zd,<-iv0.length,<-DVL.length r]
 have hl1:its1.toArray.size=ys.length:=by rw[Zd,<-iv1.length,<-DVL.length r2]
 have rc:=RcAt.tuples (A:=A) (e:=qb xs ys) pl0 pl1 (by omega) (wA r r2 iv0 iv1 E)
 rw[hl0,hl1,yH]at rc
 exact rc
theorem Aq{xs ys:List D}{us ws:List V}{its0 its1:List Value}{a b:Addr}{A:Around}(pl0:PlainL s.heap a its0.toArray)(pl1:PlainL s.heap b its1.toArray)(r:DVL X.K H xs us)(r2:DVL X.K H ys ws)(iv0:Vals us its0)(iv1:Vals ws its1)(hu:A.units<cLine)
  (E:∀(j:Nat)(x y:D),xs[j]? =some x->ys[j]? =some y->∀(z z':Value),its0[j]? =some z->its1[j]? =some z'->EqAt A.in1 s z z' (eqD x y)):RcAt A s (.ref a) (.ref b) (gQ xs ys):=by
 have hl0:its0.toArray.size=xs.length:=by rw[Zd,<-iv0.length,<-DVL.length r]
 have hl1:its1.toArray.size=ys.length:=by rw[Zd,<-iv1.length,<-DVL.length r2]
 by_cases hlen:xs.length=ys.length
 .have rc:=RcAt.lists (A:=A) (e:=qb xs ys) pl0.isList pl1.isList (by rw[hl0,hl1,hlen]) (by omega) (wA r r2 iv0 iv1 E)
  rw[hl0,lq _ _ hlen]at rc
  exact rc
 .rw[oZ _ _ hlen]
  exact RcAt.lists_lengths pl0.isList pl1.isList (by rw[hl0,hl1];simpa using hlen) (by omega)
theorem Jr{xs ys:List D}{us ws:List V}{its0 its1:List Value}{a b:Addr}{A:Around}(pl0:IsTup s.heap a its0.toArray)(pl1:IsTup s.heap b its1.toArray)(r:DVL X.K H xs us)(r2:DVL X.K H ys ws)(iv0:Vals us its0)(iv1:Vals ws its1)(hu:A.units<cLine)
  (E:∀(j:Nat)(x y:D),xs[j]? =some x->ys[j]? =some y->∀(z z':Value),its0[j]? =some z->its1[j]? =some z'->EqAt A.in1 s z z' (eqD x y)):RcNeAt A s (.ref a) (.ref b) (!gQ xs ys):=by
 have hl0:its0.toArray.size=xs.length:=by rw[Zd,<-iv0.length,<-DVL.length r]
 have hl1:its1.toArray.size=ys.length:=by rw[Zd,<-iv1.length,<-DVL.length r2]
 have rc:=RcNeAt.tuples (A:=A) (e:=qb xs ys) pl0 pl1 (by omega) (wA r r2 iv0 iv1 E)
 rw[hl0,hl1,yH]at rc
 exact rc
theorem Ks{xs ys:List D}{us ws:List V}{its0 its1:List Value}{a b:Addr}{A:Around}(pl0:PlainL s.heap a its0.toArray)(pl1:PlainL s.heap b its1.toArray)(r:DVL X.K H xs us)(r2:DVL X.K H ys ws)(iv0:Vals us its0)(iv1:Vals ws its1)(hu:A.units<cLine)
  (E:∀(j:Nat)(x y:D),xs[j]? =some x->ys[j]? =some y->∀(z z':Value),its0[j]? =some z->its1[j]? =some z'->EqAt A.in1 s z z' (eqD x y)):RcNeAt A s (.ref a) (.ref b) (!gQ xs ys):=by
 have hl0:its0.toArray.size=xs.length:=by rw[Zd,<-iv0.length,<-DVL.length r]
 have hl1:its1.toArray.size=ys.length:=by rw[Zd,<-iv1.length,<-DVL.length r2]
 by_cases hlen:xs.length=ys.length
 .have rc:=RcNeAt.lists (A:=A) (e:=qb xs ys) pl0.isList pl1.isList (by rw[hl0,hl1,hlen]) (by omega) (wA r r2 iv0 iv1 E)
  rw[hl0,lq _ _ hlen]at rc
  exact rc
 .rw[oZ _ _ hlen]
  exact RcNeAt.lists_lengths pl0.isList pl1.isList (by rw[hl0,hl1];simpa using hlen) (by omega)
mutual
theorem NT(I:Inv X pins σ H s):∀(x y:D)(v u:V)(vv uu:Value)(A:Around),DV X.K H x v->DV X.K H y u->RelV v vv->RelV u uu->A.units+gV x<cLine->EqAt A s vv uu (eqD x y)
 | .tup xs,y,v,u,vv,uu,A,h,k,rv,ru,hu=>by
  cases y with
  |tup ys=>
   have h0:=h
   have k0:=k
   unfold DV at h k;unfold gV at hu
   obtain⟨a,us,rfl,q,r⟩:=h;cases rv;obtain⟨its0,iv0,pl0,hz0⟩:=I.tuple q;obtain⟨b,ws,rfl,p,r2⟩:=k;cases ru;obtain⟨its1,iv1,pl1,hz1⟩:=I.tuple p
   by_cases hab:a=b
   .subst hab
    rw[qM I _ _ _ h0 k0]
    exact EqAt.same _
   .unfold eqD
    exact EqAt.of_refs hab (An pl0 pl1 r r2 iv0 iv1 (by omega) (kj I xs ys us ws its0 its1 A.in1 r r2 iv0 iv1 (by rw[units_in1];omega)))
  |_=>exact lu (by omega) _ _ (vw I h rv) (vw I k ru) rfl
 | .lst xs,y,v,u,vv,uu,A,h,k,rv,ru,hu=>by
  cases y with
  |lst ys=>
   have h0:=h
   have k0:=k
   unfold DV at h k;unfold gV at hu
   obtain⟨a,us,rfl,q,r⟩:=h;cases rv;obtain⟨its0,iv0,pl0,hz0⟩:=I.list q;obtain⟨b,ws,rfl,p,r2⟩:=k;cases ru;obtain⟨its1,iv1,pl1,hz1⟩:=I.list p
   by_cases hab:a=b
   .subst hab
    rw[qM I _ _ _ h0 k0]
    exact EqAt.same _
   .unfold eqD
    exact EqAt.of_refs hab (Aq pl0 pl1 r r2 iv0 iv1 (by omega) (kj I xs ys us ws its0 its1 A.in1 r r2 iv0 iv1 (by rw[units_in1];omega)))
  |_=>exact lu (by omega) _ _ (vw I h rv) (vw I k ru) rfl
 | .non,y,v,u,vv,uu,A,h,k,rv,ru,hu=>lu (by omega) _ _ (vw I h rv) (vw I k ru) (by cases y<;>rfl)
 | .bl _,y,v,u,vv,uu,A,h,k,rv,ru,hu=>lu (by omega) _ _ (vw I h rv) (vw I k ru) (by cases y<;>rfl)
 | .int _,y,v,u,vv,uu,A,h,k,rv,ru,hu=>lu (by omega) _ _ (vw I h rv) (vw I k ru) (by cases y<;>rfl)
 | .str _,y,v,u,vv,uu,A,h,k,rv,ru,hu=>lu (by omega) _ _ (vw I h rv) (vw I k ru) (by cases y<;>rfl)
 | .ro _,y,v,u,vv,uu,A,h,k,rv,ru,hu=>lu (by omega) _ _ (vw I h rv) (vw I k ru) (by cases y<;>rfl)
 | .dic _,y,v,u,vv,uu,A,h,k,rv,ru,hu=>lu (by omega) _ _ (vw I h rv) (vw I k ru) (by cases y<;>rfl)
 | .cell _,y,v,u,vv,uu,A,h,k,rv,ru,hu=>lu (by omega) _ _ (vw I h rv) (vw I k ru) (by cases y<;>rfl)
theorem kj(I:Inv X pins σ H s):∀(xs ys:List D)(vs us:List V)(vvs uus:List Value)(A:Around),DVL X.K H xs vs->DVL X.K H ys us->Vals vs vvs->Vals us uus->A.units+iV xs<cLine->
  ∀(j:Nat)(x y:D),xs[j]? =some x->ys[j]? =some y->∀(z z':Value),vvs[j]? =some z->uus[j]? =some z'->EqAt A s z z' (eqD x y)
 | [],ys,vs,us,vvs,uus,A,_,_,_,_,_=>λj x y e=>by simp at e
 |x::xs,[],vs,us,vvs,uus,A,_,_,_,_,_=>λj _ y _ e=>by simp at e
 |x::xs,y::ys,vs,us,vvs,uus,A,h,k,rv,ru,hu=>by
  unfold DVL at h k
  unfold iV at hu
  obtain⟨v,vs',rfl,p,r⟩:=h
  obtain⟨u,us',rfl,p',r'⟩:=k
  cases rv with
  |cons rv1 rv2=>
   cases ru with
   |cons ru1 ru2=>
    intro j x' y' e1 e2 z z' ez ez'
    cases j with
    |zero=>
     simp at e1 e2 ez ez'
     subst e1 e2 ez ez'
     exact NT I x y v u _ _ A p p' rv1 ru1 (by omega)
    |succ j=>
     exact kj I xs ys vs' us' _ _ A r r' rv2 ru2 (by omega) j x' y' (by simpa using e1) (by simpa using e2) z z' (by simpa using ez) (by simpa using ez')
end
theorem Lr(I:Inv X pins σ H s):∀(x y:D)(v u:V)(vv uu:Value)(A:Around),DV X.K H x v->DV X.K H y u->RelV v vv->RelV u uu->A.units+gV x<cLine->RcAt A s vv uu (eqD x y)
 | .tup xs,y,v,u,vv,uu,A,h,k,rv,ru,hu=>by
  cases y with
  |tup ys=>
   unfold DV at h k;unfold gV at hu
   obtain⟨a,us,rfl,q,r⟩:=h;cases rv;obtain⟨its0,iv0,pl0,hz0⟩:=I.tuple q;obtain⟨b,ws,rfl,p,r2⟩:=k;cases ru;obtain⟨its1,iv1,pl1,hz1⟩:=I.tuple p
   unfold eqD
   exact An pl0 pl1 r r2 iv0 iv1 (by omega) (kj I xs ys us ws its0 its1 A.in1 r r2 iv0 iv1 (by rw[units_in1];omega))
  |_=>exact kJ (by omega) _ _ (vw I h rv) (vw I k ru) rfl
 | .lst xs,y,v,u,vv,uu,A,h,k,rv,ru,hu=>by
  cases y with
  |lst ys=>
   unfold DV at h k;unfold gV at hu
   obtain⟨a,us,rfl,q,r⟩:=h;cases rv;obtain⟨its0,iv0,pl0,hz0⟩:=I.list q;obtain⟨b,ws,rfl,p,r2⟩:=k;cases ru;obtain⟨its1,iv1,pl1,hz1⟩:=I.list p
   unfold eqD
   exact Aq pl0 pl1 r r2 iv0 iv1 (by omega) (kj I xs ys us ws its0 its1 A.in1 r r2 iv0 iv1 (by rw[units_in1];omega))
  |_=>exact kJ (by omega) _ _ (vw I h rv) (vw I k ru) rfl
 | .non,y,v,u,vv,uu,A,h,k,rv,ru,hu=>kJ (by omega) _ _ (vw I h rv) (vw I k ru) (by cases y<;>rfl)
 | .bl _,y,v,u,vv,uu,A,h,k,rv,ru,hu=>kJ (by omega) _ _ (vw I h rv) (vw I k ru) (by cases y<;>rfl)
 | .int _,y,v,u,vv,uu,A,h,k,rv,ru,hu=>kJ (by omega) _ _ (vw I h rv) (vw I k ru) (by cases y<;>rfl)
 | .str _,y,v,u,vv,uu,A,h,k,rv,ru,hu=>kJ (by omega) _ _ (vw I h rv) (vw I k ru) (by cases y<;>rfl)
 | .ro _,y,v,u,vv,uu,A,h,k,rv,ru,hu=>kJ (by omega) _ _ (vw I h rv) (vw I k ru) (by cases y<;>rfl)
 | .dic _,y,v,u,vv,uu,A,h,k,rv,ru,hu=>kJ (by omega) _ _ (vw I h rv) (vw I k ru) (by cases y<;>rfl)
 | .cell _,y,v,u,vv,uu,A,h,k,rv,ru,hu=>kJ (by omega) _ _ (vw I h rv) (vw I k ru) (by cases y<;>rfl)
theorem Ms(I:Inv X pins σ H s):∀(x y:D)(v u:V)(vv uu:Value)(A:Around),DV X.K H x v->DV X.K H y u->RelV v vv->RelV u uu->A.units+gV x<cLine->RcNeAt A s vv uu (!eqD x y)
 | .tup xs,y,v,u,vv,uu,A,h,k,rv,ru,hu=>by
  cases y with
  |tup ys=>
   unfold DV at h k;unfold gV at hu
   obtain⟨a,us,rfl,q,r⟩:=h;cases rv;obtain⟨its0,iv0,pl0,hz0⟩:=I.tuple q;obtain⟨b,ws,rfl,p,r2⟩:=k;cases ru;obtain⟨its1,iv1,pl1,hz1⟩:=I.tuple p
   unfold eqD
   exact Jr pl0 pl1 r r2 iv0 iv1 (by omega) (kj I xs ys us ws its0 its1 A.in1 r r2 iv0 iv1 (by rw[units_in1];omega))
  |_=>exact lr (by omega) _ _ (vw I h rv) (vw I k ru) rfl
 | .lst xs,y,v,u,vv,uu,A,h,k,rv,ru,hu=>by
  cases y with
  |lst ys=>
   unfold DV at h k;unfold gV at hu
   obtain⟨a,us,rfl,q,r⟩:=h;cases rv;obtain⟨its0,iv0,pl0,hz0⟩:=I.list q;obtain⟨b,ws,rfl,p,r2⟩:=k;cases ru;obtain⟨its1,iv1,pl1,hz1⟩:=I.list p
   unfold eqD
   exact Ks pl0 pl1 r r2 iv0 iv1 (by omega) (kj I xs ys us ws its0 its1 A.in1 r r2 iv0 iv1 (by rw[units_in1];omega))
  |_=>exact lr (by omega) _ _ (vw I h rv) (vw I k ru) rfl
 | .non,y,v,u,vv,uu,A,h,k,rv,ru,hu=>lr (by omega) _ _ (vw I h rv) (vw I k ru) (by cases y<;>rfl)
 | .bl _,y,v,u,vv,uu,A,h,k,rv,ru,hu=>lr (by omega) _ _ (vw I h rv) (vw I k ru) (by cases y<;>rfl)
 | .int _,y,v,u,vv,uu,A,h,k,rv,ru,hu=>lr (by omega) _ _ (vw I h rv) (vw I k ru) (by cases y<;>rfl)
 | .str _,y,v,u,vv,uu,A,h,k,rv,ru,hu=>lr (by omega) _ _ (vw I h rv) (vw I k ru) (by cases y<;>rfl)
 | .ro _,y,v,u,vv,uu,A,h,k,rv,ru,hu=>lr (by omega) _ _ (vw I h rv) (vw I k ru) (by cases y<;>rfl)
 | .dic _,y,v,u,vv,uu,A,h,k,rv,ru,hu=>lr (by omega) _ _ (vw I h rv) (vw I k ru) (by cases y<;>rfl)
 | .cell _,y,v,u,vv,uu,A,h,k,rv,ru,hu=>lr (by omega) _ _ (vw I h rv) (vw I k ru) (by cases y<;>rfl)
end
def rsv(d:D)(μ:Mu):D:=match d with
 | .cell n=>match μ[n]? with
  |some (some ds)=>.lst ds
  |_=>d
 | .ro ds=>.lst ds
 |_=>d
theorem pF{K:PySem.W.Frag}{tb:List Addr}{W:Wd}{d:D}{v:V}(ok:WOk K tb W)(h:Den K tb W d v)(p:cX (rsv d W.mu)=true):DV K W.H (rsv d W.mu) v:=by
 cases d with
 |cell n=>
  obtain⟨a,rfl,q⟩:=gj h
  unfold rsv at p ⊢
  dsimp only at p ⊢
  cases e:W.mu[n]? with
  |none=>rw[e]at p;cases p
  |some o=>
   rw[e]at p
   cases o with
   |none=>cases p
   |some ds=>
    dsimp only at p ⊢
    unfold cX at p
    obtain⟨xs,ex,r⟩:=ok.cont n a ds q e
    unfold DV
    exact⟨a,xs,rfl,SqL.of ex,rT ds xs p r⟩
 |ro ds=>
  obtain⟨a,xs,rfl,q,r⟩:=wQ h
  have p':cX (.lst ds)=true:=p
  unfold cX at p'
  show DV K W.H (.lst ds) _
  unfold DV
  exact⟨a,xs,rfl,SqL.fz q,rT ds xs p' r⟩
 |_=>exact KC _ _ p h
def oEq:O2:=λx y μ=>if(cX (rsv x μ)&&cX (rsv y μ))=true/\gV (rsv x μ)<100 then some (.bl (eqD (rsv x μ) (rsv y μ)),μ)else none
def oNe:O2:=λx y μ=>if(cX (rsv x μ)&&cX (rsv y μ))=true/\gV (rsv x μ)<100 then some (.bl (!eqD (rsv x μ) (rsv y μ)),μ)else none
def rEqD(K:PySem.W.Frag):R2:=λv u H Q=>∃x y,DV K H x v/\DV K H y u/\gV x<100/\Q (.bl (eqD x y)) H
def rNeD(K:PySem.W.Frag):R2:=λv u H Q=>∃x y,DV K H x v/\DV K H y u/\gV x<100/\Q (.bl (!eqD x y)) H
section
variable {X:Cx} {tb:List Addr} {k:Nat}
theorem Nb(hr:cL k X.A):OpR X (compareOp .Eq) (rEqD X.K):=by
 intro pins s σ H v u vv uu Q I rv ru h
 obtain⟨x,y,hx,hy,hd,q⟩:=h
 have hun:=hr.un
 exact Lr I x y v u vv uu X.A hx hy rv ru (by omega) X.prog X.w X.xe _ ⟨.bl _,H,I,rfl,q⟩
theorem Hj(hr:cL k X.A):OpR X (compareOp .NotEq) (rNeD X.K):=by
 intro pins s σ H v u vv uu Q I rv ru h
 obtain⟨x,y,hx,hy,hd,q⟩:=h
 have hun:=hr.un
 exact Ms I x y v u vv uu X.A hx hy rv ru (by omega) X.prog X.w X.xe _ ⟨.bl _,H,I,rfl,q⟩
theorem iU(hr:cL k X.A):OpD X tb (compareOp .Eq) oEq:=⟨_,Nb hr,λW x y v u d μ' Q ok dx dy ho h=>by
 unfold oEq at ho
 split at ho
 .rename_i hc
  cases ho
  rw[Zo]at hc
  exact⟨_,_,pF ok dx hc.1.1,pF ok dy hc.1.2,hc.2,put ok h gm⟩
 .cases ho⟩
theorem uV(hr:cL k X.A):OpD X tb (compareOp .NotEq) oNe:=⟨_,Hj hr,λW x y v u d μ' Q ok dx dy ho h=>by
 unfold oNe at ho
 split at ho
 .rename_i hc
  cases ho
  rw[Zo]at hc
  exact⟨_,_,pF ok dx hc.1.1,pF ok dy hc.1.2,hc.2,put ok h gm⟩
 .cases ho⟩
end
end L3
namespace L2
open PySem PySem.Spec PyProof.Rows
section
variable {prog:Program} {w:World} {A:Around} {E:Value->Shared->Prop} {s:Shared}
theorem oY{it l:Addr}{i:Nat}{items}{x:Value}{Q:Value->Shared->Prop}(hit:s.heap.IsTupleIter it l i)(hl:s.heap.IsTuple l items)(hx:items[i]? =some x)
  (hQ:∀h',h'.IsTupleIter it l (i+1)->Heap.SameBut it s.heap h'->Q x { s with heap:=h'}):wpAny (model prog w) A (Builtin.SmallTypes.nextOf (.ref it)) Q E s:=by
 obtain⟨o,ho,hc,hd⟩:=id hit
 obtain⟨ol,hol,_,nl,hdl⟩:=hl
 unfold Builtin.SmallTypes.nextOf
 refine wpAny_bind (wpAny_callSpecial?_slot (name:=Str.ofString "__next__") hit.typeIs F.slot_tuple_iterator_next
  (wpAny_call_entry F.slot_tuple_iterator_next hit.typeIs F.entry_tuple_iterator_next ?_ (F.args_tuple_iterator_next_1 _)))
 show wpAny _ _ (field (.ref it) 0 >>= _) _ _ s
 refine wpAny_bind (wpAny_field ho hd (x:=.ref l) rfl ?_)
 show wpAny _ _ (if(Value.ref l==Value.none)=true then _ else _) _ _ s
 rw[if_neg (show¬((Value.ref l==Value.none)=true)from Zr)]
 show wpAny _ _ (field (.ref it) 1 >>= _) _ _ s
 refine wpAny_bind (wpAny_field ho hd (x:=.int i 0) rfl ?_)
 show wpAny _ _ (seqItems? (.ref l) >>= _) _ _ s
 refine wpAny_bind (wpAny_seqItems hol hdl ?_)
 simp only[Int.toNat_natCast,hx]
 refine wpAny_bind (wpAny_setField ho hd (by simp) (wpAny_pure ⟨x,rfl,wpAny_pure (hQ _ ?_ (Heap.SameBut.update ..))⟩))
 exact⟨_,Heap.get?_update_self _ ho (Obj.isFreed_of_fields (Obj.data_mapFields hd _)),(Obj.cls_mapFields ..).trans hc,by
  rw[Obj.data_mapFields hd];simp[rawInt]⟩
theorem pI{it l:Addr}{i:Nat}{items}{Q:Value->Shared->Prop}(hh:A.handled=none)(hit:s.heap.IsTupleIter it l i)(hl:s.heap.IsTuple l items)(hx:items[i]? =none)
  (hE:∀h' e,Heap.ExtBut it s.heap h'->(∃o,h'.get? e=some o/\o.cls= .type "StopIteration")->E (.ref e) { s with heap:=h'}):wpAny (model prog w) A (Builtin.SmallTypes.nextOf (.ref it)) Q E s:=by
 obtain⟨o,ho,hc,hd⟩:=id hit
 obtain⟨ol,hol,_,nl,hdl⟩:=hl
 unfold Builtin.SmallTypes.nextOf
 refine wpAny_bind (wpAny_callSpecial?_slot (name:=Str.ofString "__next__") hit.typeIs F.slot_tuple_iterator_next
  (wpAny_call_entry F.slot_tuple_iterator_next hit.typeIs F.entry_tuple_iterator_next ?_ (F.args_tuple_iterator_next_1 _)))
 show wpAny _ _ (field (.ref it) 0 >>= _) _ _ s
 refine wpAny_bind (wpAny_field ho hd (x:=.ref l) rfl ?_)
 show wpAny _ _ (if(Value.ref l==Value.none)=true then _ else _) _ _ s
 rw[if_neg (show¬((Value.ref l==Value.none)=true)from Zr)]
 show wpAny _ _ (field (.ref it) 1 >>= _) _ _ s
 refine wpAny_bind (wpAny_field ho hd (x:=.int i 0) rfl ?_)
 show wpAny _ _ (seqItems? (.ref l) >>= _) _ _ s
 refine wpAny_bind (wpAny_seqItems hol hdl ?_)
 simp only[Int.toNat_natCast,hx]
 refine wpAny_bind (wpAny_rule (wpAny_bind (wpAny_setField ho hd (by simp) ?_)))
 show wpAny _ _ (newExc (.type "StopIteration") [] >>= _) _ _ _
 refine wpAny_bind ?_
 simp only[newExc,newTuple]
 refine wpAny_bind (wpAny_newObj_type ?_ (by size_fits))
 refine wpAny_bind (m:=firstArgMember _ _) (wpAny_of_eq (a:=Value.none) (by first|rfl|(simp only[firstArgMember];rfl)) ?_)
 refine wpAny_newObj_type ?_ (by size_fits)
 simp only[raiseNew]
 refine wpAny_bind (wpAny_handled ?_)
 first|rw[show A.in1.handled=none from hh]|rw[hh]
 refine wpAny_bind (wpAny_pure (wpAny_throw ?_))
 exact hE _ _ (((Heap.SameBut.update ..).extBut.push _).push _) ⟨_,Zf _ rfl,rfl⟩
end
def gf(k:Bool)(h:Heap)(it l:Addr)(i:Nat):Prop:=if k=true then h.IsTupleIter it l i else h.IsListIter it l i
def jF(k:Bool)(h:Heap)(l:Addr)(xs:Array Value):Prop:=if k=true then h.IsTuple l xs else h.IsList l xs
section
variable {prog:Program} {w:World} {A:Around} {E:Value->Shared->Prop} {s:Shared} {k:Bool} {it l:Addr} {i:Nat} {xs:Array Value} {h h':Heap}
theorem gf.obj(x:gf k h it l i):∃o,h.get? it=some o/\(∀v,o.data≠ .cell v)/\(o.cls= .type "tuple_iterator"∨o.cls= .type "list_iterator"):=by
 cases k
 .obtain⟨o,e,c,d⟩:h.IsListIter it l i:=x
  exact⟨o,e,(λv z=>by rw[d]at z;cases z),.inr c⟩
 .obtain⟨o,e,c,d⟩:h.IsTupleIter it l i:=x
  exact⟨o,e,(λv z=>by rw[d]at z;cases z),.inl c⟩
theorem gf.at'(x:gf k h it l i)(hk:∀o,h.get? it=some o->h'.get? it=some o):gf k h' it l i:=by
 cases k
 .obtain⟨o,e,c,d⟩:h.IsListIter it l i:=x
  exact(⟨o,hk o e,c,d⟩:h'.IsListIter it l i)
 .obtain⟨o,e,c,d⟩:h.IsTupleIter it l i:=x
  exact(⟨o,hk o e,c,d⟩:h'.IsTupleIter it l i)
theorem jF.at'(x:jF k h l xs)(hk:∀o,h.get? l=some o->h'.get? l=some o):jF k h' l xs:=by
 cases k
 .obtain⟨o,e,c⟩:h.IsList l xs:=x
  exact(⟨o,hk o e,c⟩:h'.IsList l xs)
 .obtain⟨o,e,c⟩:h.IsTuple l xs:=x
  exact(⟨o,hk o e,c⟩:h'.IsTuple l xs)
theorem jj{x:Value}{Q:Value->Shared->Prop}(hit:gf k s.heap it l i)(hl:jF k s.heap l xs)(hx:xs[i]? =some x)
  (hQ:∀h',gf k h' it l (i+1)->Heap.SameBut it s.heap h'->Q x { s with heap:=h'}):wpAny (model prog w) A (Builtin.SmallTypes.nextOf (.ref it)) Q E s:=by
 cases k
 .exact wpAny_nextOf_list_item hit hl hx hQ
 .exact oY hit hl hx hQ
theorem mZ{Q:Value->Shared->Prop}(hh:A.handled=none)(hit:gf k s.heap it l i)(hl:jF k s.heap l xs)(hx:xs[i]? =none)
  (hE:∀h' e,Heap.ExtBut it s.heap h'->(∃o,h'.get? e=some o/\o.cls= .type "StopIteration")->E (.ref e) { s with heap:=h'}):wpAny (model prog w) A (Builtin.SmallTypes.nextOf (.ref it)) Q E s:=by
 cases k
 .exact wpAny_nextOf_list_end hh hit hl hx hE
 .exact pI hh hit hl hx hE
end
structure ZA(z TI TO i1 i2:Addr):Prop where
 TIz:TI≠z
 TOz:TO≠z
 i1z:i1≠z
 i2z:i2≠z
 TITO:TI≠TO
 TIi1:TI≠i1
 TIi2:TI≠i2
 TOi1:TO≠i1
 TOi2:TO≠i2
 i12:i1≠i2
section
variable {prog:Program} {w:World} {A:Around} {E:Value->Shared->Prop} {s:Shared}
theorem By{z TI TO i1 i2 l1 l2:Addr}{c1 c2:Bool}{k1 k2:Nat}{xs ys:Array Value}{x y a b:Value}{Q:Value->Shared->Prop}(D:ZA z TI TO i1 i2)
  (l1z:l1≠z) (l2z:l2≠z) (l2i1:l2≠i1) (l2TO:l2≠TO)
  (hz:IsZip s.heap z TI TO .none) (hTI:IsPair s.heap TI (.ref i1) (.ref i2)) (hTO:IsPair s.heap TO a b)
  (h1:gf c1 s.heap i1 l1 k1) (h2:gf c2 s.heap i2 l2 k2) (hl1:jF c1 s.heap l1 xs) (hl2:jF c2 s.heap l2 ys) (hx:xs[k1]? =some x) (hy:ys[k2]? =some y)
  (hQ:∀h',IsZip h' z TI TO (rawInt s.heap.objs.size)->IsPair h' TO x y->gf c1 h' i1 l1 (k1+1)->gf c2 h' i2 l2 (k2+1)->IsPair h' s.heap.objs.size x y->h'.objs.size=s.heap.objs.size+1->
   (∀c o,c≠z->c≠TO->c≠i1->c≠i2->s.heap.get? c=some o->h'.get? c=some o)->Q (.ref s.heap.objs.size) { s with heap:=h'}):
  wpAny (model prog w) A (Builtin.«zip.__next__» ⟨[.ref z],[]⟩) (λfin s'=>∃v,fin= .done (.ret v)/\Q v s') E s:=by
 show wpAny _ _ (field (.ref z) 2 >>= _) _ _ _
 refine wpAny_bind (wpAny_field hz rfl (x:=.bool false) rfl ?_)
 show wpAny _ _ (field (.ref z) 3 >>= _) _ _ _
 refine wpAny_bind (wpAny_field hz rfl (x:=.ref TI) rfl ?_)
 refine wpAny_bind (wpAny_seqItems hTI rfl ?_)
 show wpAny _ _ (Builtin.SmallTypes.ownedTupleIsFree (.ref z) >>= _) _ _ _
 refine wpAny_bind ?_
 unfold Builtin.SmallTypes.ownedTupleIsFree
 refine wpAny_bind (wpAny_field hz rfl (x:=.none) rfl (wpAny_pure ?_))
 simp only[if_true]
 refine wpAny_bind (wpAny_rule ?_)
 refine wpAny_bind (wpAny_field hz rfl (x:=.ref TO) rfl ?_)
 refine wpAny_bind (wpAny_setField_rec hz (by simp) λh₁ hz₁ hs₁=>?_)
 replace hz₁:IsZip h₁ z TI TO .ellipsis:=hz₁
 refine wpAny_bind ?_
 simp only[List.zipIdx_cons,List.zipIdx_nil,List.forIn_cons,List.forIn_nil]
 refine wpAny_bind (wpAny_bind (wpAny_onRaise ?_))
 show wpAny _ _ (Builtin.SmallTypes.nextOf (.ref i1) >>= _) _ _ _
 refine wpAny_bind (jj (h1.at' λo e=>hs₁.extBut _ _ D.i1z e) (hl1.at' λo e=>hs₁.extBut _ _ l1z e) hx λh₂ h1₂ hs₂=>wpAny_pure ?_)
 have hTO₂:IsPair h₂ TO a b:=hs₂.extBut _ _ D.TOi1 (hs₁.extBut _ _ D.TOz hTO)
 refine wpAny_bind (wpAny_seqItems hTO₂ rfl ?_)
 refine wpAny_bind (wpAny_updateSeq_pair hTO₂ λh₃ hTO₃ hs₃=>?_)
 replace hTO₃:IsPair h₃ TO x b:=hTO₃
 refine wpAny_bind (wpAny_letGo (wpAny_pure ?_))
 refine wpAny_bind (wpAny_bind (wpAny_onRaise ?_))
 show wpAny _ _ (Builtin.SmallTypes.nextOf (.ref i2) >>= _) _ _ _
 refine wpAny_bind (jj (h2.at' λo e=>hs₃.extBut _ _ D.TOi2.symm (hs₂.extBut _ _ D.i12.symm (hs₁.extBut _ _ D.i2z e))) (hl2.at' λo e=>hs₃.extBut _ _ l2TO (hs₂.extBut _ _ l2i1 (hs₁.extBut _ _ l2z e))) hy λh₄ h2₄ hs₄=>wpAny_pure ?_)
 have hTO₄:IsPair h₄ TO x b:=hs₄.extBut _ _ D.TOi2 hTO₃
 refine wpAny_bind (wpAny_seqItems hTO₄ rfl ?_)
 refine wpAny_bind (wpAny_updateSeq_pair hTO₄ λh₅ hTO₅ hs₅=>?_)
 replace hTO₅:IsPair h₅ TO x y:=hTO₅
 refine wpAny_bind (wpAny_letGo (wpAny_pure (wpAny_pure ?_)))
 refine wpAny_bind (wpAny_seqItems hTO₅ rfl ?_)
 refine wpAny_bind (wpAny_newTuple ?_)
 have hsz:h₅.objs.size=s.heap.objs.size:=by rw[hs₅.1,hs₄.1,hs₃.1,hs₂.1,hs₁.1]
 have hz₅:IsZip h₅ z TI TO .ellipsis:=hs₅.extBut _ _ D.TOz.symm (hs₄.extBut _ _ D.i2z.symm (hs₃.extBut _ _ D.TOz.symm (hs₂.extBut _ _ D.i1z.symm hz₁)))
 have hk₅:∀c o,c≠z->c≠TO->c≠i1->c≠i2->s.heap.get? c=some o->h₅.get? c=some o:=λc o q1 q2 q3 q4 e=>
  hs₅.extBut _ _ q2 (hs₄.extBut _ _ q4 (hs₃.extBut _ _ q2 (hs₂.extBut _ _ q3 (hs₁.extBut _ _ q1 e))))
 have h1₅:gf c1 h₅ i1 l1 (k1+1):=h1₂.at' λo e=>hs₅.extBut _ _ D.TOi1.symm (hs₄.extBut _ _ D.i12 (hs₃.extBut _ _ D.TOi1.symm e))
 have h2₅:gf c2 h₅ i2 l2 (k2+1):=h2₄.at' λo e=>hs₅.extBut _ _ D.TOi2.symm e
 have hzlt:z<h₅.objs.size:=Ze hz₅
 show wpAny _ _ (Builtin.SmallTypes.ownedTupleHandOut (.ref z) (.ref h₅.objs.size) >>= _) _ _ _
 refine wpAny_bind ?_
 unfold Builtin.SmallTypes.ownedTupleHandOut
 have hz₆:IsZip (h₅.push { cls:=.type "tuple",data:=.seq #[x,y] }) z TI TO .ellipsis:=Zb _ hz₅
 refine wpAny_bind (wpAny_setField_rec hz₆ (by simp) λh₇ hz₇ hs₇=>?_)
 replace hz₇:IsZip h₇ z TI TO (rawInt h₅.objs.size):=hz₇
 refine wpAny_setField_rec hz₇ (by simp) λh₈ hz₈ hs₈=>?_
 replace hz₈:IsZip h₈ z TI TO (rawInt h₅.objs.size):=hz₈
 have up:∀c o,c≠z->h₅.get? c=some o->h₈.get? c=some o:=λc o q1 e=>hs₈.extBut _ _ q1 (hs₇.extBut _ _ q1 (Zb _ e))
 have hT₈:IsPair h₈ h₅.objs.size x y:=hs₈.extBut _ _ (Nat.ne_of_gt hzlt) (hs₇.extBut _ _ (Nat.ne_of_gt hzlt) (Zf _ rfl))
 have hz8:h₈.objs.size=h₅.objs.size+1:=by rw[hs₈.1,hs₇.1,Heap.size_push]
 rw[hsz]at hz₈ hT₈ hz8
 refine wpAny_pure ⟨_,rfl,?_⟩
 show Q (.ref h₅.objs.size) _
 rw[hsz]
 exact hQ h₈ hz₈ (up _ _ D.TOz hTO₅) (h1₅.at' λo e=>up _ o D.i1z e) (h2₅.at' λo e=>up _ o D.i2z e) hT₈ hz8 λc o q1 q2 q3 q4 e=>up c o q1 (hk₅ c o q1 q2 q3 q4 e)
theorem DW{z TI TO i1 i2 l1 l2:Addr}{c1 c2:Bool}{k1 k2:Nat}{xs ys:Array Value}{a b:Value}{Q:PySem.Fin->Shared->Prop}(hh:A.handled=none)(D:ZA z TI TO i1 i2)
  (l1z:l1≠z) (l2z:l2≠z) (l2i1:l2≠i1) (l2TO:l2≠TO)
  (hz:IsZip s.heap z TI TO .none) (hTI:IsPair s.heap TI (.ref i1) (.ref i2)) (hTO:IsPair s.heap TO a b)
  (h1:gf c1 s.heap i1 l1 k1) (h2:gf c2 s.heap i2 l2 k2) (hl1:jF c1 s.heap l1 xs) (hl2:jF c2 s.heap l2 ys) (hend:xs[k1]? =none∨ys[k2]? =none)
  (hE:∀h' e,(∀c o,c≠z->c≠TO->c≠i1->c≠i2->s.heap.get? c=some o->h'.get? c=some o)->(∃o,h'.get? e=some o/\o.cls= .type "StopIteration")->E (.ref e) { s with heap:=h'}):
  wpAny (model prog w) A (Builtin.«zip.__next__» ⟨[.ref z],[]⟩) Q E s:=by
 show wpAny _ _ (field (.ref z) 2 >>= _) _ _ _
 refine wpAny_bind (wpAny_field hz rfl (x:=.bool false) rfl ?_)
 show wpAny _ _ (field (.ref z) 3 >>= _) _ _ _
 refine wpAny_bind (wpAny_field hz rfl (x:=.ref TI) rfl ?_)
 refine wpAny_bind (wpAny_seqItems hTI rfl ?_)
 show wpAny _ _ (Builtin.SmallTypes.ownedTupleIsFree (.ref z) >>= _) _ _ _
 refine wpAny_bind ?_
 unfold Builtin.SmallTypes.ownedTupleIsFree
 refine wpAny_bind (wpAny_field hz rfl (x:=.none) rfl (wpAny_pure ?_))
 simp only[if_true]
 refine wpAny_bind (wpAny_rule ?_)
 refine wpAny_bind (wpAny_field hz rfl (x:=.ref TO) rfl ?_)
 refine wpAny_bind (wpAny_setField_rec hz (by simp) λh₁ hz₁ hs₁=>?_)
 replace hz₁:IsZip h₁ z TI TO .ellipsis:=hz₁
 refine wpAny_bind ?_
 simp only[List.zipIdx_cons,List.zipIdx_nil,List.forIn_cons,List.forIn_nil]
 refine wpAny_bind (wpAny_bind (wpAny_onRaise ?_))
 show wpAny _ _ (Builtin.SmallTypes.nextOf (.ref i1) >>= _) _ _ _
 cases hx:xs[k1]? with
 |none=>
  refine wpAny_bind (mZ hh (h1.at' λo e=>hs₁.extBut _ _ D.i1z e) (hl1.at' λo e=>hs₁.extBut _ _ l1z e) hx λh₂ e hs₂ he=>?_)
  obtain⟨oe,hoe,hce⟩:=he
  have hz₂:IsZip h₂ z TI TO .ellipsis:=hs₂ _ _ D.i1z.symm hz₁
  have hez:e≠z:=λx=>by subst x;rw[hz₂]at hoe;cases hoe;simp at hce
  exact wpAny_setField_rec hz₂ (by simp) λh₃ _ hs₃=>hE h₃ e (λc o q1 _ q3 _ x=>hs₃.extBut _ _ q1 (hs₂ _ _ q3 (hs₁.extBut _ _ q1 x))) ⟨oe,hs₃.extBut _ _ hez hoe,hce⟩
 |some x=>
  have hy:ys[k2]? =none:=by rcases hend with h|h;rw[hx]at h;cases h;exact h
  refine wpAny_bind (jj (h1.at' λo e=>hs₁.extBut _ _ D.i1z e) (hl1.at' λo e=>hs₁.extBut _ _ l1z e) hx λh₂ h1₂ hs₂=>wpAny_pure ?_)
  have hTO₂:IsPair h₂ TO a b:=hs₂.extBut _ _ D.TOi1 (hs₁.extBut _ _ D.TOz hTO)
  refine wpAny_bind (wpAny_seqItems hTO₂ rfl ?_)
  refine wpAny_bind (wpAny_updateSeq_pair hTO₂ λh₃ hTO₃ hs₃=>?_)
  refine wpAny_bind (wpAny_letGo (wpAny_pure ?_))
  refine wpAny_bind (wpAny_bind (wpAny_onRaise ?_))
  show wpAny _ _ (Builtin.SmallTypes.nextOf (.ref i2) >>= _) _ _ _
  refine wpAny_bind (mZ hh (h2.at' λo e=>hs₃.extBut _ _ D.TOi2.symm (hs₂.extBut _ _ D.i12.symm (hs₁.extBut _ _ D.i2z e))) (hl2.at' λo e=>hs₃.extBut _ _ l2TO (hs₂.extBut _ _ l2i1 (hs₁.extBut _ _ l2z e))) hy λh₄ e hs₄ he=>?_)
  obtain⟨oe,hoe,hce⟩:=he
  have hz₄:IsZip h₄ z TI TO .ellipsis:=hs₄ _ _ D.i2z.symm (hs₃.extBut _ _ D.TOz.symm (hs₂.extBut _ _ D.i1z.symm hz₁))
  have hez:e≠z:=λx=>by subst x;rw[hz₄]at hoe;cases hoe;simp at hce
  exact wpAny_setField_rec hz₄ (by simp) λh₅ _ hs₅=>hE h₅ e (λc o q1 q2 q3 q4 x=>hs₅.extBut _ _ q1 (hs₄ _ _ q4 (hs₃.extBut _ _ q2 (hs₂.extBut _ _ q3 (hs₁.extBut _ _ q1 x))))) ⟨oe,hs₅.extBut _ _ hez hoe,hce⟩
end
section
variable {prog:Program} {w:World} {A:Around} {E:Value->Shared->Prop} {s:Shared}
theorem pq{z TI TO i1 i2 l1 l2:Addr}{c1 c2:Bool}{k1 k2:Nat}{xs ys:Array Value}{x y a b:Value}{Q:Option Value->Shared->Prop}(D:ZA z TI TO i1 i2)
  (l1z:l1≠z) (l2z:l2≠z) (l2i1:l2≠i1) (l2TO:l2≠TO)
  (hz:IsZip s.heap z TI TO .none) (hTI:IsPair s.heap TI (.ref i1) (.ref i2)) (hTO:IsPair s.heap TO a b)
  (h1:gf c1 s.heap i1 l1 k1) (h2:gf c2 s.heap i2 l2 k2) (hl1:jF c1 s.heap l1 xs) (hl2:jF c2 s.heap l2 ys) (hx:xs[k1]? =some x) (hy:ys[k2]? =some y)
  (hQ:∀h',IsZip h' z TI TO (rawInt s.heap.objs.size)->IsPair h' TO x y->gf c1 h' i1 l1 (k1+1)->gf c2 h' i2 l2 (k2+1)->IsPair h' s.heap.objs.size x y->h'.objs.size=s.heap.objs.size+1->
   (∀c o,c≠z->c≠TO->c≠i1->c≠i2->s.heap.get? c=some o->h'.get? c=some o)->Q (some (.ref s.heap.objs.size)) { s with heap:=h'}):
  wpAny (model prog w) A (pyNext (.ref z)) Q E s:=by
 have hT:s.TypeIs (.ref z) "zip":=⟨_,hz,rfl⟩
 unfold pyNext
 exact wpAny_bind (wpAny_attempt (wpAny_callSpecial?_slot (name:=Str.ofString "__next__") hT F.slot_zip_next
  (wpAny_call_entry F.slot_zip_next hT F.entry_zip_next
   (By D l1z l2z l2i1 l2TO hz hTI hTO h1 h2 hl1 hl2 hx hy λh' a1 a2 a3 a4 a5 a6 a7=>wpAny_pure (hQ h' a1 a2 a3 a4 a5 a6 a7)) (F.args_zip_next_1 _))))
theorem qx{z TI TO i1 i2 l1 l2:Addr}{c1 c2:Bool}{k1 k2:Nat}{xs ys:Array Value}{a b:Value}{Q:Option Value->Shared->Prop}(hh:A.handled=none)(D:ZA z TI TO i1 i2)
  (l1z:l1≠z) (l2z:l2≠z) (l2i1:l2≠i1) (l2TO:l2≠TO)
  (hz:IsZip s.heap z TI TO .none) (hTI:IsPair s.heap TI (.ref i1) (.ref i2)) (hTO:IsPair s.heap TO a b)
  (h1:gf c1 s.heap i1 l1 k1) (h2:gf c2 s.heap i2 l2 k2) (hl1:jF c1 s.heap l1 xs) (hl2:jF c2 s.heap l2 ys) (hend:xs[k1]? =none∨ys[k2]? =none)
  (hQ:∀h',(∀c o,c≠z->c≠TO->c≠i1->c≠i2->s.heap.get? c=some o->h'.get? c=some o)->Q none { s with heap:=h'}):wpAny (model prog w) A (pyNext (.ref z)) Q E s:=by
 have hT:s.TypeIs (.ref z) "zip":=⟨_,hz,rfl⟩
 unfold pyNext
 refine wpAny_bind (wpAny_attempt (wpAny_callSpecial?_slot (name:=Str.ofString "__next__") hT F.slot_zip_next
  (wpAny_call_entry F.slot_zip_next hT F.entry_zip_next (DW hh D l1z l2z l2i1 l2TO hz hTI hTO h1 h2 hl1 hl2 hend λh' e hk he=>?_) (F.args_zip_next_1 _))))
 obtain⟨o,ho,hc⟩:=he
 refine wpAny_bind (wpAny_isInstance (T:="StopIteration") (b:=true) ⟨o,ho,hc⟩ isSubtype_stop ?_)
 exact wpAny_pure (hQ _ hk)
def itTy(k:Bool):String:=if k=true then "tuple_iterator" else "list_iterator"
abbrev nD(k:Bool)(l:Addr):Obj:={ cls:=.type (itTy k),data:=.fields #[.ref l,.int 0 0] }
theorem uT{k:Bool}{l:Addr}{xs:Array Value}{Q:Value->Shared->Prop}(hl:jF k s.heap l xs)(hQ:Q (.ref s.heap.objs.size) { s with heap:=s.heap.push (nD k l) }):wpAny (model prog w) A (pyIter (.ref l)) Q E s:=by
 cases k
 .exact wpAny_pyIter_list hl hQ
 .exact wpAny_pyIter_tuple hl hQ
end
abbrev zH2(h:Heap)(c1 c2:Bool)(l1 l2:Addr):Heap:=(h.push (nD c1 l1)).push (nD c2 l2)
abbrev zH3(h:Heap)(c1 c2:Bool)(l1 l2:Addr):Heap:=(zH2 h c1 c2 l1 l2).push { cls:=.type "tuple",data:=.seq #[.ref h.objs.size,.ref (h.push (nD c1 l1)).objs.size] }
abbrev zH4(h:Heap)(c1 c2:Bool)(l1 l2:Addr):Heap:=(zH3 h c1 c2 l1 l2).push { cls:=.type "tuple",data:=.seq #[.none,.none] }
abbrev zH5(h:Heap)(c1 c2:Bool)(l1 l2:Addr):Heap:=(zH4 h c1 c2 l1 l2).push { cls:=.type "zip",data:=.fields #[.none,.bool false,.bool false,.ref (zH2 h c1 c2 l1 l2).objs.size,.ref (zH3 h c1 c2 l1 l2).objs.size] }
theorem Fy(c1 c2:Bool)(l1 l2:Addr)(xs ys:Array Value):
  Meets (Builtin.«zip.__new__» ⟨[.type "zip",.ref l1,.ref l2],[]⟩) (λ_ R s=>jF c1 s.heap l1 xs/\jF c2 s.heap l2 ys/\
   R (.ok (.ret (.ref (zH4 s.heap c1 c2 l1 l2).objs.size))) { s with heap:=zH5 s.heap c1 c2 l1 l2}):=
 .of_wp λprog w A R s h=>by
  obtain⟨hp,g,d,tk,os⟩:=s;obtain⟨hl1,hl2,h⟩:=h
  have hsub:=sub_zip
  have hL1:jF c1 (Shared.heap ⟨hp,g,d,tk,os⟩) l1 xs:=hl1
  have hL2:jF c2 (Shared.heap ⟨hp.push (nD c1 l1),g,d,tk,os⟩) l2 ys:=hl2.at' λo e=>Zb _ e
  wp_walk using uT hL1,uT hL2
  exact⟨_,rfl,h⟩
section
variable {prog:Program} {w:World} {A:Around} {E:Value->Shared->Prop} {s:Shared}
theorem gf.new(k:Bool)(h:Heap)(l:Addr):gf k (h.push (nD k l)) h.objs.size l 0:=by
 cases k
 .exact(⟨nD false l,Zf _ rfl,rfl,rfl⟩:Heap.IsListIter _ _ _ 0)
 .exact(⟨nD true l,Zf _ rfl,rfl,rfl⟩:Heap.IsTupleIter _ _ _ 0)
theorem Ce{c1 c2:Bool}{l1 l2:Addr}{xs ys:Array Value}{Q:Value->Shared->Prop}(hl1:jF c1 s.heap l1 xs)(hl2:jF c2 s.heap l2 ys)
  (h:∀h',IsZip h' (s.heap.objs.size+4) (s.heap.objs.size+2) (s.heap.objs.size+3) .none->IsPair h' (s.heap.objs.size+2) (.ref s.heap.objs.size) (.ref (s.heap.objs.size+1))->
   IsPair h' (s.heap.objs.size+3) .none .none->gf c1 h' s.heap.objs.size l1 0->gf c2 h' (s.heap.objs.size+1) l2 0->h'.objs.size=s.heap.objs.size+5->
   (∀c o,s.heap.get? c=some o->h'.get? c=some o)->Q (.ref (s.heap.objs.size+4)) { s with heap:=h'}):
  wpAny (model prog w) A (call (.type "zip") [.ref l1,.ref l2]) Q E s:=by
 refine callType_new F.called_zip (by decide) (F.typeCall_zip_2 _ _) (F.newCall_zip_2 _ _) (λobj=>F.args_object_init_3 obj _ _) F.entry_zip_new
  (Fy c1 c2 l1 l2 xs ys) ⟨hl1,hl2,?_⟩
 have z1:(s.heap.push (nD c1 l1)).objs.size=s.heap.objs.size+1:=Heap.size_push ..
 have z2:(zH2 s.heap c1 c2 l1 l2).objs.size=s.heap.objs.size+2:=by rw[Heap.size_push,z1]
 have z3:(zH3 s.heap c1 c2 l1 l2).objs.size=s.heap.objs.size+3:=by rw[Heap.size_push,z2]
 have z4:(zH4 s.heap c1 c2 l1 l2).objs.size=s.heap.objs.size+4:=by rw[Heap.size_push,z3]
 have z5:(zH5 s.heap c1 c2 l1 l2).objs.size=s.heap.objs.size+5:=by rw[Heap.size_push,z4]
 have g5:(zH5 s.heap c1 c2 l1 l2).get? (zH4 s.heap c1 c2 l1 l2).objs.size=some _:=Zf _ rfl
 have g4:(zH5 s.heap c1 c2 l1 l2).get? (zH3 s.heap c1 c2 l1 l2).objs.size=some _:=Zb _ (Zf _ rfl)
 have g3:(zH5 s.heap c1 c2 l1 l2).get? (zH2 s.heap c1 c2 l1 l2).objs.size=some _:=Zb _ (Zb _ (Zf _ rfl))
 have g2:gf c2 (zH5 s.heap c1 c2 l1 l2) (s.heap.push (nD c1 l1)).objs.size l2 0:=(gf.new c2 _ l2).at' λo e=>Zb _ (Zb _ (Zb _ e))
 have g1:gf c1 (zH5 s.heap c1 c2 l1 l2) s.heap.objs.size l1 0:=(gf.new c1 _ l1).at' λo e=>Zb _ (Zb _ (Zb _ (Zb _ e)))
 show _/\_
 rw[z2,z3,z4]at g5
 rw[z1,z2]at g3
 rw[z3]at g4
 rw[z1]at g2
 rw[z4]
 exact⟨⟨_,g5,rfl⟩,h _ g5 g3 g4 g1 g2 z5 λc o x=>
  Zb _ (Zb _ (Zb _ (Zb _ (Zb _ x))))⟩
end
def SqB(c:Bool)(K:PySem.W.Frag)(H:Hp)(a:Addr)(xs:List V):Prop:=if c=true then SqT K H a xs else SqL K H a xs
section
variable {X:Cx} {pins:List (Addr×Obj)} {σ:L2.St} {H H':Hp} {s:Shared} {h':Heap}
theorem Inv.sqB{c:Bool}{a:Addr}{xs:List V}(I:Inv X pins σ H s)(h:SqB c X.K H a xs):∃its:List Value,Vals xs its/\jF c s.heap a its.toArray/\xs.length<=sizeLine:=by
 cases c
 .obtain⟨its,r,p,hz⟩:=I.list (show SqL X.K H a xs from h)
  exact⟨its,r,p.isList,hz⟩
 .obtain⟨its,r,p,hz⟩:=I.tuple (show SqT X.K H a xs from h)
  exact⟨its,r,p,hz⟩
theorem Inv.sqB_inj{c:Bool}{a:Addr}{xs ys:List V}(I:Inv X pins σ H s)(h:SqB c X.K H a xs)(h':SqB c X.K H a ys):xs=ys:=by
 cases c
 .exact I.list_inj (show SqL X.K H a xs from h) h'
 .exact I.tuple_inj (show SqT X.K H a xs from h) h'
theorem Inv.sqB_ne{c:Bool}{a b:Addr}{xs:List V}(I:Inv X pins σ H s)(h:SqB c X.K H a xs)(f:jk X pins H b):a≠b:=by
 have key:(∃o,H a=some o)∨∃o,X.K.lookup a=some o:=by
  cases c
  .rcases(show SqL X.K H a xs from h)with(h|⟨o,h⟩)|⟨o,_,_,h,_⟩
   .exact .inl ⟨_,h⟩
   .exact .inl ⟨_,h⟩
   .exact .inr ⟨_,h⟩
  .rcases(show SqT X.K H a xs from h)with(h|⟨o,h⟩)|⟨o,_,_,h,_⟩
   .exact .inl ⟨_,h⟩
   .exact .inl ⟨_,h⟩
   .exact .inr ⟨_,h⟩
 intro z
 subst z
 rcases key with⟨o,e⟩|⟨o,e⟩
 .rw[f.1]at e;cases e
 .have e':=I.ok.mod.kin a o e
  rcases f.2.2.2.1 with q|q
  .exact I.ok.noex a o e' q
  .exact absurd (Zc (Ze (I.ok.bs a o e').1) q) (Nat.lt_irrefl _)
theorem Inv.turnedL{t':Nat}{fp:List Addr}(I:Inv X pins σ H s)(k:∀b o,b∉fp->s.heap.get? b=some o->h'.get? b=some o)(hf:∀b∈fp,jk X pins H b):Inv X pins σ H { s with heap:=h',toks:=t'}:=by
 have nit:∀b u,H b=some u->b∉fp:=λb u e z=>by rw[(hf b z).1]at e;cases e
 refine I.step (g':=s.gens) (d':=s.drawn) (ch:=fp) (λb hb=>?_) (λb o _ _ hc e _=>k b o hc e) (λb o _ _ hc e _=>⟨o.slots,k b o hc e⟩) (λ_ _ _ _ n=>n)
  (λb o hc e=>⟨o,k b o hc e⟩) (λ_ _ e=>e) (λ_ _ _ e=>e) (λb ps e=>⟨#[],by rw[e];simp⟩) (λm hm=>?_) (λb u e=>?_) I.bare.again
 .obtain⟨f0,f1,f2,f3,f4,f5⟩:=hf b hb
  exact⟨f3,f1,f4,f5⟩
 .obtain⟨o,es,ep,ho,r⟩:=hm
  exact⟨o,es,ep,k _ o (λz=>(hf _ z).2.1 rfl) ho,r⟩
 .refine(I.hok b u e).stay (λc v hc q=>k c v ?_ q) (λ_ q=>q) λ_ _ q=>q
  rcases hc with z|z
  .rw[z];exact nit b u e
  .exact nit c _ z
end
def Itz(K:PySem.W.Frag)(c1 c2:Bool)(a1 a2:Addr):It:=
 ⟨λi H=>(∃xs x,SqB c1 K H a1 xs/\xs[i]? =some x)/\∃ys y,SqB c2 K H a2 ys/\ys[i]? =some y,
  λi H v H'=>∃p x y,v= .ref p/\H p=none/\H'=upd H p (.tup [x,y])/\(∀xs,SqB c1 K H a1 xs->xs[i]? =some x)/\∀ys,SqB c2 K H a2 ys->ys[i]? =some y,
  λi H=>∃xs ys,SqB c1 K H a1 xs/\SqB c2 K H a2 ys/\(xs.length<=i∨ys.length<=i)⟩
def ZSt(c1 c2:Bool)(z TI TO i1 i2 a1 a2:Addr)(i:Nat)(h:Heap):Prop:=
 IsZip h z TI TO .none/\IsPair h TI (.ref i1) (.ref i2)/\(∃a b,IsPair h TO a b)/\gf c1 h i1 a1 i/\gf c2 h i2 a2 i
theorem Hh{h:Heap}{o u:Obj}{b:Addr}(e:(h.push o).get? b=some u)(hb:b≠h.objs.size):h.get? b=some u:=by
 unfold Heap.get? at e ⊢
 have hp:(h.push o).objs[b]? =h.objs[b]? :=by
  show(h.objs.push o)[b]? =h.objs[b]?
  rw[Array.getElem?_push,if_neg hb]
 rw[hp]at e
 exact e
theorem Fx{P:Program}{w:World}{K:PySem.W.Frag}{elts:List Expr}{kk:Nat}{pos:Pos}(c1 c2:Bool)(z TI TO i1 i2 a1 a2:Addr)(D:ZA z TI TO i1 i2):
  Turn P w K (.Tuple elts kk pos) (Itz K c1 c2 a1 a2) [z,TI,TO,i1,i2] z (ZSt c1 c2 z TI TO i1 i2 a1 a2) where
 mem:=by simp
 obj:=λi h st b hb=>by
  obtain⟨hz,hTI,⟨a,b',hTO⟩,h1,h2⟩:=st
  simp only[Zi,List.not_mem_nil,or_false]at hb
  rcases hb with rfl|rfl|rfl|rfl|rfl
  .exact⟨_,hz,λv q=>by cases q⟩
  .exact⟨_,hTI,λv q=>by cases q⟩
  .exact⟨_,hTO,λv q=>by cases q⟩
  .obtain⟨o,e,d,_⟩:=h1.obj;exact⟨o,e,d⟩
  .obtain⟨o,e,d,_⟩:=h2.obj;exact⟨o,e,d⟩
 keep:=λi h h' st k=>by
  obtain⟨hz,hTI,⟨a,b',hTO⟩,h1,h2⟩:=st
  exact⟨k z (by simp) _ hz,k TI (by simp) _ hTI,⟨a,b',k TO (by simp) _ hTO⟩,h1.at' λo e=>k i1 (by simp) o e,h2.at' λo e=>k i2 (by simp) o e⟩
 item:=by
  intro X hP hw hK hc i pins s σ H E I hf st hg
  subst hP hw hK
  obtain⟨hz,hTI,⟨a,b',hTO⟩,h1,h2⟩:=st
  obtain⟨⟨xs,x,hx,ex⟩,ys,y,hy,ey⟩:=hg
  obtain⟨its1,r1,p1,z1⟩:=I.sqB hx
  obtain⟨its2,r2,p2,z2⟩:=I.sqB hy
  obtain⟨u1,eu1,ru1⟩:=r1.get ex
  obtain⟨u2,eu2,ru2⟩:=r2.get ey
  have fz:=hf z (by simp)
  have fTO:=hf TO (by simp)
  have fi1:=hf i1 (by simp)
  have ltz:z<s.heap.objs.size:=Ze hz
  have ltTI:TI<s.heap.objs.size:=Ze hTI
  have ltTO:TO<s.heap.objs.size:=Ze hTO
  have lti1:i1<s.heap.objs.size:=let⟨_,e,_⟩:=h1.obj;Ze e
  have lti2:i2<s.heap.objs.size:=let⟨_,e,_⟩:=h2.obj;Ze e
  refine pq D (I.sqB_ne hx fz) (I.sqB_ne hy fz) (I.sqB_ne hy fi1) (I.sqB_ne hy fTO) hz hTI hTO h1 h2 p1 p2 (x:=u1) (y:=u2) (by simpa using eu1) (by simpa using eu2) λh' q1 q2 q3 q4 q5 q6 q7=>⟨_,rfl,?_⟩
  refine wpAny_letOwnedTupleGo_zip q1 λh2' y1 y2=>?_
  have hpn:H s.heap.objs.size=none:=I.hok.fresh (Zg _)
  have IA:Inv X pins σ (upd H s.heap.objs.size (.tup [x,y])) { s with heap:=s.heap.push { cls:=.type "tuple",data:=.seq #[u1,u2] } }:=
   I.laid (t':=s.toks) (o:=.tup [x,y]) (λb ob q=>Zb _ q) (Zg _) ⟨by show 2<=sizeLine;decide,[u1,u2],.cons ru1 (.cons ru2 .nil),IsTup.new _ _⟩
  have hne:∀b∈[z,TI,TO,i1,i2],b≠s.heap.objs.size:=λb hb=>by
   simp only[Zi,List.not_mem_nil,or_false]at hb
   rcases hb with rfl|rfl|rfl|rfl|rfl
   .exact Zk ltz
   .exact Zk ltTI
   .exact Zk ltTO
   .exact Zk lti1
   .exact Zk lti2
  have hf':∀b∈[z,TI,TO,i1,i2],jk X pins (upd H s.heap.objs.size (.tup [x,y])) b:=λb hb=>by
   obtain⟨f0,f1⟩:=hf b hb
   exact⟨by rw[aO (hne b hb)];exact f0,f1⟩
  have IB:Inv X pins σ (upd H s.heap.objs.size (.tup [x,y])) { s with heap:=h2'}:=by
   refine Inv.turnedL (s:={ s with heap:=s.heap.push { cls:=.type "tuple",data:=.seq #[u1,u2] } }) (t':=s.toks) (fp:=[z,TI,TO,i1,i2]) IA (λb o hb e=>?_) hf'
   simp only[Zi,List.not_mem_nil,or_false,not_or]at hb
   obtain⟨b1,b2,b3,b4,b5⟩:=hb
   by_cases hs:b=s.heap.objs.size
   .subst hs
    have e':some ({ cls:=.type "tuple",data:=.seq #[u1,u2] }:Obj)=some o:=(Zf s.heap rfl).symm.trans e
    cases e'
    exact y2.extBut _ _ b1 q5
   .exact y2.extBut _ _ b1 (q7 b o b1 b3 b4 b5 (Hh e hs))
  refine⟨.ref s.heap.objs.size,_,IB,rfl,⟨_,x,y,rfl,hpn,rfl,λzs hzs=>by rw[I.sqB_inj hzs hx];exact ex,λzs hzs=>by rw[I.sqB_inj hzs hy];exact ey⟩,?_,λb hb=>(hf' b hb).1⟩
  exact⟨y1,y2.extBut _ _ D.TIz (q7 _ _ D.TIz D.TITO D.TIi1 D.TIi2 hTI),⟨_,_,y2.extBut _ _ D.TOz q2⟩,q3.at' λo e=>y2.extBut _ _ D.i1z e,q4.at' λo e=>y2.extBut _ _ D.i2z e⟩
 done:=by
  intro X hP hw hK hc i pins s σ H E I hf st hg
  subst hP hw hK
  obtain⟨hz,hTI,⟨a,b',hTO⟩,h1,h2⟩:=st
  obtain⟨xs,ys,hx,hy,hend⟩:=hg
  obtain⟨its1,r1,p1,z1⟩:=I.sqB hx
  obtain⟨its2,r2,p2,z2⟩:=I.sqB hy
  have fz:=hf z (by simp)
  have fTO:=hf TO (by simp)
  have fi1:=hf i1 (by simp)
  have l1:=r1.length
  have l2:=r2.length
  refine qx (I.ok.hd hc) D (I.sqB_ne hx fz) (I.sqB_ne hy fz) (I.sqB_ne hy fi1) (I.sqB_ne hy fTO) hz hTI hTO h1 h2 p1 p2 ?_ λh' q=>⟨rfl,I.turnedL (t':=s.toks) (fp:=[z,TI,TO,i1,i2]) (λb o hb e=>?_) hf⟩
  .rcases hend with h|h
   .exact .inl (by simp;omega)
   .exact .inr (by simp;omega)
  .simp only[Zi,List.not_mem_nil,or_false,not_or]at hb
   exact q b o hb.1 hb.2.2.1 hb.2.2.2.1 hb.2.2.2.2 e
 self:=λ_ _ _ _ _ st h=>wpAny_pyIter_zip st.1 h
def iZip(K:PySem.W.Frag)(ta:TA):TI:=λσ H R=>ta σ H λvs H1=>∃a1 a2 c1 c2,vs=[.ref a1,.ref a2]/\(∃xs,SqB c1 K H1 a1 xs)/\(∃ys,SqB c2 K H1 a2 ys)/\R (Itz K c1 c2 a1 a2) H1
section
variable {X:Cx}
theorem Lw{a b:Expr}{ta:TA}{p pos p':Pos}{elts:List Expr}{kk:Nat}(hg:Gl X "zip")(hm:X.mg "zip"=none)(ha:PA X [a,b] ta)(hs:starEach [a,b] X.env=[(false,eval a X.env),(false,eval b X.env)]:=by rfl)(hs2:starEach [b] X.env=[(false,eval b X.env)]:=by rfl):
  PI X (.Tuple elts kk p') (.Call (.Name "zip" p) [a,b] [] pos) (iZip X.K ta):=by
 intro pins s σ H R I h
 refine Call_ (lZ I hg hm boot_zip (PyProof.Rows.callWith_type1 (thn (ha pos pins s σ H _ I h) λus s1 ⟨vs,H1,I1,r1,q1⟩=>?_) (by rw[hs,hs2]) (by rw[hs2];rfl)))
 obtain⟨a1,a2,c1,c2,rfl,⟨xs,hx⟩,⟨ys,hy⟩,q⟩:=q1
 obtain⟨u,v,rfl,ru,rv⟩:=vals2 r1
 cases ru
 cases rv
 obtain⟨its1,_,p1,_⟩:=I1.sqB hx
 obtain⟨its2,_,p2,_⟩:=I1.sqB hy
 refine Ce p1 p2 λh' g1 g2 g3 g4 g5 g6 g7=>?_
 refine wpAny_pyIter_zip g1 ?_
 refine⟨_,[s1.heap.objs.size+4,s1.heap.objs.size+2,s1.heap.objs.size+3,s1.heap.objs.size,s1.heap.objs.size+1],_,_,H1,rfl,I1.kept (t':=s1.toks) g7,Fx c1 c2 _ _ _ _ _ a1 a2 ?_,⟨g1,g2,⟨_,_,g3⟩,g4,g5⟩,λb hb=>?_,q⟩
 .constructor<;>first|exact Zk (by omega)|exact Nat.ne_of_gt (by omega)
 .have hb':s1.heap.objs.size<=b:=by
   simp only[Zi,List.not_mem_nil,or_false]at hb
   rcases hb with q|q|q|q|q<;>rw[q]<;>first|exact Nat.le_add_right _ _|exact Zg _
  exact I1.fpOk hb' (I1.hok.fresh hb')
end
end L2
namespace L3
open PySem PySem.Spec PyProof.Rows L2
def bM:D->Mu->Option (List D)
 | .tup ds,_=>some ds
 | .lst ds,_=>some ds
 | .ro ds,_=>some ds
 | .cell n,μ=>match μ[n]? with
  |some (some ds)=>some ds
  |_=>none
 |_,_=>none
def rM:D->Bool
 | .tup _=>true
 |_=>false
section
variable {K:PySem.W.Frag} {tb:List Addr}
theorem gY{W:Wd}{x:D}{v:V}{ds:List D}(ok:WOk K tb W)(h:Den K tb W x v)(e:bM x W.mu=some ds):∃a xs,v= .ref a/\SqB (rM x) K W.H a xs/\cN K tb W ds xs:=by
 cases x with
 |tup es=>cases e;obtain⟨a,xs,rfl,q,r⟩:=iR h;exact⟨a,xs,rfl,SqT.fz q,r⟩
 |lst es=>cases e;obtain⟨a,xs,rfl,q,r⟩:=kE h;exact⟨a,xs,rfl,SqL.fz q,r⟩
 |ro es=>cases e;obtain⟨a,xs,rfl,q,r⟩:=wQ h;exact⟨a,xs,rfl,SqL.fz q,r⟩
 |cell n=>
  obtain⟨a,rfl,q⟩:=gj h
  have e':(match W.mu[n]? with|some (some ds)=>some ds|_=>none)=some ds:=e
  cases e2:W.mu[n]? with
  |none=>rw[e2]at e';cases e'
  |some o=>
   cases o with
   |none=>rw[e2]at e';cases e'
   |some es=>
    rw[e2]at e'
    cases e'
    obtain⟨xs,e3,r⟩:=ok.cont n a ds q e2
    exact⟨a,xs,rfl,SqL.of e3,r⟩
 |_=>cases e
theorem SqB.or{c:Bool}{H:Hp}{a:Addr}{xs:List V}(h:SqB c K H a xs):SqL K H a xs∨SqT K H a xs:=by
 cases c
 .exact .inl h
 .exact .inr h
end
theorem Ig{K:PySem.W.Frag}{tb:List Addr}{W:Wd}{ds:List D}{xs:List V}{i:Int}{d:D}(r:cN K tb W ds xs)(h:atI ds i=some d):∃v,atI xs i=some v/\Den K tb W d v:=by
 unfold atI at h ⊢
 rw[<-az.length r]
 cases e:ixN ds.length i with
 |none=>rw[e]at h;cases h
 |some j=>
  rw[e]at h
  exact az.get r h
def oIx:O2:=λx y μ=>match y with
 | .int i=>(bM x μ).bind λds=>(atI ds i).map λd=>(d,μ)
 |_=>none
def dO:O1':=λx μ=>match x with
 | .str y=>if y.length<=sizeLine then some (.int y.length,μ)else none
 |_=>(bM x μ).map λds=>(.int ds.length,μ)
def nM:O1':=λx μ=>match x with
 | .int i=>some (.int (if i<0 then -i else i),μ)
 |_=>none
def ju:O1':=λx μ=>match x with
 | .int i=>some (.int (-i),μ)
 |_=>none
def mx(op:O2):ON:=λxs μ=>match xs with
 | [x,y]=>op x y μ
 |_=>none
theorem rW{op:O2}{xs:List D}{μ:Mu}{r:D×Mu}(h:mx op xs μ=some r):∃x y,xs=[x,y]/\op x y μ=some r:=by
 unfold mx at h
 split at h
 .exact⟨_,_,rfl,h⟩
 .cases h
def rD:O2:=λx y μ=>match x,y with
 | .int i,.int j=>some (.int (if j<i then j else i),μ)
 |_,_=>none
def Fg:O2:=λx y μ=>match x,y with
 | .int i,.int j=>some (.int (if j>i then j else i),μ)
 |_,_=>none
def dD:ON:=λxs μ=>match xs with
 | [x]=>(bM x μ).map λds=>(.tup ds,μ)
 |_=>none
def zg(T:String):D->Option Bool
 | .non=>some false
 | .bl _=>some (T=="bool"||T=="int")
 | .int _=>some (T=="int")
 | .str _=>some (T=="str")
 | .tup _=>some (T=="tuple")
 | .lst _=>some (T=="list")
 | .ro _=>some (T=="list")
 | .dic _=>some (T=="dict")
 | .cell _=>none
def iW(T:String):O1':=λx μ=>match x with
 | .cell n=>match μ[n]? with
  |some (some _)=>some (.bl (T=="list"),μ)
  |_=>none
 |_=>(zg T x).map λk=>(.bl k,μ)
section
variable {X:Cx} {tb:List Addr} {a b e:Expr} {fa fb f:EF} {fs:AF} {p pos:Pos}
theorem cC(ha:PD X tb a fa)(hb:PD X tb b fb)(hs:Af b:=by intro _ _;rfl):PD X tb (.Subscript a b pos) (M2 fa fb oIx):=
 yS (λta tb' ha hb=>PX MT ha hb hs) (λW x y v u d μ' Q ok dx dy ho h=>by
  cases y with
  |int i=>
   obtain⟨ds,e1,e2⟩:=Za.mp (show((bM x W.mu).bind λds=>(atI ds i).map λd=>(d,W.mu))=some (d,μ')from ho)
   obtain⟨d0,e3,e4⟩:=Zp.mp e2
   cases e4
   rw[bB dy]
   obtain⟨a,xs,rfl,q,r⟩:=gY ok dx e1
   obtain⟨v,ev,dv⟩:=Ig r e3
   rcases SqB.or q with q|q
   .exact .inl ⟨a,xs,i,v,rfl,rfl,q,ev,put ok h dv⟩
   .exact .inr (.inl ⟨a,xs,i,v,rfl,rfl,q,ev,put ok h dv⟩)
  |_=>cases ho) ha hb
theorem lJ(ha:PD X tb a fa):PD X tb (.UnaryOp .USub a pos) (M1 fa ju):=
 Oc (λta ha=>KJ Gy ha) (λW x v d μ' Q ok dx ho h=>by
  cases x with
  |int i=>cases ho;rw[bB dx];exact⟨i,rfl,put ok h dI⟩
  |_=>cases ho) ha
def bh(op:O1'):ON:=λxs μ=>match xs with
 | [x]=>op x μ
 |_=>none
theorem nT{op:O1'}{xs:List D}{μ:Mu}{r:D×Mu}(h:bh op xs μ=some r):∃x,xs=[x]/\op x μ=some r:=by
 unfold bh at h
 split at h
 .exact⟨_,rfl,h⟩
 .cases h
theorem xf{xs:List D}{μ:Mu}{r:D×Mu}(h:dD xs μ=some r):∃x,xs=[x]/\dD [x] μ=some r:=by
 unfold dD at h
 split at h
 .exact⟨_,rfl,h⟩
 .cases h
theorem eN(hm:X.mg "len"=none)(ha:PAD X tb [a] fs)(hg:Gl X "len":=by rfl)(he:starEach [a] X.env=(false,eval a X.env)::starEach [] X.env:=by rfl):PD X tb (.Call (.Name "len" p) [a] [] pos) (MC fs (bh dO)):=
 yq (λta ha=>jU (vL.or wF) hg hm PySem.boot_len ha (by decide) (by decide) he (by rfl)) (λW xs vs d μ' Q ok r ho h=>by
  obtain⟨x,rfl,ho⟩:=nT ho
  obtain⟨v,rfl,dv⟩:=az.one r
  have gen:∀ds,bM x W.mu=some ds->some (D.int ds.length,W.mu)=some (d,μ')->((∃p ys,[v]=[V.ref p]/\(SqL X.K W.H p ys∨SqT X.K W.H p ys)/\Q (.int ys.length) W.H)∨∃z,[v]=[V.str z]/\z.length<=sizeLine/\Q (.int z.length) W.H):=λds e1 e2=>by
   cases e2
   obtain⟨a,xs,e,q,r⟩:=gY ok dv e1
   exact Or.inl ⟨a,xs,by rw[e],SqB.or q,by rw[<-az.length r];exact put ok h dI⟩
  cases x with
  |str y=>
   have ho':(if y.length<=sizeLine then some (D.int y.length,W.mu)else none)=some (d,μ'):=ho
   split at ho'
   .rename_i hz
    cases ho'
    rw[vY dv]
    exact .inr ⟨y,rfl,hz,put ok h dI⟩
   .cases ho'
  |tup ds=>exact gen ds rfl ho
  |lst ds=>exact gen ds rfl ho
  |ro ds=>exact gen ds rfl ho
  |cell n=>
   obtain⟨ds,e1,e2⟩:=Zp.mp (show(bM (.cell n) W.mu).map (λds=>(D.int ds.length,W.mu))=some (d,μ')from ho)
   exact gen ds e1 (congrArg some e2)
  |_=>cases ho) ha
theorem vZ(hm:X.mg "abs"=none)(ha:PAD X tb [a] fs)(hg:Gl X "abs":=by rfl)(he:starEach [a] X.env=(false,eval a X.env)::starEach [] X.env:=by rfl):PD X tb (.Call (.Name "abs" p) [a] [] pos) (MC fs (bh nM)):=
 yq (λta ha=>jU DK hg hm PyProof.Rows.boot_abs ha (by decide) (by decide) he (by rfl)) (λW xs vs d μ' Q ok r ho h=>by
  obtain⟨x,rfl,ho⟩:=nT ho
  obtain⟨v,rfl,dv⟩:=az.one r
  cases x with
  |int i=>cases ho;rw[bB dv];exact⟨i,rfl,put ok h dI⟩
  |_=>cases ho) ha
theorem Kd(hc:X.calm=true)(hm:X.mg "min"=none)(ha:PAD X tb [a,b] fs)(hg:Gl X "min":=by rfl)(he:starEach [a,b] X.env=(false,eval a X.env)::starEach [b] X.env:=by rfl)(hpl:(backTo pos (starEach [b] X.env)).any (·.1)=false:=by rfl):PD X tb (.Call (.Name "min" p) [a,b] [] pos) (MC fs (mx rD)):=
 yq (λta ha=>jU (Bv hc) hg hm PyProof.Rows.boot_min ha (by decide) (by decide) he hpl) (λW xs vs d μ' Q ok r ho h=>by
  obtain⟨x,y,rfl,ho⟩:=rW ho
  obtain⟨u,v,rfl,du,dv⟩:=az.two r
  cases x with
  |int i=>
   cases y with
   |int j=>
    cases ho
    rw[bB du,bB dv]
    exact⟨i,j,rfl,put ok h dI⟩
   |_=>cases ho
  |_=>cases ho) ha
theorem Ka(hc:X.calm=true)(hm:X.mg "max"=none)(ha:PAD X tb [a,b] fs)(hg:Gl X "max":=by rfl)(he:starEach [a,b] X.env=(false,eval a X.env)::starEach [b] X.env:=by rfl)(hpl:(backTo pos (starEach [b] X.env)).any (·.1)=false:=by rfl):PD X tb (.Call (.Name "max" p) [a,b] [] pos) (MC fs (mx Fg)):=
 yq (λta ha=>jU (Cz hc) hg hm PyProof.Rows.boot_max ha (by decide) (by decide) he hpl) (λW xs vs d μ' Q ok r ho h=>by
  obtain⟨x,y,rfl,ho⟩:=rW ho
  obtain⟨u,v,rfl,du,dv⟩:=az.two r
  cases x with
  |int i=>
   cases y with
   |int j=>
    cases ho
    rw[bB du,bB dv]
    exact⟨i,j,rfl,put ok h dI⟩
   |_=>cases ho
  |_=>cases ho) ha
theorem jq(hm:X.mg "tuple"=none)(ha:PAD X tb [a] fs)(hg:Gl X "tuple":=by rfl)(he:starEach [a] X.env=(false,eval a X.env)::starEach [] X.env:=by rfl):PD X tb (.Call (.Name "tuple" p) [a] [] pos) (MC fs dD):=
 yq (λta ha=>mJ tE hg hm PyProof.Rows.boot_tuple ha (by decide) (by decide) he (by rfl)) (λW xs vs d μ' Q ok r ho h=>by
  obtain⟨x,rfl,ho⟩:=xf ho
  obtain⟨v,rfl,dv⟩:=az.one r
  obtain⟨ds,e1,e2⟩:=Zp.mp (show(bM x W.mu).map (λds=>(D.tup ds,W.mu))=some (d,μ')from ho)
  cases e2
  by_cases ht:∃es,x= .tup es
  .obtain⟨es,rfl⟩:=ht
   cases e1
   obtain⟨a,xs,rfl,q,r⟩:=iR dv
   exact⟨a,xs,rfl,.inr ⟨SqT.fz q,put ok h dv⟩⟩
  .obtain⟨a,xs,rfl,q,r⟩:=gY ok dv e1
   have hf:rM x=false:=by cases x<;>first|rfl|exact absurd ⟨_,rfl⟩ ht
   rw[hf]at q
   exact⟨a,xs,rfl,.inl ⟨q,λl hl=>kI ok h r hl⟩⟩) ha
def lOf(fs:AF):LF:=λδ μ=>(fs δ μ).bind λr=>match r.1 with
 | [x]=>(bM x r.2).map λds=>(ds,r.2)
 |_=>none
theorem rN(hm:X.mg "list"=none)(ha:PAD X tb [a] fs)(hg:Gl X "list":=by rfl)(he:starEach [a] X.env=(false,eval a X.env)::starEach [] X.env:=by rfl):PDN X tb (.Call (.Name "list" p) [a] [] pos) (lOf fs):=
 eZ (mJ vK hg hm PyProof.Rows.boot_list ha (by decide) (by decide) he (by rfl)) λσ H Q zq1=>by
  obtain⟨W,δ,ds,μ',e,ok,hd,hf,k⟩:=zq1
  unfold lOf at hf
  obtain⟨⟨xs,μ1⟩,e1,e2⟩:=Za.mp hf
  match xs,e1,e2 with
  | [x],e1,e2=>
   obtain⟨ds',e3,e4⟩:=Zp.mp (show(bM x μ1).map (λds=>(ds,μ1))=some (ds,μ')from e2)
   cases e4
   refine⟨W,δ,[x],_,e,ok,hd,e1,λvs W1 ok1 l1 m1 d1=>?_⟩
   obtain⟨v,rfl,dv⟩:=az.one d1
   obtain⟨a,xs,rfl,q,r⟩:=gY ok1 dv (by rw[m1];exact e3)
   exact⟨a,xs,rfl,SqB.or q,λl hl=>k l xs W1 ok1 l1 m1 hl r⟩
theorem jG{T:Str}{tn:String}{pt:Pos}(hm:X.mg "isinstance"=none)(hmT:X.mg T=none)(hT:bootBuiltins T=some (.type tn))(hmem:tn∈JM)(ha:PD X tb a fa)(hg:Gl X "isinstance":=by rfl)(hgT:Gl X T:=by rfl)(hn:T≠"__name__":=by decide)(hdb:(T==("__debug__":Str))=false:=by decide)
  (hs:starEach [a,.Name T pt] X.env=(false,eval a X.env)::starEach [.Name T pt] X.env:=by rfl):PD X tb (.Call (.Name "isinstance" p) [a,.Name T pt] [] pos) (M1 fa (iW tn)):=
 eZ (jU Gp hg hm PyProof.Rows.boot_isinstance (oW ha (oW (Kp hgT hmT hT (v:=.ty tn) rfl hn hdb) vG) hs) (by decide) (by decide) hs (by rfl)) λσ H Q zq2=>by
  obtain⟨W,δ,d,μ',e,ok,hd,hf,h⟩:=zq2
  unfold M1 at hf
  obtain⟨⟨x,μ1⟩,e1,e2⟩:=Za.mp hf
  refine⟨W,δ,x,μ1,e,ok,hd,e1,λv W1 ok1 l1 m1 d1=>?_⟩
  have fin:∀k,Ol X.K tn v W1.H k->some (D.bl k,μ1)=some (d,μ')->∃x T k,[v,V.ty tn]=[x,.ty T]/\T∈JM/\Ol X.K T x W1.H k/\Q (.bl k) W1.H:=λk hk e=>by
   cases e
   exact⟨v,tn,k,rfl,hmem,hk,h _ W1 ok1 l1 m1 gm⟩
  cases x with
  |non=>rw[Di d1]at fin ⊢;exact fin _ rfl e2
  |bl b=>rw[pX d1]at fin ⊢;exact fin _ rfl e2
  |int b=>rw[bB d1]at fin ⊢;exact fin _ rfl e2
  |str b=>rw[vY d1]at fin ⊢;exact fin _ rfl e2
  |tup ds=>obtain⟨a,xs,rfl,q,r⟩:=iR d1;exact fin _ (.inr (.inl ⟨rfl,xs,SqT.fz q⟩)) e2
  |lst ds=>obtain⟨a,xs,rfl,q,r⟩:=kE d1;exact fin _ (.inl ⟨rfl,xs,SqL.fz q⟩) e2
  |ro ds=>obtain⟨a,xs,rfl,q,r⟩:=wQ d1;exact fin _ (.inl ⟨rfl,xs,SqL.fz q⟩) e2
  |dic ds=>obtain⟨a,xs,rfl,q,r⟩:=NK d1;exact fin _ (.inr (.inr ⟨rfl,xs,(dJ q).1⟩)) e2
  |cell n=>
   have e2':(match μ1[n]? with|some (some _)=>some (D.bl (tn=="list"),μ1)|_=>none)=some (d,μ'):=e2
   obtain⟨a,rfl,q⟩:=gj d1
   cases e4:μ1[n]? with
   |none=>rw[e4]at e2';cases e2'
   |some o=>
    cases o with
    |none=>rw[e4]at e2';cases e2'
    |some ds=>
     rw[e4]at e2'
     obtain⟨xs,ex,_⟩:=ok1.cont n a ds q (by rw[m1];exact e4)
     exact fin _ (.inl ⟨rfl,xs,SqL.of ex⟩) e2'
def gZ(μ:Mu)(n:Nat):Bool:=match μ[n]? with
 |some (some _)=>true
 |_=>false
theorem yf{μ:Mu}{n:Nat}(h:gZ μ n=true):∃ds,μ[n]? =some (some ds):=by
 unfold gZ at h
 split at h
 .exact⟨_,by assumption⟩
 .cases h
def fU(fo:EF)(fs:AF):EF:=λδ μ=>(fo δ μ).bind λr=>(fs δ r.2).bind λq=>match r.1,q.1 with
 | .cell n,[y]=>match q.2[n]? with
  |some (some ds)=>if gZ r.2 n=true/\ds.length<sizeLine then some (.non,q.2.set n (some (ds++[y])))else none
  |_=>none
 |_,_=>none
theorem fB{o:Expr}{fo:EF}{apos cpos:Pos}(ho:PD X tb o fo)(ha:PAD X tb [e] fs)
  (hbase:attributeBase o "append" X.env (eval o X.env)=eval o X.env:=by rfl)
  (hfew:((backTo cpos (starEach [e] X.env)).all (λx=>!x.1)&&(backToKw cpos (keywordEach [] X.env)).all (λx=>x.1.isSome)
   &&decide ([e].length+([]:List Keyword).length+(if([]:List Keyword).isEmpty then 0 else 1)<30))=true:=by rfl)
  (hline:(apos.endLine==cpos.line)=true:=by rfl) (hs:starEach [e] X.env=(false,eval e X.env)::starEach [] X.env:=by rfl):PD X tb (.Call (.Attribute o "append" apos) [e] [] cpos) (fU fo fs):=
 eZ (Lb PySem.F.plainAttrs_list PySem.F.slot_list_append PySem.F.type_list_append Bw ho ha hbase hfew hline hs (by rfl)) λσ H Q zq3=>by
  obtain⟨W,δ,d,μ',e,ok,hd,hf,h⟩:=zq3
  unfold fU at hf
  obtain⟨⟨x,μ1⟩,e1,hf⟩:=Za.mp hf
  obtain⟨⟨ys,μ2⟩,e2,hf⟩:=Za.mp hf
  refine⟨W,δ,x,μ1,e,ok,hd,e1,λv W1 ok1 l1 m1 d1=>?_⟩
  match x,ys,e1,e2,hf,d1 with
  | .cell n,[y],e1,e2,hf,d1=>
   have hf':(match μ2[n]? with|some (some ds)=>if gZ μ1 n=true/\ds.length<sizeLine then some (D.non,μ2.set n (some (ds++[y])))else none|_=>none)=some (d,μ'):=hf
   cases e4:μ2[n]? with
   |none=>rw[e4]at hf';cases hf'
   |some oo=>
    cases oo with
    |none=>rw[e4]at hf';cases hf'
    |some ds=>
     rw[e4]at hf'
     have hf'':(if gZ μ1 n=true/\ds.length<sizeLine then some (D.non,μ2.set n (some (ds++[y])))else none)=some (d,μ'):=hf'
     split at hf''
     .rename_i hz
      cases hf''
      obtain⟨a,rfl,q⟩:=gj d1
      obtain⟨ds0,e5⟩:=yf hz.1
      obtain⟨xs0,ex0,_⟩:=ok1.cont n a ds0 q (by rw[m1];exact e5)
      refine⟨.inl ⟨rfl,xs0,SqL.of ex0⟩,W1,δ,[y],μ2,rfl,ok1,hd.mono' l1,(by rw[m1];exact e2),λvs W2 ok2 l2 m2 d2=>?_⟩
      obtain⟨u,rfl,du⟩:=az.one d2
      have q2:=l2.ad _ _ q
      have e6:W2.mu[n]? =some (some ds):=by rw[m2];exact e4
      obtain⟨xs,ex,r⟩:=ok2.cont n a ds q2 e6
      refine⟨a,xs,u,rfl,rfl,ex,by rw[<-az.length r];exact hz.2,?_⟩
      obtain⟨ok3,l3⟩:=ok2.write q2 e6 (az.append r (az.cons du az.nil))
      exact h .non _ ok3 ((l1.trans l2).trans l3) (by rw[<-m2]) vm
     .cases hf''
def Aj(fo:EF):EF:=λδ μ=>(fo δ μ).bind λr=>match r.1 with
 | .cell n=>match r.2[n]? with
  |some (some (y::ds))=>some (y,r.2.set n (some ds))
  |_=>none
 |_=>none
theorem Jq{o:Expr}{fo:EF}{apos cpos p0:Pos}{j}(ho:PD X tb o fo)
  (hbase:attributeBase o "pop" X.env (eval o X.env)=eval o X.env:=by rfl)
  (hfew:((backTo cpos (starEach [.Constant (.int 0) j p0] X.env)).all (λx=>!x.1)&&(backToKw cpos (keywordEach [] X.env)).all (λx=>x.1.isSome)
   &&decide ([Expr.Constant (.int 0) j p0].length+([]:List Keyword).length+(if([]:List Keyword).isEmpty then 0 else 1)<30))=true:=by rfl)
  (hline:(apos.endLine==cpos.line)=true:=by rfl):PD X tb (.Call (.Attribute o "pop" apos) [.Constant (.int 0) j p0] [] cpos) (Aj fo):=
 eZ (Lb PySem.F.plainAttrs_list PySem.F.slot_list_pop PySem.F.type_list_pop Gh ho (oW zp vG) hbase hfew hline (by rfl) (by rfl)) λσ H Q zq4=>by
  obtain⟨W,δ,d,μ',e,ok,hd,hf,h⟩:=zq4
  unfold Aj at hf
  obtain⟨⟨x,μ1⟩,e1,hf⟩:=Za.mp hf
  refine⟨W,δ,x,μ1,e,ok,hd,e1,λv W1 ok1 l1 m1 d1=>?_⟩
  cases x with
  |cell n=>
   have hf':(match μ1[n]? with|some (some (y::ds))=>some (y,μ1.set n (some ds))|_=>none)=some (d,μ'):=hf
   cases e4:μ1[n]? with
   |none=>rw[e4]at hf';cases hf'
   |some oo=>
    match oo,e4 with
    |none,e4=>rw[e4]at hf';cases hf'
    |some [],e4=>rw[e4]at hf';cases hf'
    |some (y::ds),e4=>
     rw[e4]at hf'
     have hf'':some (y,μ1.set n (some ds))=some (d,μ'):=hf'
     cases hf''
     obtain⟨a,rfl,q⟩:=gj d1
     have e6:W1.mu[n]? =some (some (d::ds)):=by rw[m1];exact e4
     obtain⟨xs,ex,r⟩:=ok1.cont n a _ q e6
     have r':az _ _ _ _ _:=r
     unfold az at r'
     obtain⟨u,us,rfl,du,r2⟩:=r'
     refine⟨.inl ⟨rfl,_,SqL.of ex⟩,a,u::us,0,0,u,rfl,rfl,ex,by decide,by decide,?_,rfl,?_⟩
     .simp[seqIndex?]
     .obtain⟨ok3,l3⟩:=ok1.write q e6 r2
      exact h u _ ok3 (l1.trans l3) (by rw[<-m1]) (Den.mono' du l3)
  |_=>cases hf
theorem pdv(i:Nat){x:Str}(hN:X.N[i]? =some x:=by rfl)(hv:Vis X.env.scope x:=by first|exact Or.inl rfl|exact Or.inr (Or.inl rfl)|exact Or.inr (Or.inr rfl))(hd:(x==("__debug__":Str))=false:=by decide)(hcd:(x==("__classdict__":Str))=false:=by decide):PD X tb (.Name x pos) (ao i):=Ls hN hv hd hcd
end
end L3
namespace L2
open PySem PySem.Spec PyProof.Rows
section
variable {X:Cx} {e:Expr} {es:List Expr} {te:TE} {t:TA}
def Rn(K:PySem.W.Frag)(te:TE)(t:TA):TA:=λσ H Q=>te σ H λx H1=>∃a c xs,x= .ref a/\SqB c K H1 a xs/\t σ H1 λvs H2=>Q (xs++vs) H2
theorem JS{p:Pos}(ha:PE X e te)(hr:PA X es t)(hs:starEach (.Starred e p::es) X.env=(true,eval e X.env)::starEach es X.env:=by rfl):PA X (.Starred e p::es) (Rn X.K te t):=by
 intro pos pins s σ H Q I h
 refine PySem.W.items_star (thn (ha pins s σ H _ I h) λu s1 zq1=>?_) hs
 obtain⟨x,H1,I1,r1,q1⟩:=zq1
 obtain⟨a,c,xs,rfl,hq,q⟩:=q1
 cases r1
 obtain⟨its,rv,p1,hz⟩:=I1.sqB hq
 obtain⟨T,hT,o,n,ho,hc,hd⟩:∃T,(T="list"∨T="tuple")/\∃o n,s1.heap.get? a=some o/\o.cls= .type T/\o.data= .seq its.toArray n:=by
  cases c
  .obtain⟨o,ho,hc,n,hd⟩:s1.heap.IsList a its.toArray:=p1
   exact⟨"list",.inl rfl,o,n,ho,hc,hd⟩
  .obtain⟨o,ho,hc,n,hd⟩:s1.heap.IsTuple a its.toArray:=p1
   exact⟨"tuple",.inr rfl,o,n,ho,hc,hd⟩
 have hlen:=rv.length
 unfold PySem.W.StarOf notIterableAtAll
 have hty:s1.TypeIs (.ref a) T:=⟨o,ho,hc⟩
 have fin:wpAny (model X.prog X.w) X.A (collect (.ref a)) (λhere s₂=>wpAny (model X.prog X.w) X.A (spliced (backTo pos (starEach es X.env))) (λvs s₃=>AP X pins σ Q (here++vs) s₃) X.xe s₂) X.xe s1:=by
  refine wpAny_collect_seq a hT ho hc hd (λh' kp=>?_) (by simp only[Zd];omega)
  have I2:Inv X pins σ H1 { s1 with heap:=h'}:=I1.kept (t':=s1.toks) kp
  refine thn (hr pos pins { s1 with heap:=h'} σ H1 _ I2 q) λus s3 zq2=>?_
  obtain⟨vs,H3,I3,r3,q3⟩:=zq2
  exact⟨xs++vs,H3,I3,rv.append r3,q3⟩
 rcases hT with rfl|rfl
 .exact wpAny_bind (wpAny_specialOf hty PySem.F.slot_list_iter.lookup (wpAny_pure ⟨rfl,fin⟩))
 .exact wpAny_bind (wpAny_specialOf hty PySem.F.slot_tuple_iter.lookup (wpAny_pure ⟨rfl,fin⟩))
end
end L2
namespace L3
open PySem PySem.Spec PyProof.Rows L2
section
variable {X:Cx} {tb:List Addr} {a b e:Expr} {es:List Expr} {fa fb f:EF} {fs:AF} {p pos:Pos}
def ym(f:EF)(fs:AF):AF:=λδ μ=>(f δ μ).bind λr=>(bM r.1 r.2).bind λxs=>(fs δ r.2).bind λq=>match r.1 with
 | .cell _=>none
 |_=>some (xs++q.1,q.2)
theorem Fp(ha:PD X tb e f)(hr:PAD X tb es fs)(hs:starEach (.Starred e p::es) X.env=(true,eval e X.env)::starEach es X.env:=by rfl):PAD X tb (.Starred e p::es) (ym f fs):=
 FQ (JS ha hr hs) λσ H Q zq3=>by
  obtain⟨W,δ,ds,μ',e,ok,hd,hf,h⟩:=zq3
  unfold ym at hf
  obtain⟨⟨x,μ1⟩,e1,hf⟩:=Za.mp hf
  obtain⟨xs,e2,hf⟩:=Za.mp hf
  obtain⟨⟨ys,μ2⟩,e3,hf⟩:=Za.mp hf
  have hf':some (xs++ys,μ2)=some (ds,μ'):=by cases x<;>first|exact hf|cases hf
  cases hf'
  refine⟨W,δ,x,μ1,e,ok,hd,e1,λv W1 ok1 l1 m1 d1=>?_⟩
  obtain⟨a,vs,rfl,q,r⟩:=gY ok1 d1 (by rw[m1];exact e2)
  refine⟨a,_,vs,rfl,q,W1,δ,ys,_,rfl,ok1,hd.mono' l1,(by rw[m1];exact e3),λus W2 ok2 l2 m2 d2=>?_⟩
  exact h (vs++us) W2 ok2 (l1.trans l2) m2 (az.append (cN.mono' r l2) d2)
def jf:List D->List D->List D
 |x::xs,y::ys=>.tup [x,y]::jf xs ys
 |_,_=>[]
theorem yc:∀{xs ys:List D}{i:Nat}{d:D},(jf xs ys)[i]? =some d->∃x y,d= .tup [x,y]/\xs[i]? =some x/\ys[i]? =some y
 | [],ys,i,d,h=>by simp[jf]at h
 |x::xs,[],i,d,h=>by simp[jf]at h
 |x::xs,y::ys,0,d,h=>by
  have h':some (D.tup [x,y])=some d:=by simpa[jf]using h
  cases h'
  exact⟨x,y,rfl,rfl,rfl⟩
 |x::xs,y::ys,i+1,d,h=>by
  obtain⟨u,v,e,e1,e2⟩:=yc (xs:=xs) (ys:=ys) (i:=i) (by simpa[jf]using h)
  exact⟨u,v,e,by simpa using e1,by simpa using e2⟩
theorem xm:∀(xs ys:List D),(jf xs ys).length=min xs.length ys.length
 | [],ys=>by simp[jf]
 |x::xs,[]=>by simp[jf]
 |x::xs,y::ys=>by simp[jf,xm xs ys]
def cO:D->Option (List D)
 | .tup ds=>some ds
 | .lst ds=>some ds
 | .ro ds=>some ds
 |_=>none
theorem Dw{K:PySem.W.Frag}{W:Wd}{x:D}{v:V}{ds:List D}(h:Den K tb W x v)(e:cO x=some ds):∃a xs,v= .ref a/\SqB (rM x) K (W.fz tb) a xs/\cN K tb W ds xs:=by
 cases x with
 |tup es=>cases e;obtain⟨a,xs,rfl,q,r⟩:=iR h;exact⟨a,xs,rfl,q,r⟩
 |lst es=>cases e;obtain⟨a,xs,rfl,q,r⟩:=kE h;exact⟨a,xs,rfl,q,r⟩
 |ro es=>cases e;obtain⟨a,xs,rfl,q,r⟩:=wQ h;exact⟨a,xs,rfl,q,r⟩
 |_=>cases e
theorem lQ{K:PySem.W.Frag}{c:Bool}{W0 W:Wd}{a:Addr}{xs:List V}(h:SqB c K (W0.fz tb) a xs)(l:Le tb W0 W):SqB c K W.H a xs:=by
 cases c
 .exact SqL.fz (SqL.mono l.same (show SqL K (W0.fz tb) a xs from h))
 .exact SqT.fz (SqT.mono l.same (show SqT K (W0.fz tb) a xs from h))
def nq(fs:AF):IF:=λδ μ=>(fs δ μ).bind λr=>match r.1 with
 | [x,y]=>(cO x).bind λxs=>(cO y).map λys=>(⟨jf xs ys,none⟩,r.2)
 |_=>none
theorem mO{p':Pos}{elts:List Expr}{kk:Nat}(hm:X.mg "zip"=none)(ha:PAD X tb [a,b] fs)(hg:Gl X "zip":=by rfl)(hs:starEach [a,b] X.env=[(false,eval a X.env),(false,eval b X.env)]:=by rfl)(hs2:starEach [b] X.env=[(false,eval b X.env)]:=by rfl):
  PID X tb (.Tuple elts kk p') (.Call (.Name "zip" p) [a,b] [] pos) (nq fs):=
 Er (Lw hg hm ha hs hs2) λσ H R zq4=>by
  obtain⟨W,δ,S,μ',e,ok,hd,hf,h⟩:=zq4
  unfold nq at hf
  obtain⟨⟨zs,μ1⟩,e1,hf⟩:=Za.mp hf
  match zs,e1,hf with
  | [x,y],e1,hf=>
   obtain⟨xs,e2,hf⟩:=Za.mp (show((cO x).bind λxs=>(cO y).map λys=>((⟨jf xs ys,none⟩:Src),μ1))=some (S,μ')from hf)
   obtain⟨ys,e3,e4⟩:=Zp.mp hf
   cases e4
   refine⟨W,δ,[x,y],_,e,ok,hd,e1,λvs W1 ok1 l1 m1 d1=>?_⟩
   obtain⟨u,v,rfl,du,dv⟩:=az.two d1
   obtain⟨a1,us,rfl,q1,r1⟩:=Dw du e2
   obtain⟨a2,ws,rfl,q2,r2⟩:=Dw dv e3
   refine⟨a1,a2,_,_,rfl,⟨us,lQ q1 (Le.refl _)⟩,⟨ws,lQ q2 (Le.refl _)⟩,h _ W1 ok1 l1 m1 ⟨λi W2 d l ok2 _ ei=>?_,λi W2 l ok2 _ hi=>?_⟩⟩
   .obtain⟨x0,y0,rfl,ex,ey⟩:=yc ei
    obtain⟨vx,evx,dvx⟩:=az.get (cN.mono' r1 l) ex
    obtain⟨vy,evy,dvy⟩:=az.get (cN.mono' r2 l) ey
    refine⟨⟨⟨us,vx,lQ q1 l,evx⟩,ws,vy,lQ q2 l,evy⟩,λz H' ⟨p,x',y',ez,hp,eH,hx',hy'⟩=>?_⟩
    have ex':=hx' us (lQ q1 l)
    have ey':=hy' ws (lQ q2 l)
    rw[evx]at ex';cases ex'
    rw[evy]at ey';cases ey'
    obtain⟨ok3,l3,e3⟩:=ok2.alloc (o:=.tup [vx,vy]) hp
    refine⟨_,eH.symm,ok3,l3,rfl,?_⟩
    rw[ez]
    show bf _ _ _ _ _
    unfold bf
    exact⟨p,[vx,vy],rfl,.inl (.inl e3),cN.mono' (az.cons dvx (az.cons dvy az.nil)) l3⟩
   .have hi':min xs.length ys.length<=i:=by rw[<-xm];exact hi
    have l1':=az.length r1
    have l2':=az.length r2
    refine⟨us,ws,lQ q1 l,lQ q2 l,?_⟩
    omega
end
theorem Bq{K:PySem.W.Frag}{F:Hp}{ad:List Addr}:∀(ns:List Int),az K F ad (ns.map D.int) (ns.map V.int)
 | []=>az.nil
 |n::ns=>az.cons (by unfold bf;rfl) (Bq ns)
theorem BR{P:Program}{w:World}{K:PySem.W.Frag}{mg mb:Str->Option Value}{k:Nat}{fa a:Addr}{fd:FuncData}{x:Str}{s₁:Shared}{vs:List Value}{ns:List Int}{tb:List Addr}{φ:FF}{μ':Mu}
  (KX:K.In s₁.heap) (hns:s₁.heap.Ns mainGlobals mg) (hb:s₁.heap.Ns builtinsNs mb) (hbb:∀x:Str,x≠"__name__"->mb x=bootBuiltins x) (hlim:s₁.heap.NoLimit)
  (hbm:∃bm ob,mg "__builtins__"=some (.ref bm)/\bm≠builtinsNs/\s₁.heap.get? bm=some ob/\ob.cls= .type "module"/\ob.dict=some builtinsNs/\ob.data= .plain) (hg:s₁.gens= #[])
  (ha:s₁.heap.get? a=some { cls:=.type "list",data:=.seq vs.toArray}) (hi:IntsAre vs ns) (hl:ns.length<=sizeLine) (hr:cL k callerA)
  (htb:∀P∈tb,∃c,PySem.W.CodeHd s₁.heap c P/\s₁.heap.get? P=some (PySem.W.tabObj #[])) (hnt:PySem.W.noTabs K=true)
  (F:∀base:Heap,K.In base->base.Ns mainGlobals mg->qp P w K mg base CX0 k fa fd [x] (spD K tb 1 φ)) (hbind:∀(s:Shared)(u:Value),BindsTo s fd ⟨[u],[]⟩ [(x,u)])
  (hsp:φ [.ro (ns.map .int)] []=some (.bl true,μ')):
  codeAny (model P w) callerA (.call (.ref fa) ⟨[.ref a],[]⟩) (λr s'=>r= .ok (.ret (.bool true))/\OldK s₁.heap s'.heap/\s'.os=s₁.os/\AllBare s'.gens) s₁:=by
 have rv:=uw hi
 have lenV:=hi.length
 have hat:a∉tb:=λz=>by
  obtain⟨c,_,e⟩:=htb a z
  rw[ha]at e;cases e
 have hKt:∀P∈tb,K.lookup P=none:=λP hP=>by
  cases q:K.lookup P with
  |none=>rfl
  |some o=>
   obtain⟨c,_,e⟩:=htb P hP
   have e2:=KX P o q
   rw[e]at e2
   cases e2
   have h2:=List.all_eq_true.mp hnt (P,_) (PySem.W.mem_of_lookupK q)
   exact absurd (show false=true from h2) Zr
 have core:∀H:Hp,(∀b,H b=none∨(b=a/\∃o xs,H b=some (.frz o (.lst xs)))∨(b∈tb/\H b=some (.tbl #[])))->SqL K H a (ns.map V.int)->HOk P w H s₁.heap->(∀P∈tb,H P=some (.tbl #[]))->(H a≠none->K.lookup a=none)->
   codeAny (model P w) callerA (.call (.ref fa) ⟨[.ref a],[]⟩) (λr s'=>r= .ok (.ret (.bool true))/\OldK s₁.heap s'.heap/\s'.os=s₁.os/\AllBare s'.gens) s₁:=by
  intro H hO hS hok hT hK
  have base_of:∀{b:Addr}{o:Obj},s₁.heap.get? b=some o->H b=none->(vU s₁.heap H).get? b=some o:=λe n=>Ew e n
  have noH:∀{b:Addr}{o:Obj},s₁.heap.get? b=some o->o.cls≠ .type "list"->o.cls≠ .none->H b=none:=λ{b o} e d1 d2=>by
   rcases hO b with z|⟨rfl,_⟩|⟨z,_⟩
   .exact z
   .rw[ha]at e;cases e;exact absurd rfl d1
   .obtain⟨c,_,e2⟩:=htb b z
    rw[e2]at e;cases e;exact absurd rfl d2
  have noA:∀{b:Addr}{o:Obj}{es:Array DictEntry}{ep:Nat},s₁.heap.get? b=some o->o.data= .dict es ep->H b=none:=λ{b o es ep} e d=>by
   rcases hO b with z|⟨rfl,_⟩|⟨z,_⟩
   .exact z
   .rw[ha]at e;cases e;cases d
   .obtain⟨c,_,e2⟩:=htb b z
    rw[e2]at e;cases e;cases d
  have nsK:∀{b:Addr}{m:Str->Option Value},s₁.heap.Ns b m->(vU s₁.heap H).Ns b m:=λ{b m}⟨o,es,ep,e,d,r⟩=>⟨o,es,ep,base_of e (noA e d),d,r⟩
  have hKb:K.In (vU s₁.heap H):=λb o e=>base_of (KX b o e) (by
   rcases hO b with z|⟨rfl,_,_,z⟩|⟨z,_⟩
   .exact z
   .rw[hK (by rw[z];simp)]at e;cases e
   .rw[hKt b z]at e;cases e)
  have hM:Mod K mg (vU s₁.heap H):=⟨hKb,nsK hns,⟨mb,nsK hb,hbb⟩,(let⟨mc,h1,h2⟩:=hlim;⟨mc,nsK h1,h2⟩),(let⟨bm,ob,h1,h2,h3,h4,r⟩:=hbm;⟨bm,ob,h1,h2,base_of h3 (noH h3 (by rw[h4];decide) (by rw[h4];decide)),h4,r⟩)⟩
  have e0:Ik P w K mg (vU s₁.heap H) callerA [] s₁ H:=⟨rfl,hM,λb o e=>Hq e,Nat.le_of_eq (CZ _ _),trivial,λb hb=>absurd (show b∈([]:List Addr)from hb) (by simp),hok,.of_eq hg⟩
  have okW:WOk K tb ⟨H,[],[]⟩:=⟨rfl,λi a ds e=>by simp at e,λi j a ds es e=>by simp at e,λP hP=>⟨#[],hT P hP,TOk.nil⟩⟩
  have nlive:∀b,¬mY ([]:List Addr) ([]:Mu) b:=λb ⟨i,ds,e,_⟩=>by simp at e
  have fzA:Wd.fz tb ⟨H,[],[]⟩ a=H a:=nZ (W:=⟨H,[],[]⟩) (nlive a) hat
  have hden:Den K tb ⟨H,[],[]⟩ (.ro (ns.map .int)) (.ref a):=by
   show bf _ _ _ _ _
   unfold bf
   refine⟨a,_,rfl,?_,Bq ns⟩
   rcases hS with(h|⟨o,h⟩)|h
   .exact .inl (.inl (fzA.trans h))
   .exact .inl (.inr ⟨o,fzA.trans h⟩)
   .exact .inr h
  refine codeAny_mono ((F _ hKb (nsK hns)).run callerA [] s₁ H ⟨[.ref a],[]⟩ [.ref a] [.ref a] (λv _=>v= .bl true) (λ_ _ _=>False) hr e0 (hbind s₁ (.ref a)) (.cons rfl .nil)
   ⟨⟨H,[],[]⟩,[.ro (ns.map .int)],_,_,rfl,okW,az.cons hden az.nil,rfl,hsp,λv W' _ _ _ dv=>pX dv⟩) λr s' h=>?_
  cases r with
  |error e=>exact False.elim h
  |ok fl=>
   cases fl with
   |next=>exact False.elim h
   |brk=>exact False.elim h
   |cont=>exact False.elim h
   |ret u=>
    obtain⟨v,H',os,bare,un,hok',r',q⟩:=h
    have q':v= .bl true:=q
    subst q'
    obtain rfl:u=Value.bool true:=r'
    have old:∀b o,s₁.heap.get? b=some o->asItWas s₁.heap s'.heap b o/\∃o',s'.heap.get? b=some o':=λb o e=>by
     rcases hO b with z|⟨rfl,ob,xs,z⟩|⟨hb,z⟩
     .have:=un.keep b o e z (by intro z;exact absurd (show b∈([]:List Addr)from z) (by simp)) (by simp)
      exact⟨.inl this,o,this⟩
     .have z2:=un.frzs b ob _ z
      obtain⟨e1,_⟩:=hok b _ z
      obtain⟨e2,_⟩:=hok' b _ z2
      rw[e]at e1;cases e1
      exact⟨.inl e2,_,e2⟩
     .obtain⟨more,z2⟩:=un.tbls b _ z
      have e2:=hok' b _ z2
      obtain⟨c,hd,hp⟩:=htb b hb
      rw[hp]at e;cases e
      have e3:s'.heap.get? b=some { cls:=.none,data:=.fields (#[]++more) }:=e2
      exact⟨.inr (.inl ⟨(hd.tab hp).isCodeTable,rfl,#[],more,rfl,e3⟩),_,e3⟩
    exact⟨rfl,⟨λb o e=>(old b o e).1,λb o e=>(old b o e).2⟩,os,bare.bare⟩
 have tbOk:∀{H:Hp}{b:Addr},b∈tb->iT P w H s₁.heap b (.tbl #[]):=λ{H b} hb=>by
  obtain⟨c,_,e⟩:=htb b hb
  exact e
 classical
 cases hk:K.lookup a with
 |some o=>
  have e:=KX a o hk
  rw[ha]at e
  cases e
  refine core (λb=>if b∈tb then some (.tbl #[])else none) (λb=>?_) (.inr ⟨_,vs.toArray,_,hk,rfl,rfl,rfl,by rw[Zd,lenV];exact hl,by simpa using rv⟩) (λb u z=>?_) (λP hP=>if_pos hP) λz=>absurd (if_neg hat) z
  .by_cases hb:b∈tb
   .exact .inr (.inr ⟨hb,if_pos hb⟩)
   .exact .inl (if_neg hb)
  .by_cases hb:b∈tb
   .have z':=(if_pos hb).symm.trans z
    cases z'
    exact tbOk hb
   .have z':=(if_neg hb).symm.trans z
    cases z'
 |none=>
  refine core (λb=>if b=a then some (.frz { cls:=.type "list",data:=.seq vs.toArray} (.lst (ns.map V.int)))else if b∈tb then some (.tbl #[])else none) (λb=>?_) (.inl (.inr ⟨{ cls:=.type "list",data:=.seq vs.toArray},if_pos rfl⟩)) (λb u z=>?_) (λP hP=>?_) λ_=>hk
  .by_cases hb:b=a
   .exact .inr (.inl ⟨hb,_,_,if_pos hb⟩)
   .by_cases hb':b∈tb
    .exact .inr (.inr ⟨hb',(if_neg hb).trans (if_pos hb')⟩)
    .exact .inl ((if_neg hb).trans (if_neg hb'))
  .by_cases hb:b=a
   .have z':=(if_pos hb).symm.trans z
    cases z'
    subst hb
    exact⟨ha,by rw[Zu];exact hl,vs,_,rv,ha⟩
   .have z1:=(if_neg hb).symm.trans z
    by_cases hb':b∈tb
    .have z':=(if_pos hb').symm.trans z1
     cases z'
     exact tbOk hb'
    .have z':=(if_neg hb').symm.trans z1
     cases z'
  .have hne:P≠a:=λz=>hat (z▸hP)
   exact(if_neg hne).trans (if_pos hP)
theorem Do{l:PySem.W.OpenLaw}{n k:Nat}{q:Program}{loose:List Str}{XP:(Str->Option Value)->Heap->Prop}{YP:World->Heap->Prop}{d:DefRec}{K:Params->PySem.W.Frag}{x:Str}{φ:FF}
  (hn:l.most=some n) (hn2:n<=sizeLine) (hdf:d.params.defaults=[]) (hr:cL k callerA)
  (hY:∀(w:World)(h:Heap),YP w h->(K w.params).In h)
  (F:∀(w:World)(mg mb:Str->Option Value)(mean:ExcName->Option Value)(lo:List Str)(fa:Addr)(h:Heap),(K w.params).In h->Top q lo mean mg mb h->mg d.name=some (.ref fa)->
   ∃(fd:FuncData)(tb:List Addr),(∀(s:Shared)(u:Value),BindsTo s fd ⟨[u],[]⟩ [(x,u)])/\(∀P∈tb,∃c,PySem.W.CodeHd h c P/\h.get? P=some (PySem.W.tabObj #[]))/\PySem.W.noTabs (K w.params)=true/\
    ∀base:Heap,(K w.params).In base->base.Ns mainGlobals mg->qp l.prog w (K w.params) mg base CX0 k fa fd [x] (spD (K w.params) tb 1 φ))
  (hsp:∀(ns:List Int),ns.length<=n->∃μ',φ [.ro (ns.map .int)] []=some (.bl true,μ')):
  PySem.W.WalkO q loose XP YP l.row.toRowW d [] (λf vs=>PySem.call f vs):=by
 refine Att.attach_call hn hdf λw s₀ s₁ mg mb fa o pm cd doc a vs ns G Y ho hd hcd hmg hobj hints hlen hg=>?_
 have KX:=hY w _ Y
 obtain⟨fd,tb,hb,htb,hnt,hF⟩:=F w mg mb _ _ fa _ KX G.T hmg
 obtain⟨μ',hs⟩:=hsp ns hlen
 exact BR KX G.T.g G.T.b G.T.builtins G.T.nolimit G.T.bmain hg hobj hints (Zl hlen hn2) hr htb hnt hF hb hs
section
variable {X:Cx} {tb:List Addr} {e tg iter elt:Expr} {f:EF} {pos:Pos}
theorem Jv{fi:IF}{h:GF}{tt:TF}{fe:EF}{own:List Str}{capI ts:List Nat}{σ:SV}{H:Hp}{Q:VK}(hts:∀i∈ts,i<own.length)(hx:tDN X.K tb (lLC own capI fi h tt fe) σ H Q):
  tLC own capI (tDI X.K tb fi) (tDG X.K tb ts h) (tDT X.K tb tt) (tD X.K tb fe) σ H Q:=by
  obtain⟨W,δ,ds,μ',e,ok,hd,hf,k⟩:=hx
  unfold lLC at hf
  obtain⟨⟨S,μ1⟩,e1,e2⟩:=Za.mp hf
  split at e2
  .rename_i hz
   refine⟨W,δ,S,μ1,e,ok,hd,e1,λJ W1 ok1 l1 m1 io=>?_⟩
   refine⟨λi m ys H2=>m=S.items.length-i/\i<=S.items.length/\ys.length<=i/\∃W2 zs rs,W2.H=H2/\WOk X.K tb W2/\Le tb W1 W2/\cN X.K tb W2 zs ys/\lcL S h tt fe (bU own δ capI) (S.items.drop i) W2.mu=some (rs,μ')/\zs++rs=ds,
    ⟨S.items.length,rfl,Nat.zero_le _,Nat.zero_le _,W1,[],ds,rfl,ok1,Le.refl _,az.nil,by rw[m1];exact e2,rfl⟩,?_⟩
   rintro i m ys H2 ⟨hm,hi',hy,W2,zs,rs,rfl,ok2,l2,d2,hn,hzs⟩
   by_cases hlt:i<S.items.length
   .right
    have hdr:S.items.drop i=S.items[i]::S.items.drop (i+1):=List.drop_eq_getElem_cons hlt
    rw[hdr]at hn
    unfold lcL at hn
    split at hn
    .rename_i hok
     obtain⟨δ3,e3,hn⟩:=Za.mp hn
     obtain⟨⟨kk,μ4⟩,e4,hn⟩:=Za.mp hn
     obtain⟨go,yl⟩:=io.go i W2 S.items[i] l2 ok2 hok (by simp[hlt])
     refine⟨go,Zc (Nat.lt_of_le_of_lt hy hlt) hz,λx H' y=>?_⟩
     obtain⟨W3,rfl,ok3,l3,m3,d3⟩:=yl x H' y
     refine⟨W3,bU own δ capI,S.items[i],δ3,rfl,ok3,(qF hd).mono' ((l1.trans l2).trans l3),d3,(by rw[m3];exact e3),λσ3 d3' hl3 ht3=>⟨fits_of hts hl3 ht3,?_⟩⟩
     refine⟨W3,δ3,kk,μ4,rfl,ok3,d3',(by rw[m3];exact e4),λW4 ok4 l4 m4=>?_⟩
     cases kk with
     |false=>
      rw[if_neg Zr]
      exact⟨S.items.length-(i+1),by omega,rfl,hlt,by omega,W4,zs,rs,rfl,ok4,(l2.trans l3).trans l4,cN.mono' d2 (l3.trans l4),by rw[m4];exact hn,hzs⟩
     |true=>
      rw[if_pos rfl]
      have hn':((fe δ3 μ4).bind λy=>(lcL S h tt fe (bU own δ capI) (S.items.drop (i+1)) y.2).bind λys=>some (y.1::ys.1,ys.2))=some (rs,μ'):=hn
      obtain⟨⟨yd,μ5⟩,e5,hn'⟩:=Za.mp hn'
      obtain⟨⟨rs',μ6⟩,e6,e7⟩:=Za.mp hn'
      cases e7
      refine⟨W4,δ3,yd,μ5,rfl,ok4,d3'.mono' l4,(by rw[m4];exact e5),λv W5 ok5 l5 m5 d5=>?_⟩
      refine⟨S.items.length-(i+1),by omega,rfl,hlt,by rw[List.length_append];simp;omega,W5,zs++[yd],rs',rfl,ok5,((l2.trans l3).trans l4).trans l5,az.append (cN.mono' d2 ((l3.trans l4).trans l5)) (az.cons d5 az.nil),by rw[m5];exact e6,by rw[List.append_assoc];exact hzs⟩
    .cases hn
   .left
    have hdr:S.items.drop i=[]:=List.drop_of_length_le (by omega)
    rw[hdr]at hn
    unfold lcL at hn
    split at hn
    .rename_i hok
     cases hn
     rw[List.append_nil]at hzs
     subst hzs
     exact⟨io.stop i W2 l2 ok2 hok (by omega),λl hl=>k l ys W2 ok2 (l1.trans l2) rfl hl d2⟩
    .cases hn
  .cases e2
theorem HQ{i:Nat}{x:Str}{px spos:Pos}{ifs:List Expr}{fi:IF}{h:GF}{tt:TF}{fe:EF}{own cap:List Str}{capI ts:List Nat}{scope:Scope}(hN:X.N.Nodup)(hc:X.calm=true)(B:eY X own cap capI scope)(hown:∀x∈own,(x,NameKind.free)∉scope.names)(hi:PID X tb tg iter fi)
  (hg:∀cs C fp s2 H2,PGD (dF X own cap scope cs C fp s2 H2) tb tg ts h) (ht:∀cs C fp s2 H2,Gu (dF X own cap scope cs C fp s2 H2) tb ifs tt) (he:∀cs C fp s2 H2,PD (dF X own cap scope cs C fp s2 H2) tb elt fe)
  (hts:∀i∈ts,i<own.length:=by decide) (hs:∀x,foldedSetIterable iter X.env x=pure x:=by intro _;rfl) (hi₀:X.N[i]? =some x:=by rfl) (hx₀:Loc X.env.scope x:=by first|exact Or.inl rfl|exact Or.inr rfl)
  (hsw:swapsWith (.ListComp elt [⟨tg,iter,ifs,0⟩] scope pos) (some (.Name x px)) spos.line X.env=pure true:=by rfl)
  (hf₀:X.fn x=true∨X.env.scope.names.lookup x=some .local:=by first|exact .inl rfl|exact .inr rfl|assumption):
  PSD X tb (.Assign [.Name x px] (.ListComp elt [⟨tg,iter,ifs,0⟩] scope pos) spos) (bJ i (mFz (lLC own capI fi h tt fe))):=
 lB (QF (g:=tDG X.K tb ts h) (tt:=tDT X.K tb tt) (te:=tD X.K tb fe) hN hi₀ hx₀ hc B hown hi hg ht he hs hsw hf₀) λE σ H zq1=>by
  obtain⟨W,δ,fl,δ',μ',e,ok,hd,hf,k⟩:=zq1
  unfold bJ at hf
  obtain⟨⟨d,μ1⟩,e1,e2⟩:=Za.mp hf
  cases e2
  unfold mFz at e1
  obtain⟨⟨ds,μ2⟩,e3,e4⟩:=Za.mp e1
  cases e4
  refine Jv hts ⟨W,δ,ds,_,e,ok,hd,e3,λp vs W1 ok1 l1 m1 hp r=>?_⟩
  exact jb (Q:=λv H=>E.nx (σ.set i (some v)) H) ok1 (λv W' ok' l' m' d'=>k _ W' ok' (l1.trans l') (m'.trans m1) ((hd.mono' (l1.trans l')).set d')) r hp
end
theorem IV{P:Program}{w:World}{K:PySem.W.Frag}{mg:Str->Option Value}{base:Heap}{tb:List Addr}{x qual:Str}{st:Stmt}{f:Addr}{fd:FuncData}{T:Addr}{N ps:List Str}{n k:Nat}{g:SF}(F:gh K x qual st f fd T)(KB:K.In base)(S:bx N ps (aL st))(hps:ps.length=n)
  (hbody:∀(c:Addr)(A:Around)(outer:List Env)(s:Shared)(H:Hp)(E:XK),PySem.W.CodeHd base c T->cL k (A.deeper (envOfC qual (aL st) s.heap.objs.size f (.ref c)))->
   tM (zE CX0 P w K mg base N qual (aL st) f (.ref c) A outer s H E).nox tb (iY st) g):qp P w K mg base CX0 (k+1) f fd ps (spD K tb n (aJ N.length g)):=by
 obtain⟨oc,od,kV,doc,pm,an,c,ct,osl,rfl,lk,hcd,hhd⟩:=F.ex
 refine Li lk hcd S (λvs H Q E ⟨W,ds,d,μ',e,ok,dl,hl,_⟩=>by rw[<-az.length dl,hl,hps]) λA outer s H vs Q E hr hsp=>?_
 obtain⟨W,ds,d,μ',e,ok,dl,hl,hf,k⟩:=hsp
 refine⟨_,(hbody c A outer s H E (hhd base KB) hr).nox,?_⟩
 unfold aJ at hf
 obtain⟨⟨fl,δ',μ1⟩,e1,e2⟩:=Za.mp hf
 refine⟨W,_,fl,δ',μ1,e,ok,?_,e1,λσ' W' ok' l' m' d'=>?_⟩
 .have hlen:=az.length dl
  refine⟨by unfold L2.start;simp[hlen],λi y q=>?_⟩
  unfold L2.start
  by_cases hi:i<ds.length
  .rw[Zs (by simpa using hi),List.getElem?_map]at q
   cases q2:ds[i]? with
   |none=>rw[q2]at q;cases q
   |some z=>
    rw[q2]at q
    cases q
    obtain⟨v,ev,dv⟩:=az.get dl q2
    exact⟨v,by rw[Zs (by rw[Zu,<-hlen];exact hi),List.getElem?_map,ev];rfl,dv⟩
  .rw[List.getElem?_append_right (by simpa using hi),List.getElem?_replicate]at q
   split at q<;>cases q
 .cases fl with
  |nx=>cases e2;exact k .non W' ok' l' m' vm
  |rt d0=>cases e2;exactλv dv=>k v W' ok' l' m' dv
  |bk=>cases e2
  |ct=>cases e2
def wG(vs:Array Value):Bool:=(match vs.getD 18 .none with| .str _ _=>true|_=>false)&&(match vs.getD 7 .none with| .int _ _=>true|_=>false)&&
 (match vs.getD 9 .none with| .bool _=>true|_=>false)&&(match vs.getD 10 .none with| .int _ _=>true|_=>false)
theorem CT{K:PySem.W.Frag}{c P:Addr}{dd:Option Addr}{vs:Array Value}{sl:Array (Option Value)}(lc:K.lookup c=some ⟨.type "code",dd,.fields vs,sl⟩)(p:vs[11]? =some (.ref P))(q:wG vs=true)(ne:(c != P)=true):PySem.W.codeHdIn K c P=true:=by
 unfold PySem.W.codeHdIn
 rw[lc]
 unfold wG at q
 simp only[Zo]at q ⊢
 obtain⟨⟨⟨q1,q2⟩,q3⟩,q4⟩:=q
 refine⟨⟨⟨⟨⟨?_,q1⟩,q2⟩,q3⟩,q4⟩,ne⟩
 rw[p]
 exact beq_self_eq_true P
theorem Hr{K:PySem.W.Frag}{x qual:Str}{st:Stmt}{f c P:Addr}{oc:Value}{od an:Option Addr}{osl:Array (Option Value)}{kV doc pm ct:Value}{dd:Option Addr}{vs:Array Value}{sl:Array (Option Value)}
  (l:K.lookup f=some ⟨oc,od,.func (PySem.W.fnOf x qual (jY st) (iY st) (aL st) .none kV doc pm an (.ref c) ct),osl⟩) (hc:PySem.W.codeIn K (.ref c) qual=true) (k:PySem.W.keepIn K (.ref f)=true)
  (lc:K.lookup c=some ⟨.type "code",dd,.fields vs,sl⟩) (p:vs[11]? =some (.ref P)) (q:wG vs=true) (ne:(c != P)=true):gh K x qual st f (PySem.W.fnOf x qual (jY st) (iY st) (aL st) .none kV doc pm an (.ref c) ct) P:=
 ⟨⟨oc,od,kV,doc,pm,an,c,ct,osl,rfl,l,hc,λh X=>PySem.W.codeHd_of_K X (CT lc p q ne)⟩,k⟩
theorem Og{K:PySem.W.Frag}{x:Str}{f c P:Addr}{oc oc':Value}{od dd:Option Addr}{fd:FuncData}{osl sl:Array (Option Value)}{vs:Array Value}(a:PySem.W.nsIn K mainGlobals x=some (some (.ref f)))(l:K.lookup f=some ⟨oc,od,.func fd,osl⟩)(hc:fd.code= .ref c)
  (lc:K.lookup c=some ⟨oc',dd,.fields vs,sl⟩) (p:vs[11]? =some (.ref P)):PySem.W.tabIn K x=some (c,P):=by
 unfold PySem.W.tabIn
 rw[a]
 simp only[l,hc,lc,p]
theorem zH{q:Program}{lo:List Str}{mean:ExcName->Option Value}{mg mb:Str->Option Value}{h:Heap}{K:PySem.W.Frag}{x:Str}{c P:Addr}(T:Top q lo mean mg mb h)(X:K.In h)(hr:((recsOf q).find? (λe=>e.name==x)).isSome=true)(ht:PySem.W.tabIn K x=some (c,P)):PySem.W.CodeHd h c P/\h.get? P=some (PySem.W.tabObj #[]):=by
 obtain⟨d,hd⟩:=Option.isSome_iff_exists.mp hr
 exact PySem.W.tab_of T X hd ht
end L3
namespace L2
open PySem PySem.Spec PyProof.Rows HT
section
variable {prog:Program} {w:World} {A:Around} {E:Value->Shared->Prop} {s:Shared}
theorem mX{t sl:Addr}{items:Array Value}{vl vu:Value}{lo hi:Option Int}{Q:Value->Shared->Prop}(ht:IsTup s.heap t items)(hs:s.heap.IsSliceOf sl vl vu .none)(pl:IsPart vl lo)(pu:IsPart vu hi)
  (hw:sIx items.size 0 lo=0/\sIx items.size items.size hi=items.size) (h:Q (.ref t) s):wpAny (model prog w) A (getItem (.ref t) (.ref sl)) Q E s:=by
 obtain⟨os,hos,hcs,hds⟩:=id hs
 have hTs:s.TypeIs (.ref sl) "slice":=⟨os,hos,hcs⟩
 unfold getItem
 try with_reducible refine wpAny_holding ?_
 first|refine wpAny_bind (wpAny_pure ?_)|skip
 refine wpAny_bind (wpAny_sequenceKey ht.typeIs (by decide) ?_)
 refine wpAny_bind (wpAny_callSpecial?_slot (name:=Str.ofString "__getitem__") ht.typeIs PyProof.Rows.slot_tuple_getitem
  (wpAny_call_entry PyProof.Rows.slot_tuple_getitem ht.typeIs entry_tuple_getitem ?_ (args_tuple_getitem _ _)))
 show wpAny _ _ (Builtin.Tuple.tupleItemsOf (.ref t) >>= _) _ _ s
 refine wpAny_bind (tupleItemsOf_ ht ?_)
 refine wpAny_bind (wpAny_typeOf hTs ?_)
 rw[if_pos (by decide)]
 refine wpAny_bind (jK hs pl pu ?_)
 have hyes:(((sIx items.size 0 lo:Nat):Int)==0&&(1:Int)==1&&(sIx items.size items.size hi-sIx items.size 0 lo)==items.size)=true:=by
  rw[hw.1,hw.2]
  simp
 show wpAny _ _ (if(((sIx items.size 0 lo:Nat):Int)==0&&(1:Int)==1&&(sIx items.size items.size hi-sIx items.size 0 lo)==items.size)=true then _ else _) _ _ s
 rw[if_pos hyes]
 refine wpAny_bind (m:=Builtin.Tuple.tupleIsExact (.ref t)) (wpAny_bind (wpAny_typeOf ht.typeIs (wpAny_pure ?_)))
 rw[if_pos (by decide)]
 refine wpAny_bind (wpAny_rule ?_)
 first
  |exact wpAny_pure ⟨_,rfl,wpAny_pure h⟩
  |exact wpAny_bind (wpAny_pure (wpAny_pure ⟨_,rfl,wpAny_pure h⟩))
  |exact wpAny_pure (wpAny_pure h)
end
section
variable {X:Cx}
def rSlW(K:PySem.W.Frag):V->Option Int->Option Int->Hp->VK->Prop:=λx lo hi H Q=>∃a xs,x= .ref a/\SqT K H a xs/\
 (HT.sIx xs.length 0 lo=0/\HT.sIx xs.length xs.length hi=xs.length)/\Q (.ref a) H
theorem IW:SlR X (rSlW X.K):=by
 intro pins s σ H x v vl vu lo hi sl Q I rx hs pl pu h
 obtain⟨a,xs,rfl,hx,hw,q⟩:=h
 cases rx
 obtain⟨its,r,ht,hz⟩:=I.tuple hx
 have hlen:its.toArray.size=xs.length:=by rw[Zd];exact r.length.symm
 refine⟨"tuple",_,PyProof.Rows.slot_tuple_getitem.lookup,ht.typeIs,?_⟩
 exact mX ht hs pl pu (by rw[hlen];exact hw) ⟨.ref a,H,I,rfl,q⟩
end
end L2
namespace L3
open PySem PySem.Spec PyProof.Rows L2
abbrev PF:=En->Mu->Option (Option Int×Mu)
def tDO(K:PySem.W.Frag)(tb:List Addr)(f:PF):TO:=λσ H Q=>∃W δ i μ',W.H=H/\WOk K tb W/\gA K tb W δ σ/\f δ W.mu=some (i,μ')/\∀W',WOk K tb W'->Le tb W W'->W'.mu=μ'->Q i W'.H
def POD(X:Cx)(tb:List Addr)(e:Option Expr)(f:PF):Prop:=PO X e (tDO X.K tb f)
theorem Lf{X:Cx}{e:Option Expr}{t t':TO}(h:PO X e t)(k:∀σ H Q,t' σ H Q->t σ H Q):PO X e t':=λpins s σ H Q I hq=>h pins s σ H Q I (k σ H Q hq)
def fNo:PF:=λ_ μ=>some (none,μ)
def fAt(f:EF):PF:=λδ μ=>(f δ μ).bind λr=>match r.1 with
 | .int i=>some (some i,r.2)
 |_=>none
def cutD(ds:List D)(lo hi:Option Int):List D:=(ds.drop (HT.sIx ds.length 0 lo)).take (HT.sIx ds.length ds.length hi-HT.sIx ds.length 0 lo)
def oSl(x:D)(lo hi:Option Int)(μ:Mu):Option (D×Mu):=match x with
 | .tup ds=>some (.tup (cutD ds lo hi),μ)
 | .lst ds=>some (.lst (cutD ds lo hi),μ)
 | .ro ds=>some (.lst (cutD ds lo hi),μ)
 | .cell n=>match μ[n]? with
  |some (some ds)=>some (.lst (cutD ds lo hi),μ)
  |_=>none
 |_=>none
def mSl(f:EF)(fl fh:PF):EF:=λδ μ=>(f δ μ).bind λr=>(fl δ r.2).bind λl=>(fh δ l.2).bind λu=>oSl r.1 l.1 u.1 u.2
section
variable {X:Cx} {tb:List Addr} {e:Expr} {lo hi:Option Expr} {f:EF} {fl fh:PF} {pos p2:Pos}
theorem eU:POD X tb none fNo:=Lf Km λσ H Q zq1=>by
 obtain⟨W,δ,i,μ',e,ok,hd,hf,h⟩:=zq1
 subst e;cases hf
 exact h W ok (Le.refl _) rfl
theorem eO(h:PD X tb e f):POD X tb (some e) (fAt f):=Lf (Kg h) λσ H Q zq2=>by
 obtain⟨W,δ,i,μ',e,ok,hd,hf,h⟩:=zq2
 unfold fAt at hf
 obtain⟨⟨x,μ1⟩,e1,e2⟩:=Za.mp hf
 cases x with
 |int j=>
  cases e2
  exact⟨W,δ,_,_,e,ok,hd,e1,λv W1 ok1 l1 m1 d1=>⟨j,bB d1,h W1 ok1 l1 m1⟩⟩
 |_=>cases e2
theorem qC{K:PySem.W.Frag}{W:Wd}{ds:List D}{vs:List V}{l h:Option Int}(r:cN K tb W ds vs):cN K tb W (cutD ds l h) (yp vs l h):=by
 unfold cutD yp
 rw[<-az.length r]
 exact az.take _ (az.drop _ r)
theorem eQ(he:PD X tb e f)(hl:POD X tb lo fl)(hh:POD X tb hi fh):PD X tb (.Subscript e (.Slice lo hi none p2) pos) (mSl f fl fh):=
 eZ (Fw (My.or (IW.or JF)) he hl hh) λσ H Q zq3=>by
  obtain⟨W,δ,d,μ',e,ok,hd,hf,h⟩:=zq3
  unfold mSl at hf
  obtain⟨⟨x,μ1⟩,e1,hf⟩:=Za.mp hf
  obtain⟨⟨l,μ2⟩,e2,hf⟩:=Za.mp hf
  obtain⟨⟨u,μ3⟩,e3,hf⟩:=Za.mp hf
  refine⟨W,δ,x,μ1,e,ok,hd,e1,λv W1 ok1 l1 m1 d1=>⟨W1,δ,l,μ2,rfl,ok1,hd.mono' l1,(by rw[m1];exact e2),λW2 ok2 l2 m2=>⟨W2,δ,u,μ3,rfl,ok2,hd.mono' (l1.trans l2),(by rw[m2];exact e3),λW3 ok3 l3 m3=>?_⟩⟩⟩
  have d3:=Den.mono' d1 (l2.trans l3)
  have k:∀v W',WOk X.K tb W'->Le tb W3 W'->W'.mu=W3.mu->Den X.K tb W' d v->W3.mu=μ'->Q v W'.H:=λv W' ok' l' m' d' q=>h v W' ok' (((l1.trans l2).trans l3).trans l') (m'.trans q) d'
  cases x with
  |tup ds=>
   obtain⟨a,xs,rfl,q,r⟩:=iR d3
   cases hf
   by_cases hw:HT.sIx ds.length 0 l=0/\HT.sIx ds.length ds.length u=ds.length
   .have e:cutD ds l u=ds:=by unfold cutD;rw[hw.1,hw.2];simp
    exact .inr (.inl ⟨a,xs,rfl,SqT.fz q,by rw[<-az.length r];exact hw,k (.ref a) W3 ok3 (Le.refl _) rfl (by rw[e];exact d3) m3⟩)
   .exact .inl ⟨a,xs,rfl,SqT.fz q,by rw[<-az.length r];exact hw,λp hp=>kI ok3 (λv W' ok' l' m' d'=>k v W' ok' l' m' d' m3) (qC r) hp⟩
  |lst ds=>
   obtain⟨a,xs,rfl,q,r⟩:=kE d3
   cases hf
   exact .inr (.inr ⟨a,xs,rfl,SqL.fz q,λp hp=>jb ok3 (λv W' ok' l' m' d'=>k v W' ok' l' m' d' m3) (qC r) hp⟩)
  |ro ds=>
   obtain⟨a,xs,rfl,q,r⟩:=wQ d3
   cases hf
   exact .inr (.inr ⟨a,xs,rfl,SqL.fz q,λp hp=>jb ok3 (λv W' ok' l' m' d'=>k v W' ok' l' m' d' m3) (qC r) hp⟩)
  |cell n=>
   obtain⟨a,rfl,q⟩:=gj d3
   have hf:(match μ3[n]? with|some (some ds)=>some (D.lst (cutD ds l u),μ3)|_=>none)=some (d,μ'):=hf
   cases e4:μ3[n]? with
   |none=>rw[e4]at hf;cases hf
   |some o=>
    rw[e4]at hf
    cases o with
    |none=>cases hf
    |some ds=>
     cases hf
     obtain⟨xs,ex,r⟩:=ok3.cont n a ds q (by rw[m3];exact e4)
     exact .inr (.inr ⟨a,xs,rfl,SqL.of ex,λp hp=>jb ok3 (λv W' ok' l' m' d'=>k v W' ok' l' m' d' m3) (qC r) hp⟩)
  |_=>cases hf
end
section
variable {X:Cx} {tb:List Addr} {e:Expr} {es:List Expr} {f:EF} {fs fk:AF} {x:Str} {n k:Nat} {φ:FF} {p pos kpos:Pos} {kws:List Keyword} {ks:List Str} {π:List Nat} {nm:Option Str}
def MK(fs fk:AF)(π:List Nat)(φ:FF):EF:=λδ μ=>(fs δ μ).bind λr=>(fk δ r.2).bind λq=>φ (r.1++π.map λi=>q.1.getD i .non) q.2
end
theorem Cd{X:Cx}:iI X (.type "range") (λxs H Q=>∃i j,xs=[.int i,.int j]/\∀p,H p=none->Q (.ref p) (upd H p (.rng i j))):=by
 intro pins s σ H xs us Q I r h
 obtain⟨i,j,rfl,q⟩:=h
 obtain⟨u,w',rfl,⟨t,rfl⟩,⟨t',rfl⟩⟩:=vals2 r
 exact call_range_2 ⟨.ref s.heap.objs.size,_,I.laid (a:=s.heap.objs.size) (o:=.rng i j) (λb o e=>Zb _ e) (Zg _) ⟨_,_,_,Zf _ rfl⟩,rfl,q _ (I.hok.fresh (Zg _))⟩
def Jz(lo:Int)(n:Nat):List V:=(List.range n).map λ(k:Nat)=>V.int (lo+(k:Int))
theorem uK{lo:Int}:∀{acc:List Value}{n k:Nat},acc.length=n->(∀j v,acc[j]? =some v->∃t,v=Value.int (lo+((k+j:Nat):Int)) t)->Vals ((List.range' k n).map λ(i:Nat)=>V.int (lo+(i:Int))) acc
 | [],n,k,e,_=>by cases e;exact .nil
 |v::r,n,k,e,h=>by
  cases e
  rw[List.length_cons,List.range'_succ,Zj]
  refine .cons ?_ (uK rfl λj u hu=>?_)
  .obtain⟨t,q⟩:=h 0 v rfl
   exact⟨t,by simpa using q⟩
  .obtain⟨t,q⟩:=h (j+1) u hu
   exact⟨t,by rw[q];congr 2;omega⟩
theorem Ah{K:PySem.W.Frag}{F:Hp}{ad:List Addr}{lo:Int}:∀(l:List Nat),az K F ad (l.map λ(k:Nat)=>D.int (lo+(k:Int))) (l.map λ(k:Nat)=>V.int (lo+(k:Int)))
 | []=>az.nil
 |k::l=>az.cons (by unfold bf;rfl) (Ah l)
def xM(f:EF):EF:=λδ μ=>(f δ μ).bind λr=>match r.1 with
 | .cell n=>(r.2.getD n none).map λds=>(.lst ds,r.2.set n none)
 |d=>some (d,r.2)
theorem ww{X:Cx}{tb:List Addr}{e:Expr}{f:EF}(h:PD X tb e f):PD X tb e (xM f):=
 eZ h λσ H Q zq1=>by
  obtain⟨W,δ,d,μ',e,ok,hd,hf,k⟩:=zq1
  unfold xM at hf
  obtain⟨⟨x,μ1⟩,e1,e2⟩:=Za.mp hf
  refine⟨W,δ,x,μ1,e,ok,hd,e1,λv W1 ok1 l1 m1 d1=>?_⟩
  cases x with
  |cell n=>
   obtain⟨ds,e3,e4⟩:=Zp.mp e2
   cases e4
   obtain⟨a,rfl,ea⟩:=gj d1
   have em:W1.mu[n]? =some (some ds):=by
    rw[m1]
    rw[List.getD_eq_getElem?_getD]at e3
    cases q:μ1[n]? with
    |none=>rw[q]at e3;cases e3
    |some z=>rw[q]at e3;exact congrArg some e3
   obtain⟨ok2,l2,d2⟩:=ok1.freeze ea em
   exact k _ ⟨W1.H,W1.ad,W1.mu.set n none⟩ ok2 (l1.trans l2) (by show W1.mu.set n none=_;rw[m1]) d2
  |_=>cases e2;exact k v W1 ok1 l1 m1 d1
mutual
def cLt(m:Nat):D->Bool
 | .tup ds=>lN m ds
 | .lst ds=>lN m ds
 | .ro ds=>lN m ds
 | .dic kvs=>xX m kvs
 | .cell n=>decide (n<m)
 |_=>true
def lN(m:Nat):List D->Bool
 | []=>true
 |d::ds=>cLt m d&&lN m ds
def xX(m:Nat):List (Key×D)->Bool
 | []=>true
 |p::ds=>cLt m p.2&&xX m ds
end
section
variable {K:PySem.W.Frag} {F F':Hp} {ad:List Addr} {m:Nat}
mutual
theorem bf.cut(s:lC F F'):∀(d:D)(v:V),cLt m d=true->bf K F ad d v->bf K F' (ad.take m) d v
 | .non,v,_,h=>by unfold bf at h ⊢;exact h
 | .bl _,v,_,h=>by unfold bf at h ⊢;exact h
 | .int _,v,_,h=>by unfold bf at h ⊢;exact h
 | .str _,v,_,h=>by unfold bf at h ⊢;exact h
 | .tup ds,v,c,h=>by
  unfold bf at h ⊢;unfold cLt at c
  obtain⟨a,xs,e,q,r⟩:=h
  exact⟨a,xs,e,SqT.mono s q,az.cut s ds xs c r⟩
 | .lst ds,v,c,h=>by
  unfold bf at h ⊢;unfold cLt at c
  obtain⟨a,xs,e,q,r⟩:=h
  exact⟨a,xs,e,s _ _ q,az.cut s ds xs c r⟩
 | .ro ds,v,c,h=>by
  unfold bf at h ⊢;unfold cLt at c
  obtain⟨a,xs,e,q,r⟩:=h
  exact⟨a,xs,e,SqL.mono s q,az.cut s ds xs c r⟩
 | .dic kvs,v,c,h=>by
  unfold bf at h ⊢;unfold cLt at c
  obtain⟨a,ps,e,q,r⟩:=h
  exact⟨a,ps,e,s _ _ q,iC.cut s kvs ps c r⟩
 | .cell n,v,c,h=>by
  unfold bf at h ⊢;unfold cLt at c
  obtain⟨a,e,q⟩:=h
  exact⟨a,e,by rw[List.getElem?_take_of_lt (by simpa using c)];exact q⟩
theorem az.cut(s:lC F F'):∀(ds:List D)(vs:List V),lN m ds=true->az K F ad ds vs->az K F' (ad.take m) ds vs
 | [],vs,_,h=>by unfold az at h ⊢;exact h
 |d::ds,vs,c,h=>by
  unfold az at h ⊢;unfold lN at c
  have c:=(Zo _ _).mp c
  obtain⟨u,us,e,p,r⟩:=h
  exact⟨u,us,e,bf.cut s d u c.1 p,az.cut s ds us c.2 r⟩
theorem iC.cut(s:lC F F'):∀(ds:List (Key×D))(vs:List (Key×V)),xX m ds=true->iC K F ad ds vs->iC K F' (ad.take m) ds vs
 | [],vs,_,h=>by unfold iC at h ⊢;exact h
 |p::ds,vs,c,h=>by
  unfold iC at h ⊢;unfold xX at c
  have c:=(Zo _ _).mp c
  obtain⟨u,us,e,⟨p1,p2⟩,r⟩:=h
  exact⟨u,us,e,⟨p1,bf.cut s p.2 u.2 c.1 p2⟩,iC.cut s ds us c.2 r⟩
end
end
def cOk(m:Nat)(μ:Mu):Bool:=μ.all λo=>match o with
 |some ds=>lN m ds
 |none=>true
theorem WOk.cut{K:PySem.W.Frag}{tb:List Addr}{W:Wd}{m:Nat}(ok:WOk K tb W)(c:cOk m (W.mu.take m)=true):
  WOk K tb ⟨W.H,W.ad.take m,W.mu.take m⟩/\lC (W.fz tb) (Wd.fz tb ⟨W.H,W.ad.take m,W.mu.take m⟩):=by
 have lv:∀b,mY (W.ad.take m) (W.mu.take m) b->mY W.ad W.mu b:=λb zq2=>by
  obtain⟨i,es,e1,e2⟩:=zq2
  have h1:i<m:=by have:=(Zh.mp e1).1;simp at this;omega
  rw[List.getElem?_take_of_lt h1]at e1 e2
  exact⟨i,es,e1,e2⟩
 have sm:lC (W.fz tb) (Wd.fz tb ⟨W.H,W.ad.take m,W.mu.take m⟩):=λb u e=>by
  obtain⟨e1,e2,e3⟩:=dJ e
  have q:=nZ (tb:=tb) (W:=⟨W.H,W.ad.take m,W.mu.take m⟩) (b:=b) (λz=>e2 (lv b z)) e3
  rw[q];exact e1
 refine⟨⟨by simp[ok.len],λi a ds e1 e2=>?_,λi j a ds es e1 e2 e3 e4=>?_,ok.tab⟩,sm⟩
 .have h1:i<m:=by have:=(Zh.mp e1).1;simp at this;omega
  have cd:lN m ds=true:=by
   have:=List.all_eq_true.mp c (some ds) (List.mem_of_getElem? e2)
   exact this
  have e1':(W.ad.take m)[i]? =some a:=e1
  have e2':(W.mu.take m)[i]? =some (some ds):=e2
  rw[List.getElem?_take_of_lt h1]at e1' e2'
  obtain⟨xs,e,r⟩:=ok.cont i a ds e1' e2'
  exact⟨xs,e,az.cut sm ds xs cd r⟩
 .have h1:i<m:=by have:=(Zh.mp e1).1;simp at this;omega
  have h2:j<m:=by have:=(Zh.mp e2).1;simp at this;omega
  have e1':(W.ad.take m)[i]? =some a:=e1
  have e2':(W.ad.take m)[j]? =some a:=e2
  have e3':(W.mu.take m)[i]? =some (some ds):=e3
  have e4':(W.mu.take m)[j]? =some (some es):=e4
  rw[List.getElem?_take_of_lt h1]at e1' e3'
  rw[List.getElem?_take_of_lt h2]at e2' e4'
  exact ok.inj i j a ds es e1' e2' e3' e4'
def trunc(φ:FF):FF:=λds μ=>(φ ds μ).bind λr=>if(cLt μ.length r.1&&cOk μ.length (r.2.take μ.length))=true then some (r.1,r.2.take μ.length)else some r
theorem FI.trunc{P:Program}{w:World}{K:PySem.W.Frag}{mg:Str->Option Value}{base:Heap}{tb:List Addr}{x:Str}{n k:Nat}{φ:FF}(F:FI P w K mg base tb x n k φ):FI P w K mg base tb x n k (trunc φ):=by
 obtain⟨f,fd,ps,h1,h2⟩:=F.is
 refine⟨f,fd,ps,h1.imp λvs H Q E ⟨W,ds,d,μ',e,ok,dl,hl,hf,k⟩=>?_,h2⟩
 unfold L3.trunc at hf
 obtain⟨⟨d1,μ1⟩,e1,e2⟩:=Za.mp hf
 split at e2
 .rename_i hc
  have hc:=(Zo _ _).mp hc
  cases e2
  refine⟨W,ds,d1,μ1,e,ok,dl,hl,e1,λv W' ok' l' m' d'=>?_⟩
  obtain⟨ok2,sm⟩:=ok'.cut (m:=W.mu.length) (by rw[m'];exact hc.2)
  exact k v ⟨W'.H,W'.ad.take W.mu.length,W'.mu.take W.mu.length⟩ ok2 ⟨l'.same.trans sm,λi x q=>by
   have hi:i<W.mu.length:=by rw[<-ok.len];exact(Zh.mp q).1
   show(W'.ad.take W.mu.length)[i]? =some x
   rw[List.getElem?_take_of_lt hi];exact l'.ad i x q⟩ (by show W'.mu.take _=_;rw[m']) (bf.cut sm d1 v hc.1 d')
 .cases e2
  exact⟨W,ds,d,μ',e,ok,dl,hl,e1,k⟩
theorem mD{φ:FF}{ds:List D}{μ μ':Mu}{d:D}(h:φ ds μ=some (d,μ'))(hl:μ'.length=μ.length):trunc φ ds μ=some (d,μ'):=by
 unfold trunc
 rw[h]
 simp only[Option.bind_some]
 rw[<-hl,List.take_length]
 split<;>rfl
theorem kW{φ:FF}{ds:List D}{μ:Mu}{d:D}(h:φ ds μ=some (d,μ)):trunc φ ds μ=some (d,μ):=mD h rfl
end L3
namespace HT
open PySem PySem.Spec PyProof.Rows
section
variable {prog:Program} {w:World} {A:Around} {E:Value->Shared->Prop} {s:Shared}
theorem zO(n:Nat):Builtin.Slice.sliceAdjust none none (-1) (n:Int)=((n:Int)-1,-1):=rfl
theorem zy(n:Nat):Builtin.Slice.slicePlaces ((n:Int)-1) (-1) (-1)=n:=by
 unfold Builtin.Slice.slicePlaces
 rw[if_neg (by decide)]
 split
 .simp
 .simp;omega
theorem rH{α β:Type}{f g:α->Option β}:∀{l:List α},(∀x∈l,f x=g x)->l.filterMap f=l.filterMap g
 | [],_=>rfl
 |x::l,h=>by
  rw[List.filterMap_cons,List.filterMap_cons,h x (by simp),rH λy hy=>h y (by simp[hy])]
theorem tW(xs:Array Value):((List.range xs.size).filterMap λ(m:Nat)=>xs[(((xs.size:Int)-1)+(m:Int)*(-1)).toNat]?).toArray=xs.toList.reverse.toArray:=by
 congr 1
 have e:((List.range xs.size).filterMap λ(m:Nat)=>xs[(((xs.size:Int)-1)+(m:Int)*(-1)).toNat]?)=(List.range xs.size).filterMap λ(m:Nat)=>xs.toList.reverse.toArray[((0:Nat):Int).toNat+m]? :=by
  refine rH λm hm=>?_
  have hm:=List.mem_range.mp hm
  have e:(((xs.size:Int)-1)+(m:Int)*(-1)).toNat=xs.size-1-m:=by omega
  rw[e]
  simp[List.getElem?_reverse (l:=xs.toList) (show m<xs.toList.length by simpa using hm)]
 rw[e]
 have:=pick_run xs.toList.reverse.toArray 0 xs.size
 rw[List.filterMap_map]at this
 have e2:(((λx=>xs.toList.reverse.toArray[x]?)∘λx=>0+x))=λ(m:Nat)=>xs.toList.reverse.toArray[((0:Nat):Int).toNat+m]? :=rfl
 rw[e2]at this
 rw[this]
 simp[List.take_of_length_le]
theorem pA{sl:Addr}{t:Tok}{n:Nat}{Q:Int×Int×Nat->Shared->Prop}(hs:s.heap.IsSliceOf sl .none .none (.int (-1) t))
  (h:Q ((n:Int)-1,-1,n) s):wpAny (model prog w) A (Builtin.Slice.sliceApplied (.ref sl) (pure (n:Int))) Q E s:=by
 obtain⟨os,hos,hcs,hds⟩:=id hs
 unfold Builtin.Slice.sliceApplied Builtin.Slice.sliceFields
 refine wpAny_bind (wpAny_bind (wpAny_field hos hds (x:=.none) rfl (wpAny_bind (wpAny_field hos hds (x:=.none) rfl (wpAny_bind (wpAny_field hos hds (x:=.int (-1) t) rfl (wpAny_pure ?_)))))))
 refine wpAny_bind (slicePart_int ?_)
 show wpAny _ _ (if((-1:Int)==0)=true then _ else _) _ _ s
 rw[if_neg (by decide)]
 refine wpAny_bind (slicePart_none (wpAny_bind (slicePart_none (wpAny_bind (wpAny_pure ?_)))))
 show wpAny _ _ (match Builtin.Slice.sliceAdjust none none (-1) (n:Int)with|(lo,hi)=>pure (lo,(-1:Int),Builtin.Slice.slicePlaces lo hi (-1))) _ _ s
 rw[zO n]
 show wpAny _ _ (pure ((n:Int)-1,(-1:Int),Builtin.Slice.slicePlaces ((n:Int)-1) (-1) (-1))) _ _ s
 rw[zy]
 exact wpAny_pure h
theorem getItem_tuple_back{t sl:Addr}{items:Array Value}{tk:Tok}{Q:Value->Shared->Prop}(ht:IsTup s.heap t items)(hs:s.heap.IsSliceOf sl .none .none (.int (-1) tk))
  (h:Q (.ref s.heap.objs.size) { s with heap:=s.heap.push { cls:=.type "tuple",data:=.seq items.toList.reverse.toArray} })
  (hsz:items.size<=sizeLine):wpAny (model prog w) A (getItem (.ref t) (.ref sl)) Q E s:=by
 have htake:sizeOk (.seq items.toList.reverse.toArray):=by
  show items.toList.reverse.toArray.size<=sizeLine
  simpa using hsz
 obtain⟨os,hos,hcs,hds⟩:=id hs
 have hTs:s.TypeIs (.ref sl) "slice":=⟨os,hos,hcs⟩
 unfold getItem
 try with_reducible refine wpAny_holding ?_
 first|refine wpAny_bind (wpAny_pure ?_)|skip
 refine wpAny_bind (wpAny_sequenceKey ht.typeIs (by decide) ?_)
 refine wpAny_bind (wpAny_callSpecial?_slot (name:=Str.ofString "__getitem__") ht.typeIs PyProof.Rows.slot_tuple_getitem
  (wpAny_call_entry PyProof.Rows.slot_tuple_getitem ht.typeIs entry_tuple_getitem ?_ (args_tuple_getitem _ _)))
 show wpAny _ _ (Builtin.Tuple.tupleItemsOf (.ref t) >>= _) _ _ s
 refine wpAny_bind (tupleItemsOf_ ht ?_)
 refine wpAny_bind (wpAny_typeOf hTs ?_)
 rw[if_pos (by decide)]
 refine wpAny_bind (pA hs ?_)
 have hno:¬((((items.size:Int)-1)==0&&(-1:Int)==1&&items.size==items.size)=true):=by
  intro q
  rw[Zo,Zo]at q
  exact absurd q.1.2 (by decide)
 show wpAny _ _ (if((((items.size:Int)-1)==0&&(-1:Int)==1&&items.size==items.size)=true)then _ else _) _ _ s
 rw[if_neg hno,tW]
 first
  |exact wpAny_bind (m:=Builtin.Tuple.tupleExact _) (wpAny_newObj_type (wpAny_pure ⟨_,rfl,wpAny_pure h⟩) htake)
  |exact wpAny_bind (m:=Builtin.Tuple.tupleExact _) (wpAny_newObj_type (wpAny_bind (wpAny_pure (wpAny_pure ⟨_,rfl,wpAny_pure h⟩))) htake)
  |exact wpAny_bind (wpAny_bind (m:=Builtin.Tuple.tupleExact _) (wpAny_newObj_type (wpAny_pure (wpAny_pure ⟨_,rfl,wpAny_pure h⟩)) htake))
  |exact wpAny_bind (wpAny_bind (m:=Builtin.Tuple.tupleExact _) (wpAny_newObj_type (wpAny_pure ⟨_,rfl,wpAny_pure h⟩) htake))
theorem slicePick_back(its:List Value):slicePick its.toArray none none (some (-1))=its.reverse.toArray:=by
 unfold slicePick
 have e1:(sliceBounds none none (some (-1)) its.toArray.size)=((its.toArray.size:Int)-1,-1,-1):=rfl
 rw[e1]
 have:=tW its.toArray
 simp only at this
 rw[<-this]
 congr 1
 unfold sliceRange
 have e2:(if((-1:Int))>0 then(if((its.toArray.size:Int)-1)< -1 then(-1-((its.toArray.size:Int)-1)+ -1-1) / -1 else 0)else(if((its.toArray.size:Int)-1)> -1 then((its.toArray.size:Int)-1 - -1 - -1-1) / -(-1)else 0)).toNat=its.toArray.size:=by
  rw[if_neg (by decide)]
  split
  .simp
  .simp;simp at *;omega
 simp only[e2,List.filterMap_map]
 refine rH λm hm=>?_
 show its.toArray[(((its.toArray.size:Int)-1)+ -1*(m:Int)).toNat]? =its.toArray[(((its.toArray.size:Int)-1)+(m:Int) * -1).toNat]?
 rw[Int.mul_comm]
end
end HT
namespace L2
open PySem PySem.Spec PyProof.Rows
def Qx(K:PySem.W.Frag):V->Hp->VK->Prop:=λx H Q=>∃a xs,x= .ref a/\((SqT K H a xs/\∀p,H p=none->Q (.ref p) (upd H p (.tup xs.reverse)))∨(SqL K H a xs/\∀p,H p=none->Q (.ref p) (upd H p (.lst xs.reverse))))
def Rk(K:PySem.W.Frag)(te:TE):TE:=λσ H Q=>te σ H λx H1=>Qx K x H1 Q
theorem JX{X:Cx}{e:Expr}{te:TE}{pos p2 p3 p4:Pos}{j}(he:PE X e te)(hstep:PE X (.UnaryOp .USub (.Constant (.int 1) j p3) p4) (λ_ H Q=>Q (.int (-1)) H)):PE X (.Subscript e (.Slice none none (some (.UnaryOp .USub (.Constant (.int 1) j p3) p4)) p2) pos) (Rk X.K te):=by
 intro pins s σ H Q I h
 refine Subscript_ (thn (he pins s σ H _ I h) λv s1 zq1=>?_)
 obtain⟨x,H1,I1,r1,q1⟩:=zq1
 refine wpAny_Slice ?_
 rw[evalPart_none]
 refine wpAny_pure (wpAny_pure ?_)
 rw[evalPart_some]
 refine thn (hstep pins s1 σ H1 (λx H2=>x= .int (-1)/\H2=H1) I1 ⟨rfl,rfl⟩) λu s3 zq2=>?_
 obtain⟨y,H3,I3,ry,ey,eH⟩:=zq2
 subst ey eH
 obtain⟨tk,rfl⟩:=ry
 have I4:Inv X pins σ H3 { s3 with heap:=s3.heap.push { cls:=.type "slice",data:=.fields #[.none,.none,.int (-1) tk] } }:=I3.kept (t':=s3.toks) λb ob q=>Zb _ q
 have hs:(s3.heap.push { cls:=.type "slice",data:=.fields #[.none,.none,.int (-1) tk] }).IsSliceOf s3.heap.objs.size .none .none (.int (-1) tk):=Heap.IsSliceOf.new ..
 obtain⟨a,xs,rfl,q⟩:=q1
 cases r1
 rcases q with⟨hx,q⟩|⟨hx,q⟩
 .obtain⟨its,r,ht,hz⟩:=I4.tuple hx
  have hg:wpAny (model X.prog X.w) X.A (getItem (.ref a) (.ref s3.heap.objs.size)) (EP X pins σ Q) X.xe { s3 with heap:=s3.heap.push { cls:=.type "slice",data:=.fields #[.none,.none,.int (-1) tk] } }:=by
   refine HT.getItem_tuple_back ht hs ?_ (by rw[Zd,<-r.length];exact hz)
   exact⟨.ref _,_,I4.laid (t':=s3.toks) (o:=.tup xs.reverse) (λb ob q=>Zb _ q) (Zg _) ⟨by simpa using hz,_,r.reverse,IsTup.new _ _⟩,rfl,q _ (I4.hok.fresh (Zg _))⟩
  exact tail_any (ops:=[.ref a,.ref s3.heap.objs.size]) ht.typeIs PyProof.Rows.slot_tuple_getitem.lookup hg (by with_unfolding_all rfl)
 .obtain⟨its,r,ht,hz⟩:=I4.list hx
  have hg:wpAny (model X.prog X.w) X.A (getItem (.ref a) (.ref s3.heap.objs.size)) (EP X pins σ Q) X.xe { s3 with heap:=s3.heap.push { cls:=.type "slice",data:=.fields #[.none,.none,.int (-1) tk] } }:=by
   refine wpAny_getItem_list_slice ht.isList hs .none .none (.int (-1) tk) (by decide) ?_ (by rw[Zd,<-r.length];exact hz)
   rw[HT.slicePick_back]
   exact⟨.ref _,_,I4.laid (t':=s3.toks) (o:=.lst xs.reverse) (λb ob q=>Zb _ q) (Zg _) ⟨by simpa using hz,_,0,r.reverse,Zf _ rfl⟩,rfl,q _ (I4.hok.fresh (Zg _))⟩
  exact tail_any (ops:=[.ref a,.ref s3.heap.objs.size]) ht.isList.typeIs slot_list_getitem.lookup hg (by with_unfolding_all rfl)
end L2
namespace L3
open PySem PySem.Spec PyProof.Rows L2
def JG(x:D)(μ:Mu):Option (D×Mu):=(bM x μ).map λds=>(if rM x then .tup ds.reverse else .lst ds.reverse,μ)
def Ea(f:EF):EF:=M1 f JG
theorem Lp{X:Cx}{tb:List Addr}{e:Expr}{f:EF}{pos p2 p3 p4:Pos}{j}(he:PD X tb e f):PD X tb (.Subscript e (.Slice none none (some (.UnaryOp .USub (.Constant (.int 1) j p3) p4)) p2) pos) (Ea f):=
 eZ (JX he (eZ (KJ Gy zp) λσ H Q h=>⟨1,rfl,h⟩)) λσ H Q zq3=>by
  obtain⟨W,δ,d,μ',e,ok,hd,hf,h⟩:=zq3
  unfold Ea M1 at hf
  obtain⟨⟨x,μ1⟩,e1,e2⟩:=Za.mp hf
  obtain⟨ds,e3,e4⟩:=Zp.mp e2
  refine⟨W,δ,x,μ1,e,ok,hd,e1,λv W1 ok1 l1 m1 d1=>?_⟩
  have e3:bM x W1.mu=some ds:=by rw[m1];exact e3
  obtain⟨a,xs,rfl,q,r⟩:=gY ok1 d1 e3
  refine⟨a,xs,rfl,?_⟩
  cases hx:rM x with
  |true=>
   rw[hx]at q e4
   cases e4
   exact .inl ⟨q,λp hp=>kI ok1 (λv W' ok' l' m' d'=>h v W' ok' (l1.trans l') (m'.trans m1) d') (az.reverse r) hp⟩
  |false=>
   rw[hx]at q e4
   cases e4
   exact .inr ⟨q,λp hp=>jb ok1 (λv W' ok' l' m' d'=>h v W' ok' (l1.trans l') (m'.trans m1) d') (az.reverse r) hp⟩
theorem yr{K:PySem.W.Frag}{F:Hp}{ad:List Addr}:∀{ds:List D}{vs:List V}{d:D}{v:V}(j:Nat),az K F ad ds vs->bf K F ad d v->az K F ad (ds.set j d) (vs.set j v)
 | [],vs,d,v,j,r,h=>by
  unfold az at r
  subst r
  exact az.nil
 |x::ds,vs,d,v,j,r,h=>by
  unfold az at r
  obtain⟨u,us,rfl,p,r⟩:=r
  cases j with
  |zero=>exact az.cons h r
  |succ j=>exact az.cons p (yr j r h)
def Gm(x o i:D)(μ:Mu):Option Mu:=match o,i with
 | .cell n,.int k=>match μ[n]? with
  |some (some ds)=>(ixN ds.length k).map λj=>μ.set n (some (ds.set j x))
  |_=>none
 |_,_=>none
def Hf(f fo fi:EF):SF:=λδ μ=>(f δ μ).bind λr=>(fo δ r.2).bind λo=>(fi δ o.2).bind λi=>(Gm r.1 o.1 i.1 i.2).map λμ'=>(.nx,δ,μ')
theorem Jx{X:Cx}{tb:List Addr}{o i e:Expr}{f fo fi:EF}{pos pos':Pos}(he:PD X tb e f)(ho:PD X tb o fo)(hi:PD X tb i fi)
  (ha:∀v,assign (.Subscript o i pos') X.env v=(do
   let ov<-holding [v] (eval o X.env)
   let iv<-holding [v,ov] (eval i X.env)
   standAt pos'
   holding [v,ov,iv] (setItem ov iv v)
   release [v,ov,iv] []):=by intro _;rfl)
  (hs:swapsWithSole [.Subscript o i pos'] e pos.line X.env=pure false:=by rfl) (hw:swappedStores [.Subscript o i pos'] e X.env=pure none:=by rfl)
  (h1:(assignEach [.Subscript o i pos'] X.env).map (·.2)=[assign (.Subscript o i pos') X.env]:=by rfl):PSD X tb (.Assign [.Subscript o i pos'] e pos) (Hf f fo fi):=
 lB (Hg he (NZ ho hi set_list ha) hs hw h1) λE σ H zq1=>by
  obtain⟨W,δ,fl,δ',μ',e,ok,hd,hf,h⟩:=zq1
  unfold Hf at hf
  obtain⟨⟨x,μ1⟩,e1,hf⟩:=Za.mp hf
  obtain⟨⟨c,μ2⟩,e2,hf⟩:=Za.mp hf
  obtain⟨⟨k,μ3⟩,e3,hf⟩:=Za.mp hf
  obtain⟨μ4,e4,e5⟩:=Zp.mp hf
  cases e5
  refine⟨W,δ,x,μ1,e,ok,hd,e1,λv W1 ok1 l1 m1 d1=>⟨W1,δ,c,μ2,rfl,ok1,hd.mono' l1,(by rw[m1];exact e2),λu W2 ok2 l2 m2 d2=>⟨W2,δ,k,μ3,rfl,ok2,hd.mono' (l1.trans l2),(by rw[m2];exact e3),λy W3 ok3 l3 m3 d3=>?_⟩⟩⟩
  have d2:=Den.mono' d2 l3
  have d1:=Den.mono' d1 (l2.trans l3)
  cases c with
  |cell n=>
   cases k with
   |int k=>
    have e4':(match μ3[n]? with|some (some ds)=>(ixN ds.length k).map λj=>μ3.set n (some (ds.set j x))|_=>none)=some μ':=e4
    cases e6:μ3[n]? with
    |none=>rw[e6]at e4';cases e4'
    |some oo=>
     cases oo with
     |none=>rw[e6]at e4';cases e4'
     |some ds=>
      rw[e6]at e4'
      obtain⟨j,e7,e8⟩:=Zp.mp e4'
      obtain⟨a,rfl,q⟩:=gj d2
      have e6:W3.mu[n]? =some (some ds):=by rw[m3];exact e6
      obtain⟨xs,ex,r⟩:=ok3.cont n a ds q e6
      refine⟨a,xs,k,j,rfl,bB d3,ex,by rw[<-az.length r];exact e7,?_⟩
      obtain⟨ok4,l4⟩:=ok3.write q e6 (yr j r d1)
      exact h _ _ ok4 (((l1.trans l2).trans l3).trans l4) (by rw[<-e8,<-m3]) (hd.mono' (((l1.trans l2).trans l3).trans l4))
   |_=>cases e4
  |_=>cases e4
def eqF:D->D->Bool
 | .non,.non=>true
 | .bl a,.bl b=>a==b
 | .bl a,.int b=>(if a then 1 else 0)==b
 | .int a,.bl b=>a==(if b then 1 else 0)
 | .int a,.int b=>a==b
 | .str a,.str b=>a==b
 |_,_=>false
def inF(x:D)(ds:List D):Bool:=ds.any λy=>eqF y x
open PySem.SeqAt
theorem Ey{X:Cx}{k:Nat}(hr:cL k X.A):OpR X (compareOp .NotEq) (λv u H Q=>∃a b xs ys,v= .ref a/\u= .ref b/\SqL X.K H a xs/\SqL X.K H b ys/\xs.length≠ys.length/\Q (.bl true) H):=by
 intro pins s σ H v u vv uu Q I rv ru h
 obtain⟨a,b,xs,ys,rfl,rfl,hx,hy,hl,q⟩:=h
 have hun:=hr.un
 cases rv
 cases ru
 obtain⟨its0,iv0,pl0,hz0⟩:=I.list hx
 obtain⟨its1,iv1,pl1,hz1⟩:=I.list hy
 have hl':its0.length≠its1.length:=by rw[<-iv0.length,<-iv1.length];exact hl
 exact RcNeAt.lists_lengths (A:=X.A) pl0.isList pl1.isList (by simpa using hl') (by omega) X.prog X.w X.xe _ ⟨.bl true,H,I,rfl,q⟩
def vJ:O2:=λx y μ=>match x,y with
 | .lst ds,.lst []=>some (.bl (!ds.isEmpty),μ)
 |x,y=>oNe x y μ
theorem zr{x y:D}{μ:Mu}:vJ x y μ=oNe x y μ∨∃d ds,x= .lst (d::ds)/\y= .lst []/\vJ x y μ=some (.bl true,μ):=by
 unfold vJ
 split
 .rename_i ds
  cases ds with
  |nil=>left;unfold oNe rsv;simp[cX,fH,gV,iV,eqD,gQ]
  |cons d ds=>exact .inr ⟨d,ds,rfl,rfl,rfl⟩
 .exact .inl rfl
theorem Mp{X:Cx}{tb:List Addr}{k:Nat}(hr:cL k X.A):OpD X tb (compareOp .NotEq) vJ:=⟨_,(Hj hr).or (Ey hr),λW x y v u d μ' Q ok dx dy ho h=>by
 rcases zr (x:=x) (y:=y) (μ:=W.mu)with e|⟨d',ds,rfl,rfl,e⟩
 .rw[e]at ho
  unfold oNe at ho
  split at ho
  .rename_i hc
   cases ho
   rw[Zo]at hc
   exact .inl ⟨_,_,pF ok dx hc.1.1,pF ok dy hc.1.2,hc.2,put ok h gm⟩
  .cases ho
 .rw[e]at ho
  cases ho
  obtain⟨a,xs,rfl,q,r⟩:=kE dx
  obtain⟨b,ys,rfl,q2,r2⟩:=kE dy
  refine .inr ⟨a,b,xs,ys,rfl,rfl,SqL.fz q,SqL.fz q2,?_,put ok h gm⟩
  have h1:=az.length r
  have h2:=az.length r2
  simp at h1 h2
  omega⟩
def rE:D->Mu->Option (List D)
 | .lst ds,_=>some ds
 | .cell n,μ=>(μ[n]?).join
 |_,_=>none
theorem tR{K:PySem.W.Frag}{tb:List Addr}{W:Wd}{x:D}{v:V}{ds:List D}(ok:WOk K tb W)(h:Den K tb W x v)(e:rE x W.mu=some ds):∃a xs,v= .ref a/\W.H a=some (.lst xs)/\cN K tb W ds xs:=by
 cases x with
 |lst es=>
  cases e
  obtain⟨a,xs,rfl,q,r⟩:=oK h
  exact⟨a,xs,rfl,(dJ q).1,r⟩
 |cell n=>
  obtain⟨a,rfl,q⟩:=gj h
  have e:(W.mu[n]?).join=some ds:=e
  cases e2:W.mu[n]? with
  |none=>rw[e2]at e;cases e
  |some o=>
   rw[e2]at e
   have e:o=some ds:=e
   subst e
   obtain⟨xs,ex,r⟩:=ok.cont n a ds q e2
   exact⟨a,xs,rfl,ex,r⟩
 |_=>cases e
def EY(fa fb:EF):LF:=λδ μ=>(fa δ μ).bind λr=>(fb δ r.2).bind λq=>(rE r.1 q.2).bind λxs=>(rE q.1 q.2).bind λys=>if xs.length+ys.length<=sizeLine then some (xs++ys,q.2)else none
theorem Jc{X:Cx}{tb:List Addr}{a b:Expr}{fa fb:EF}{pos:Pos}(ha:PD X tb a fa)(hb:PD X tb b fb):PDN X tb (.BinOp a .Add b pos) (EY fa fb):=
 eZ (KQ Dn ha hb) λσ H Q zq3=>by
  obtain⟨W,δ,ds,μ',e,ok,hd,hf,h⟩:=zq3
  unfold EY at hf
  obtain⟨⟨x,μ1⟩,e1,hf⟩:=Za.mp hf
  obtain⟨⟨y,μ2⟩,e2,hf⟩:=Za.mp hf
  obtain⟨xs,e3,hf⟩:=Za.mp hf
  obtain⟨ys,e4,hf⟩:=Za.mp hf
  refine⟨W,δ,x,μ1,e,ok,hd,e1,λv W1 ok1 l1 m1 d1=>⟨W1,δ,y,μ2,rfl,ok1,hd.mono' l1,(by rw[m1];exact e2),λu W2 ok2 l2 m2 d2=>?_⟩⟩
  have d1:=Den.mono' d1 l2
  split at hf
  .rename_i hz
   cases hf
   obtain⟨a1,us,rfl,q1,r1⟩:=tR ok2 d1 (by rw[m2];exact e3)
   obtain⟨a2,ws,rfl,q2,r2⟩:=tR ok2 d2 (by rw[m2];exact e4)
   exact⟨a1,a2,us,ws,rfl,rfl,q1,q2,by rw[<-az.length r1,<-az.length r2];exact hz,λp hp=>h p _ W2 ok2 (l1.trans l2) m2 hp (az.append r1 r2)⟩
  .cases hf
end L3
namespace L2
open PySem PySem.Spec PyProof.Rows
section
variable {X:Cx} {pos:Pos}
def Ql(i j k:Nat)(ta:TA):TS:=λD σ H=>ta σ H λvs H1=>∃v w z,vs=[v,w,z]/\D.nx (((σ.set i (some v)).set j (some w)).set k (some z)) H1
theorem Jf{i j k:Nat}{x y z:Str}{a b c:Expr}{ta:TA}{px py pz pt:Pos}{kt k2 pt2}(hc:X.calm=true)(hN:X.N.Nodup)(hi:X.N[i]? =some x)(hj:X.N[j]? =some y)(hk:X.N[k]? =some z)(hij:i≠j)(hik:i≠k)(hjk:j≠k)
  (hx:X.env.scope.names.lookup x=some .local) (hy:X.env.scope.names.lookup y=some .local) (hz:X.env.scope.names.lookup z=some .local) (ha:PA X [a,b,c] ta)
  (hw:swappedStores [.Tuple [.Name x px,.Name y py,.Name z pz] kt pt] (.Tuple [a,b,c] k2 pt2) X.env=pure (some [x,y,z]))
  (hs:swapsWithSole [.Tuple [.Name x px,.Name y py,.Name z pz] kt pt] (.Tuple [a,b,c] k2 pt2) pos.line X.env=pure false:=by rfl):
  PS X (.Assign [.Tuple [.Name x px,.Name y py,.Name z pz] kt pt] (.Tuple [a,b,c] k2 pt2) pos) (Ql i j k ta):=by
 intro pins s σ H D I h
 rw[exec_Assign_arm]
 refine wpAny_bind (wpAny_standAt ?_)
 rw[hs]
 refine wpAny_bind (wpAny_pure ?_)
 rw[if_neg (by decide)]
 refine wpAny_bind (Tuple_ (thn (ha _ pins s σ H _ I h) λus s1 zq4=>?_))
 obtain⟨vs,H1,I1,r1,q1⟩:=zq4
 obtain⟨v,w,t,e1,q1⟩:=q1
 subst e1
 obtain⟨u1,u2,u3,rfl,rv,rw',rt⟩:∃u1 u2 u3,us=[u1,u2,u3]/\RelV v u1/\RelV w u2/\RelV t u3:=by
  cases r1 with
  |cons p q=>
   cases q with
   |cons p' q'=>
    cases q' with
    |cons p'' q''=>
     cases q''
     exact⟨_,_,_,rfl,p,p',p''⟩
 refine wpAny_newObj_type ?_ (by show 3<=sizeLine;decide)
 have I2:Inv X pins σ H1 { s1 with heap:=s1.heap.push { cls:=.type "tuple",data:=.seq [u1,u2,u3].toArray} }:=I1.kept (t':=s1.toks) λb o e=>Zb _ e
 rw[hw]
 refine wpAny_bind (wpAny_pure ?_)
 show wpAny (model X.prog X.w) X.A (do rule "assign.swapped-stores";let items<-unpackItems (.ref s1.heap.objs.size) 3 none;assignInOrder [λv=>bindName X.env z v,λv=>bindName X.env y v,λv=>bindName X.env x v] items.reverse;pure Flow.next) _ _ _
 refine wpAny_bind (wpAny_rule (wpAny_bind (unpackItems_tuple (items:= #[u1,u2,u3]) (I.ok.hd hc) (IsTup.new s1.heap _) λh' hx'=>?_)))
 have I3:=I2.kept (h':=h') (t':=s1.toks) λb o e=>hx' b o (Zk (Ze e)) e
 show wpAny _ _ (assignInOrder [λv=>bindName X.env z v,λv=>bindName X.env y v,λv=>bindName X.env x v] [u3,u2,u1] >>= λ_=>pure Flow.next) _ _ _
 refine wpAny_bind (assignInOrder_cons (wpAny_bindName (jt I3 hN hk (.inl hz) rt (λs2 I4=>?_) (.inr hz))))
 refine assignInOrder_cons (wpAny_bindName (jt I4 hN hj (.inl hy) rw' (λs3 I5=>?_) (.inr hy)))
 refine assignInOrder_cons (wpAny_bindName (jt I5 hN hi (.inl hx) rv (λs4 I6=>assignInOrder_nil (wpAny_pure ?_)) (.inr hx)))
 have e:((σ.set k (some t)).set j (some w)).set i (some v)=((σ.set i (some v)).set j (some w)).set k (some t):=by
  rw[List.set_comm _ _ (Ne.symm hij),List.set_comm _ _ (Ne.symm hik),List.set_comm (l:=σ.set i (some v)) _ _ (Ne.symm hjk)]
 rw[e]at I6
 exact⟨_,H1,I6,q1⟩
end
end L2
namespace L3
open PySem PySem.Spec PyProof.Rows L2
def Ag(i j k:Nat)(fs:AF):SF:=λδ μ=>(fs δ μ).bind λr=>match r.1 with
 | [x,y,z]=>some (.nx,((δ.set i (some x)).set j (some y)).set k (some z),r.2)
 |_=>none
theorem Ec{X:Cx}{tb:List Addr}{pos:Pos}{i j k:Nat}{x y z:Str}{a b c:Expr}{fs:AF}{px py pz pt:Pos}{kt k2 pt2}(hc:X.calm=true)(hN:X.N.Nodup)(ha:PAD X tb [a,b,c] fs)(hij:i≠j:=by decide)(hik:i≠k:=by decide)(hjk:j≠k:=by decide)(hi:X.N[i]? =some x:=by rfl)(hj:X.N[j]? =some y:=by rfl)(hk:X.N[k]? =some z:=by rfl)
  (hx:X.env.scope.names.lookup x=some .local:=by rfl) (hy:X.env.scope.names.lookup y=some .local:=by rfl) (hz:X.env.scope.names.lookup z=some .local:=by rfl)
  (hw:swappedStores [.Tuple [.Name x px,.Name y py,.Name z pz] kt pt] (.Tuple [a,b,c] k2 pt2) X.env=pure (some [x,y,z]):=by rfl)
  (hs:swapsWithSole [.Tuple [.Name x px,.Name y py,.Name z pz] kt pt] (.Tuple [a,b,c] k2 pt2) pos.line X.env=pure false:=by rfl):
  PSD X tb (.Assign [.Tuple [.Name x px,.Name y py,.Name z pz] kt pt] (.Tuple [a,b,c] k2 pt2) pos) (Ag i j k fs):=
 lB (Jf hc hN hi hj hk hij hik hjk hx hy hz ha hw hs) λE σ H zq5=>by
  obtain⟨W,δ,fl,δ',μ',e,ok,hd,hf,h⟩:=zq5
  unfold Ag at hf
  obtain⟨⟨xs,μ1⟩,e1,e2⟩:=Za.mp hf
  match xs,e1,e2 with
  | [x,y,z],e1,e2=>
   cases e2
   refine⟨W,δ,_,_,e,ok,hd,e1,λvs W1 ok1 l1 m1 d1=>?_⟩
   unfold cN az at d1
   obtain⟨u,us,rfl,du,d1⟩:=d1
   obtain⟨v,w,rfl,dv,dw⟩:=az.two d1
   exact⟨u,v,w,rfl,h _ W1 ok1 l1 m1 ((((hd.mono' l1).set du).set dv).set dw)⟩
theorem us1{α:Type}{P:List α->Prop}(h:∀a,P [a]):∀us:List α,us.length=1->P us
 | [a],_=>h a
theorem us2{α:Type}{P:List α->Prop}(h:∀a b,P [a,b]):∀us:List α,us.length=2->P us
 | [a,b],_=>h a b
theorem us3{α:Type}{P:List α->Prop}(h:∀a b c,P [a,b,c]):∀us:List α,us.length=3->P us
 | [a,b,c],_=>h a b c
theorem us4{α:Type}{P:List α->Prop}(h:∀a b c d,P [a,b,c,d]):∀us:List α,us.length=4->P us
 | [a,b,c,d],_=>h a b c d
structure Got(K:PySem.W.Frag)(x:Str)(st:Stmt)(f c P:Addr)(fd:FuncData):Prop where
 F:gh K x x st f fd P
 m:PySem.W.nsIn K mainGlobals x=some (some (.ref f))
 t:PySem.W.tabIn K x=some (c,P)
 e:∃kV dc pm an ct,fd=PySem.W.fnOf x x (jY st) (iY st) (aL st) .none kV dc pm an (.ref c) ct
theorem Ou{K:PySem.W.Frag}{x:Str}{st:Stmt}{f c P:Addr}{oc:Value}{od an:Option Addr}{osl:Array (Option Value)}{kV doc pm ct:Value}{dd:Option Addr}{vs:Array Value}{sl:Array (Option Value)}(a:PySem.W.nsIn K mainGlobals x=some (some (.ref f)))
  (l:K.lookup f=some ⟨oc,od,.func (PySem.W.fnOf x x (jY st) (iY st) (aL st) .none kV doc pm an (.ref c) ct),osl⟩) (hc:PySem.W.codeIn K (.ref c) x=true) (k:PySem.W.keepIn K (.ref f)=true)
  (lc:K.lookup c=some ⟨.type "code",dd,.fields vs,sl⟩) (p:vs[11]? =some (.ref P)) (q:wG vs=true) (ne:(c != P)=true):∃f c P fd,Got K x st f c P fd:=
 ⟨f,c,P,_,Hr l hc k lc p q ne,a,Og a l rfl lc p,kV,doc,pm,an,ct,rfl⟩
end L3
namespace L2
open PySem PySem.Spec PyProof.Rows PySem.W
theorem uq:∀{ns:List Int}{us:List Value},Vals (ns.map V.int) us->IntsAre us ns
 | [],_,.nil=>.nil
 |n::ns,_,.cons ⟨t,e⟩ r=>by subst e;exact .cons n t (uq r)
end L2
namespace L3
open PySem PySem.Spec PyProof.Rows L2
def rP:List D->Option (List Int)
 | []=>some []
 | .int i::r=>(rP r).map (i:: ·)
 |_=>none
theorem yx:∀{ds:List D}{ns:List Int},rP ds=some ns->ds=ns.map .int
 | [],ns,h=>by cases h;rfl
 |d::r,ns,h=>by
  cases d with
  |int i=>
   obtain⟨ms,e,rfl⟩:=Zp.mp (show(rP r).map (i:: ·)=some ns from h)
   rw[yx e];rfl
  |_=>cases h
theorem wX:∀(ns:List Int),rP (ns.map .int)=some ns
 | []=>rfl
 |n::ns=>by
  show(rP (ns.map .int)).map (n:: ·)=_
  rw[wX ns];rfl
theorem xx{K:PySem.W.Frag}{tb:List Addr}{W:Wd}:∀{ns:List Int}{xs:List V},cN K tb W (ns.map .int) xs->xs=ns.map V.int
 | [],xs,h=>by
  have:=az.length h
  cases xs with
  |nil=>rfl
  |cons a b=>cases this
 |n::ns,xs,h=>by
  cases xs with
  |nil=>have:=az.length h;cases this
  |cons a b=>
   obtain⟨u,us,e,h1,h2⟩:∃u us,a::b=u::us/\bf K (Wd.fz tb W) W.ad (.int n) u/\az K (Wd.fz tb W) W.ad (ns.map .int) us:=by unfold cN az at h;exact h
   cases e
   rw[bB h1,xx h2];rfl
end L3
namespace L2
open PySem PySem.Spec PyProof.Rows
theorem BK{X:Cx}(hc:X.calm=true):iI X (.builtin "max") (λxs H Q=>∃(a:Addr)(ns:List Int),xs=[.ref a]/\SqL X.K H a (ns.map V.int)/\0<ns.length/\∀M,M∈ns->(∀a∈ns,a<=M)->Q (.int M) H):=by
 intro pins s σ H xs us Q I r h
 obtain⟨a,ns,rfl,hq,hne,q⟩:=h
 obtain⟨u,rfl,rx⟩:=vals1 r
 cases rx
 obtain⟨its,r',pl,hz⟩:=I.list hq
 have hi:=uq r'
 have hl:=pl.isList
 obtain⟨xs,e⟩:=hi.allInts.items
 have hns:ns=xs.toList.map (·.1):=by rw[<-hi.numsOf,<-nums_intItems,<-e]
 have hsz:0<xs.size:=by
  have h3:=hne;rw[hns,Zu,Array.length_toList]at h3;exact h3
 rw[e]at hl
 refine max_intList (I.ok.hd hc) hl hsz λv h' tk hv hk=>?_
 obtain⟨t,rfl⟩:=intItems_at hv
 obtain⟨h1,h2⟩:=argBest_gt (numAt xs) (xs.size-1)
 refine⟨.int _,H,I.kept hk,⟨t,rfl⟩,q _ ?_ λa ha=>?_⟩
 .rw[hns,numAt_eq];exact getD_mem (by rw[Zu,Array.length_toList];omega)
 .rw[hns]at ha
  obtain⟨j,hj,rfl⟩:=mem_getD ha
  rw[Zu,Array.length_toList]at hj
  rw[<-numAt_eq];exact h2 j (by omega)
end L2
namespace L3
open PySem PySem.Spec PyProof.Rows L2
def jr:List Int->Int
 | []=>0
 | [n]=>n
 |n::m::ns=>max n (jr (m::ns))
theorem Az:∀{ns:List Int}{M:Int},M∈ns->(∀a∈ns,a<=M)->M=jr ns
 | [n],M,h,_=>List.mem_singleton.mp h
 |n::m::ns,M,h,k=>by
  unfold jr
  rcases Zi.mp h with z|z
  .subst z
   have hm:jr (m::ns)<=M:=by
    have:∀(l:List Int),l≠[]->jr l∈l:=by
     intro l
     induction l with
     |nil=>exactλh=>absurd rfl h
     |cons a l ih=>
      intro _
      cases l with
      |nil=>simp[jr]
      |cons b l=>
       unfold jr
       have:=ih (by simp)
       by_cases hab:a<=jr (b::l)
       .rw[Int.max_eq_right hab];exact List.mem_cons_of_mem _ this
       .rw[Int.max_eq_left (by omega)];simp
    exact k _ (List.mem_cons_of_mem _ (this _ (by simp)))
   rw[Int.max_eq_left hm]
  .have e:=Az z λa ha=>k a (List.mem_cons_of_mem _ ha)
   rw[<-e]
   rw[Int.max_eq_right (k n (by simp))]
def tu:O1':=λx μ=>match x with
 | .lst ds=>match rP ds with
  |some (n::ns)=>some (.int (jr (n::ns)),μ)
  |_=>none
 |_=>none
theorem yh{ns:List Int}{μ:Mu}(h:ns≠[]):tu (.lst (ns.map .int)) μ=some (.int (jr ns),μ):=by
 unfold tu
 cases ns with
 |nil=>exact absurd rfl h
 |cons n ns=>
  have:=wX (n::ns)
  simp only[this]
theorem Bl{X:Cx}{tb:List Addr}{a:Expr}{fs:AF}{p pos:Pos}(hc:X.calm=true)(hm:X.mg "max"=none)(ha:PAD X tb [a] fs)(hg:Gl X "max":=by rfl)(he:starEach [a] X.env=(false,eval a X.env)::starEach [] X.env:=by rfl):PD X tb (.Call (.Name "max" p) [a] [] pos) (MC fs (bh tu)):=
 yq (λta ha=>jU (BK hc) hg hm PyProof.Rows.boot_max ha (by decide) (by decide) he (by rfl)) (λW xs vs d μ' Q ok r ho h=>by
  obtain⟨x,rfl,ho⟩:=nT ho
  obtain⟨v,rfl,dv⟩:=az.one r
  cases x with
  |lst ds=>
   have ho:(match rP ds with|some (n::ns)=>some (D.int (jr (n::ns)),W.mu)|_=>none)=some (d,μ'):=ho
   split at ho
   .rename_i n ns hi
    cases ho
    have hds:=yx hi
    obtain⟨a,xs,e,q,r⟩:=gY ok dv rfl
    rw[hds]at r
    have hx:=xx r
    subst hx
    exact⟨a,n::ns,by rw[e],(show SqL X.K W.H a _ from q),by simp,λM h1 h2=>by rw[Az h1 h2];exact put ok h dI⟩
   .cases ho
  |_=>cases ho) ha
end L3
namespace PySem
open Sem (wp)
open AutoSeq1 (wpAny_loadPart')
section
variable {prog:Program} {w:World} {A:Around} {E:Value->Shared->Prop} {s:Shared}
theorem xG{Q:List Value->Shared->Prop}{r:Addr}{a b c:Int}{t u v:Tok}{n:Nat}(hh:A.handled=none)(hr:IsRange s.heap r a b c t u v)(hsmall:Builtin.Range.small a b c=true)
  (hn:Builtin.Range.rangeSize a b c=n) (hlen:n<=2 ^ 24)
  (hQ:∀h' tk acc,(∀b o,s.heap.get? b=some o->h'.get? b=some o)->ItemsOf (λi v=>∃t,v= .int (a+i*c) t) acc n->Q acc.toList { s with heap:=h',toks:=tk}):
  wpAny (model prog w) A (collect (.ref r)) Q E s:=by
 unfold collect
 refine wpAny_bind (wpAny_runValue (codeAny_builtin F.entry_proto_collect ?_))
 rw[Around.under_plainId F.plain_proto_collect _]
 show wpAny _ A.in1 (newList [] >>= λl=>again (.builtin "list.__iadd__" ⟨[l,.ref r],[]⟩)) _ _ s
 refine wpAny_bind (wpAny_newObj_type ?_)
 refine wpAny_pure ⟨plainId_quiet F.plain_list_iadd _,codeAny_builtin F.entry_list_iadd ?_⟩
 rw[Around.under_plainId F.plain_list_iadd _]
 show wpAny _ A.in1 (Builtin.List.listExtendWith (.ref s.heap.objs.size) (.ref r) (.ref s.heap.objs.size)) _ _ _
 have hS:(s.heap.push { cls:=.type "list",data:=.seq ([]:List Value).toArray}).get? s.heap.objs.size=some { cls:=.type "list",data:=.seq #[] 0}:=Zf _ rfl
 refine wpAny_mono (wpAny_extend_range (A:=A) (R:=λr s'=>r= .ok (.ret (.ref s.heap.objs.size))/\∃h' tk acc' c',(∀b o,s.heap.get? b=some o->h'.get? b=some o)/\h'.get? s.heap.objs.size=some { cls:=.type "list",dict:=none,data:=.seq acc' c',slots:= #[] }/\ItemsOf (λi v=>∃t,v= .int (a+i*c) t) acc' n/\s'={ s with heap:=h',toks:=tk})
  (s:={ s with heap:=s.heap.push { cls:=.type "list",data:=.seq ([]:List Value).toArray} }) hh (Zb _ hr) hsmall hn hlen _ _ 0 hS λh' tk acc' c' hk hS' hacc=>⟨rfl,h',tk,acc',c',λb o e=>hk b o (Zk (Ze e)) (Zb _ e),hS',hacc,rfl⟩) (λfin s' h=>?_) (λe s' h=>?_)
 .have fin':∀(r':Result)(s':Shared),(r'= .ok (.ret (.ref s.heap.objs.size))/\∃h' tk acc' c',(∀b o,s.heap.get? b=some o->h'.get? b=some o)/\h'.get? s.heap.objs.size=some { cls:=.type "list",dict:=none,data:=.seq acc' c',slots:= #[] }/\ItemsOf (λi v=>∃t,v= .int (a+i*c) t) acc' n/\s'={ s with heap:=h',toks:=tk})->wpAny (model prog w) A (match Value.ref s.heap.objs.size with
   |Value.ref a=>do
    match(<-load a).data with
     |Data.seq xs _=>pure xs.toList
     |_=>unsupported "internal:collect"
   |_=>unsupported "internal:collect") Q E s':=by
   rintro r' s' ⟨_,h',tk,acc',c',h1,h2,h3,rfl⟩
   show wpAny _ A (load s.heap.objs.size >>= _) _ _ _
   refine wpAny_bind (wpAny_load h2 ?_)
   exact wpAny_pure (hQ h' tk acc' h1 h3)
  cases fin with
  |done f=>
   have e:=h.1
   cases e
   exact fin' _ _ h
  |again c'=>exact⟨h.1,codeAny_mono h.2 λr s'' hr=>by
   have e:=hr.1
   subst e
   exact fin' _ _ hr⟩
 .exact absurd h.1 (by simp)
end
theorem qz(r:Addr)(a b c:Int)(t u v:Tok)(n:Nat)(hsmall:Builtin.Range.small a b c=true)(hn:Builtin.Range.rangeSize a b c=n)(hlen:n<=2 ^ 24):
  Meets (Builtin.«tuple.__new__» ⟨[.type "tuple",.ref r],[]⟩)
   (λA R s=>A.handled=none/\IsRange s.heap r a b c t u v/\∀(h':Heap)(tk:Nat)(acc:Array Value),(∀b o',s.heap.get? b=some o'->h'.get? b=some o')->ItemsOf (λi v=>∃t,v= .int (a+i*c) t) acc n->R (.ok (.ret (.ref h'.objs.size))) { s with heap:=h'.push { cls:=.type "tuple",data:=.seq acc},toks:=tk}):=
 .of_wp λprog w A R s h=>by
  obtain⟨hp,g,d,tk,os⟩:=s;obtain⟨hh,hr,h⟩:=h
  have hsub:=sub_tuple_self
  have hinit:=init_tuple_lookup
  have hmh:=madeHere_tuple
  have hT:Shared.TypeIs ⟨hp,g,d,tk,os⟩ (.ref r) "range":=⟨_,hr,rfl⟩
  have hh1:A.in1.handled=none:=hh
  wp_walk using wpAny_loadPart' hr,wpAny_typeOf hT,xG hh1 hr hsmall hn hlen
  intro h' tk acc hk hacc
  show wpAny _ _ (Builtin.Tuple.tupleExact acc.toList.toArray >>= λv=>ret v) _ _ _
  unfold Builtin.Tuple.tupleExact
  refine wpAny_bind (wpAny_newObj_type ?_ (show acc.toList.toArray.size<=sizeLine by simp only[Array.toArray_toList];rw[hacc.1,sizeLine_eq];exact hlen))
  refine wpAny_pure ⟨_,rfl,?_⟩
  have e:acc.toList.toArray=acc:=by simp
  rw[e]
  exact h h' tk acc hk hacc
theorem qX{prog:Program}{w:World}{A:Around}{E:Value->Shared->Prop}{s:Shared}{Q:Value->Shared->Prop}{r:Addr}{a b c:Int}{t u v:Tok}{n:Nat}(hh:A.handled=none)(hr:IsRange s.heap r a b c t u v)(hsmall:Builtin.Range.small a b c=true)
  (hn:Builtin.Range.rangeSize a b c=n) (hlen:n<=2 ^ 24)
  (h:∀(h':Heap)(tk:Nat)(acc:Array Value),(∀b o',s.heap.get? b=some o'->h'.get? b=some o')->ItemsOf (λi v=>∃t,v= .int (a+i*c) t) acc n->Q (.ref h'.objs.size) { s with heap:=h'.push { cls:=.type "tuple",data:=.seq acc},toks:=tk}):
  wpAny (model prog w) A (call (.type "tuple") [.ref r]) Q E s:=
 callType_new F.called_tuple (by decide) (F.typeCall_tuple_1 _) (F.newCall_tuple_1 _) (λobj=>F.args_object_init_2 obj _) F.entry_tuple_new
  (qz r a b c t u v n hsmall hn hlen) ⟨hh,hr,λh' tk acc hk hacc=>⟨⟨_,Zf _ rfl,rfl⟩,h h' tk acc hk hacc⟩⟩
end PySem
namespace L3
open PySem PySem.Spec PyProof.Rows L2
theorem wI{X:Cx}(hc:X.calm=true):iI X (.type "tuple") (λxs H Q=>∃p i j,xs=[.ref p]/\H p=some (.rng i j)/\(-(2 ^ 62)<=i/\i<2 ^ 62/\ -(2 ^ 62)<=j/\j<2 ^ 62)/\(j-i).toNat<=sizeLine/\∀l,H l=none->Q (.ref l) (upd H l (.tup (Jz i (j-i).toNat)))):=by
 intro pins s σ H xs us Q I r h
 obtain⟨p,i,j,rfl,hp,⟨h1,h2,h3,h4⟩,hz,q⟩:=h
 obtain⟨u,rfl,rx⟩:=vals1 r
 cases rx
 obtain⟨t,u,v,ho⟩:=I.hok p _ hp
 have hn:Builtin.Range.rangeSize i j 1=((j-i).toNat:Nat):=by rw[rangeSize_one];split<;>omega
 refine qX (I.ok.hd hc) ho (small_one h1 h2 h3 h4) hn (by rw[sizeLine_eq]at hz;omega) λh' tk acc' kp it=>?_
 obtain⟨e1,e2⟩:=it
 have hv:Vals (Jz i (j-i).toNat) acc'.toList:=by
  unfold Jz
  rw[List.range_eq_range']
  refine uK (by simpa using e1) λk v hk=>?_
  obtain⟨t,q⟩:=e2 k v (by simpa using hk)
  exact⟨t,by rw[q];congr 1;first|done|omega⟩
 have I1:Inv X pins σ H { s with heap:=h',toks:=tk}:=I.kept (t':=tk) kp
 have I2:Inv X pins σ (upd H h'.objs.size (.tup (Jz i (j-i).toNat))) { s with heap:=h'.push { cls:=.type "tuple",data:=.seq acc'},toks:=tk}:=
  I1.laid (t':=tk) (λb o e=>Zb _ e) (Zg _) (show iT X.prog X.w _ _ _ (.tup _)from⟨by rw[hv.length];simpa[e1]using hz,acc'.toList,hv,by simpa using IsTup.new (h:=h') (items:=acc')⟩)
 exact⟨.ref h'.objs.size,_,I2,rfl,q _ (I1.hok.fresh (Zg _))⟩
def Ti(fs:AF):EF:=λδ μ=>(fs δ μ).bind λr=>match r.1 with
 | [.int j]=>if -(2 ^ 62)<=j/\j<2 ^ 62/\j.toNat<=sizeLine then some (.tup (cQ 0 j.toNat),r.2)else none
 |_=>none
def qY(fs:AF):EF:=λδ μ=>(fs δ μ).bind λr=>match r.1 with
 | [.int i,.int j]=>if(-(2 ^ 62)<=i/\i<2 ^ 62/\ -(2 ^ 62)<=j/\j<2 ^ 62)/\(j-i).toNat<=sizeLine then some (.tup (cQ i (j-i).toNat),r.2)else none
 |_=>none
section
variable {X:Cx} {tb:List Addr} {a b:Expr} {fs:AF} {p p2 pos pos2:Pos}
theorem DX(hc:X.calm=true)(hm:X.mg "tuple"=none)(hm2:X.mg "range"=none)(ha:PAD X tb [a,b] fs)(hg:Gl X "tuple":=by rfl)(hg2:Gl X "range":=by rfl)(he:starEach [a,b] X.env=(false,eval a X.env)::starEach [b] X.env:=by rfl)(hpl:(backTo pos2 (starEach [b] X.env)).any (·.1)=false:=by rfl)
  (he2:starEach [.Call (.Name "range" p2) [a,b] [] pos2] X.env=(false,eval (.Call (.Name "range" p2) [a,b] [] pos2) X.env)::starEach [] X.env:=by rfl):
  PD X tb (.Call (.Name "tuple" p) [.Call (.Name "range" p2) [a,b] [] pos2] [] pos) (qY fs):=
 eZ (mJ (wI hc) hg hm PyProof.Rows.boot_tuple (oW (mJ Cd hg2 hm2 PyProof.Rows.boot_range ha (by decide) (by decide) he hpl) vG he2) (by decide) (by decide) he2 (by rfl)) λσ H Q zq4=>by
  obtain⟨W,δ,d,μ',e,ok,hd,hf,k⟩:=zq4
  unfold qY at hf
  obtain⟨⟨xs,μ1⟩,e1,e2⟩:=Za.mp hf
  match xs,e1,e2 with
  | [.int i,.int j],e1,e2=>
   have e2':(if(-(2 ^ 62)<=i/\i<2 ^ 62/\ -(2 ^ 62)<=j/\j<2 ^ 62)/\(j-i).toNat<=sizeLine then some (D.tup (cQ i (j-i).toNat),μ1)else none)=some (d,μ'):=e2
   split at e2'
   .rename_i hj
    cases e2'
    refine⟨W,δ,[.int i,.int j],_,e,ok,hd,e1,λvs W1 ok1 l1 m1 d1=>?_⟩
    obtain⟨v,v',rfl,dv,dv'⟩:=az.two d1
    rw[bB dv,bB dv']
    refine⟨i,j,rfl,λq hq=>?_⟩
    obtain⟨ok2,l2,eq⟩:=ok1.alloc (o:=.rng i j) hq
    exact⟨q,i,j,rfl,fj,hj.1,hj.2,λl hl=>kI ok2 (λv W' ok' l' m' d'=>k v W' ok' ((l1.trans l2).trans l') (m'.trans m1) d') (Ah (List.range (j-i).toNat)) hl⟩
   .cases e2'
end
theorem Gf{own:List Str}{capI:List Nat}{σ σ1 σ2:SV}{ts1 ts2:List Nat}(h1:∀i∈ts2,i<own.length)(hd:∀i∈ts2,i∉ts1)(e1:∀i,i∉ts1->σ1[i]? =(bz own σ capI)[i]?)(hl:σ2.length=σ1.length)(e2:∀i,i∉ts2->σ2[i]? =σ1[i]?):Fits σ1 σ2:=
 ⟨hl,λi v e=>by
  by_cases hi:i∈ts2
  .rw[e1 i (hd i hi)]at e
   unfold bz at e
   rw[Zs (by simpa using h1 i hi),List.getElem?_replicate]at e
   split at e<;>cases e
  .rw[e2 i hi];exact e⟩
open Classical in
noncomputable def thP(μ:Mu)(fe:EF)(δ:En):cR:=λν=>if ν=μ then(fe δ μ).bind λr=>if r.2=μ then some (r.1,μ)else none else none
open Classical in
noncomputable def jH(μ:Mu)(h:GF)(tt:TF)(fe:EF)(δ1:En):List D->Option (List cR)
 | []=>some []
 |d::r=>(h d δ1 μ).bind λδ2=>(tt δ2 μ).bind λk=>if k.2=μ then(jH μ h tt fe δ1 r).bind λts=>if k.1=true then some (thP μ fe δ2::ts)else some ts else none
open Classical in
noncomputable def iG(μ:Mu)(h1:GF)(tt1:TF)(fi2:IF)(h2:GF)(tt2:TF)(fe:EF)(δb:En):List D->Option (List cR)
 | []=>some []
 |d::r=>(h1 d δb μ).bind λδ1=>(tt1 δ1 μ).bind λk=>if k.2=μ then(if k.1=true then(fi2 δ1 μ).bind λq=>if q.2=μ/\q.1.cel=none then(jH μ h2 tt2 fe δ1 q.1.items).bind λts=>(iG μ h1 tt1 fi2 h2 tt2 fe δb r).bind λus=>some (ts++us)else none else iG μ h1 tt1 fi2 h2 tt2 fe δb r)else none
noncomputable def vX(own:List Str)(capI:List Nat)(fi1:IF)(h1:GF)(tt1:TF)(fi2:IF)(h2:GF)(tt2:TF)(fe:EF):StF:=λδ μ=>(fi1 δ μ).bind λr=>match r.1.cel with
 |none=>(iG r.2 h1 tt1 fi2 h2 tt2 fe (bU own δ capI) r.1.items).bind λts=>some (ts,r.2)
 |some _=>none
theorem Lh{K:PySem.W.Frag}{tb:List Addr}{W0 W:Wd}(ok0:WOk K tb W0)(ok:WOk K tb W)(l:Le tb W0 W)(hm:W.mu=W0.mu):W.ad=W0.ad:=by
 have hl:W.ad.length=W0.ad.length:=by rw[ok.len,ok0.len,hm]
 apply List.ext_getElem?
 intro i
 by_cases hi:i<W0.ad.length
 .have e:W0.ad[i]? =some W0.ad[i]:=by simp[hi]
  rw[l.ad i _ e,e]
 .rw[List.getElem?_eq_none (by omega),List.getElem?_eq_none (by omega)]
theorem KR{K:PySem.W.Frag}{tb:List Addr}{W0 W V:Wd}(ok0:WOk K tb W0)(ok:WOk K tb W)(ok':WOk K tb V)(l:Le tb W0 W)(l':Le tb W0 V)(hm:W.mu=W0.mu)(hm':V.mu=W0.mu)(hH:V.H=W.H):V=W:=by
 have a:=Lh ok0 ok l hm
 have b:=Lh ok0 ok' l' hm'
 obtain⟨H,ad,mu⟩:=W
 obtain⟨H',ad',mu'⟩:=V
 simp only at hm hm' a b hH
 subst hm hm' a b hH
 rfl
theorem rY{μ:Mu}{h:GF}{tt:TF}{fe:EF}{δ1:En}:∀{ds:List D}{ts:List cR},jH μ h tt fe δ1 ds=some ts->∀th∈ts,∃δ,th=thP μ fe δ
 | [],ts,e,th,ht=>by unfold jH at e;cases e;cases ht
 |d::r,ts,e,th,ht=>by
  unfold jH at e
  obtain⟨δ2,e1,e⟩:=Za.mp e
  obtain⟨k,e2,e⟩:=Za.mp e
  split at e
  .obtain⟨us,e3,e⟩:=Za.mp e
   split at e
   .cases e
    rcases Zi.mp ht with z|z
    .exact⟨δ2,z⟩
    .exact rY e3 th z
   .cases e
    exact rY e3 th ht
  .cases e
theorem mG{μ:Mu}{h1 h2:GF}{tt1 tt2:TF}{fi2:IF}{fe:EF}{δb:En}:∀{ds:List D}{ts:List cR},iG μ h1 tt1 fi2 h2 tt2 fe δb ds=some ts->∀th∈ts,∃δ,th=thP μ fe δ
 | [],ts,e,th,ht=>by unfold iG at e;cases e;cases ht
 |d::r,ts,e,th,ht=>by
  unfold iG at e
  obtain⟨δ1,e1,e⟩:=Za.mp e
  obtain⟨k,e2,e⟩:=Za.mp e
  split at e
  .split at e
   .obtain⟨q,e3,e⟩:=Za.mp e
    split at e
    .obtain⟨us,e4,e⟩:=Za.mp e
     obtain⟨vs,e5,e⟩:=Za.mp e
     cases e
     rcases Zm.mp ht with z|z
     .exact rY e4 th z
     .exact mG e5 th z
    .cases e
   .exact mG e th ht
  .cases e
theorem zZ{μ ν μ':Mu}{fe:EF}{δ:En}{d:D}(e:thP μ fe δ ν=some (d,μ')):ν=μ/\μ'=μ/\fe δ μ=some (d,μ):=by
 unfold thP at e
 split at e
 .obtain⟨r,e1,e⟩:=Za.mp e
  split at e
  .cases e
   refine⟨by assumption,rfl,?_⟩
   rw[e1]
   obtain⟨x,y⟩:=r
   have h3:y=μ:=by assumption
   rw[h3]
  .cases e
 .cases e
section
variable {X:Cx} {tb:List Addr} {elt t1 i1 t2 i2:Expr} {f1 f2:List Expr} {pos:Pos}
def Ex(K:PySem.W.Frag)(tb:List Addr)(W1:Wd)(S:Src)(h1:GF)(tt1:TF)(fi2:IF)(h2:GF)(tt2:TF)(fe:EF)(δb:En)(σb:SV)(ts1:List Nat)(n:Nat)(ths:List cR)(st:S2)(W:Wd):Prop:=
 WOk K tb W/\Le tb W1 W/\W.mu=W1.mu/\match st with
 |none=>n=0/\iG W1.mu h1 tt1 fi2 h2 tt2 fe δb S.items=some ths
 |some (i,σ1,J2,j)=>i<=S.items.length/\∃δ1 S2 W0 us vs,Le tb W0 W/\qu K tb J2 S2 W0/\S2.cel=none/\gA K tb W δ1 σ1/\(∀i,i∉ts1->σ1[i]? =σb[i]?)/\jH W1.mu h2 tt2 fe δ1 (S2.items.drop j)=some us/\iG W1.mu h1 tt1 fi2 h2 tt2 fe δb (S.items.drop i)=some vs/\ths.drop n=us++vs
noncomputable def nu(μ:Mu)(h1:GF)(fi2:IF)(δb:En):List D->Nat
 | []=>0
 |d::r=>(match h1 d δb μ with
  |none=>1
  |some δ1=>match fi2 δ1 μ with
   |none=>1
   |some q=>q.1.items.length+2)+nu μ h1 fi2 δb r
theorem Eg{μ:Mu}{h1:GF}{fi2:IF}{δb:En}{d:D}{r:List D}:nu μ h1 fi2 δb r<nu μ h1 fi2 δb (d::r):=by
 have:∀n m:Nat,1<=m->n<m+n:=λn m h=>by omega
 conv=>rhs;unfold nu
 refine this _ _ ?_
 cases h1 d δb μ with
 |none=>exact Zg _
 |some δ1=>
  show 1<=match fi2 δ1 μ with|none=>1|some q=>q.1.items.length+2
  cases fi2 δ1 μ with
  |none=>exact Zg _
  |some q=>exact Nat.le_add_left _ _
theorem Je{μ:Mu}{h1:GF}{fi2:IF}{δb δ1:En}{d:D}{r:List D}{q:Src×Mu}(e1:h1 d δb μ=some δ1)(e2:fi2 δ1 μ=some q):nu μ h1 fi2 δb (d::r)=q.1.items.length+2+nu μ h1 fi2 δb r:=by
 conv=>lhs;unfold nu
 rw[e1]
 simp only
 rw[e2]
theorem uG{K:PySem.W.Frag}{own:List Str}{capI:List Nat}{σ:SV}{δb:En}{ts1 ts2:List Nat}{h1 h2:GF}{tt1 tt2:TF}{fi2:IF}{fe:EF}{W1:Wd}{S:Src}{J:It}(io:qu K tb J S W1)(hS:S.cel=none)(hb:gA K tb W1 δb (bz own σ capI))
  (hts1:∀i∈ts1,i<own.length) (hts2:∀i∈ts2,i<own.length) (hdj:∀i∈ts2,i∉ts1) {Y:V->Nat->L2.St->It->Nat->Hp->Prop} {E:Hp->Prop} {W:Wd} {rest:List cR} (l0:Le tb W1 W)
  (hY:∀th us,rest=th::us->∃d,th W1.mu=some (d,W1.mu)/\∀v i σ1 J2 j W',Le tb W W'->WOk K tb W'->W'.mu=W1.mu->Den K tb W' d v->
   (i<=S.items.length/\∃δ1 S2 W0 us' vs,Le tb W0 W'/\qu K tb J2 S2 W0/\S2.cel=none/\gA K tb W' δ1 σ1/\(∀i,i∉ts1->σ1[i]? =(bz own σ capI)[i]?)/\jH W1.mu h2 tt2 fe δ1 (S2.items.drop j)=some us'/\iG W1.mu h1 tt1 fi2 h2 tt2 fe δb (S.items.drop i)=some vs/\us=us'++vs)->Y v i σ1 J2 j W'.H)
  (hE:rest=[]->∀W',Le tb W W'->WOk K tb W'->W'.mu=W1.mu->E W'.H):
  Two J (tDG K tb ts1 h1) (tDG K tb ts2 h2) (tDT K tb tt1) (tDT K tb tt2) (tDI K tb fi2) (tD K tb fe) (bz own σ capI) Y E
   (λi m H=>m=nu W1.mu h1 fi2 δb (S.items.drop i)/\i<=S.items.length/\∃W',W'.H=H/\Le tb W W'/\WOk K tb W'/\W'.mu=W1.mu/\iG W1.mu h1 tt1 fi2 h2 tt2 fe δb (S.items.drop i)=some rest)
   (λi σ1 J2 j m H=>i<=S.items.length/\∃W' δ1 S2 W0 us vs,W'.H=H/\Le tb W W'/\WOk K tb W'/\W'.mu=W1.mu/\m=nu W1.mu h1 fi2 δb (S.items.drop i)+1+(S2.items.length-j)/\Le tb W0 W'/\qu K tb J2 S2 W0/\S2.cel=none/\gA K tb W' δ1 σ1/\(∀i,i∉ts1->σ1[i]? =(bz own σ capI)[i]?)/\
    jH W1.mu h2 tt2 fe δ1 (S2.items.drop j)=some us/\iG W1.mu h1 tt1 fi2 h2 tt2 fe δb (S.items.drop i)=some vs/\rest=us++vs) where
 out:=by
  rintro i m H ⟨rfl,hi,W',rfl,l,ok,hm,hp⟩
  by_cases hlt:i<S.items.length
  .right
   have hdr:S.items.drop i=S.items[i]::S.items.drop (i+1):=List.drop_eq_getElem_cons hlt
   rw[hdr]at hp ⊢
   unfold iG at hp
   obtain⟨δ1,e1,hp⟩:=Za.mp hp
   obtain⟨⟨kk,μ4⟩,e2,hp⟩:=Za.mp hp
   split at hp
   .rename_i hk4
    have hk4':μ4=W1.mu:=hk4
    subst hk4'
    obtain⟨go,yl⟩:=io.go i W' S.items[i] (l0.trans l) ok (Src.bL hS) (by simp[hlt])
    refine⟨go,λx H' y=>?_⟩
    obtain⟨W3,rfl,ok3,l3,m3,d3⟩:=yl x H' y
    refine⟨W3,δb,S.items[i],δ1,rfl,ok3,hb.mono' ((l0.trans l).trans l3),d3,(by rw[m3,hm];exact e1),λσ3 d3' hl3 ht3=>⟨fits_of hts1 hl3 ht3,?_⟩⟩
    refine⟨W3,δ1,kk,W1.mu,rfl,ok3,d3',(by rw[m3,hm];exact e2),λW4 ok4 l4 m4=>?_⟩
    cases kk with
    |false=>
     rw[if_neg Zr]
     exact⟨_,Eg,rfl,hlt,W4,rfl,(l.trans l3).trans l4,ok4,m4,by simpa using hp⟩
    |true=>
     rw[if_pos rfl]
     simp only[if_true]at hp
     obtain⟨⟨S2,μ5⟩,e3,hp⟩:=Za.mp hp
     split at hp
     .rename_i hk5
      have hk5':μ5=W1.mu:=hk5.1
      subst hk5'
      obtain⟨us,e4,hp⟩:=Za.mp hp
      obtain⟨vs,e5,hp⟩:=Za.mp hp
      cases hp
      refine⟨W4,δ1,S2,W1.mu,rfl,ok4,d3'.mono' l4,(by rw[m4];exact e3),λJ2 W5 ok5 l5 m5 io2=>?_⟩
      refine⟨nu W1.mu h1 fi2 δb (S.items.drop (i+1))+1+(S2.items.length-0),?_,hlt,W5,δ1,S2,W5,us,vs,rfl,((l.trans l3).trans l4).trans l5,ok5,m5,rfl,Le.refl _,io2,hk5.2,(d3'.mono' l4).mono' l5,ht3,e4,e5,rfl⟩
      rw[Je e1 e3]
      show _<S2.items.length+2+_
      omega
     .cases hp
   .cases hp
  .left
   have hdr:S.items.drop i=[]:=List.drop_of_length_le (by omega)
   rw[hdr]at hp
   unfold iG at hp
   cases hp
   exact⟨io.stop i W' (l0.trans l) ok (Src.bL hS) (by omega),hE rfl W' l ok hm⟩
 inn:=by
  rintro i σ1 J2 j m H ⟨hi,W',δ1,S2,W0,us,vs,rfl,l,ok,hm,rfl,l2,io2,hc2,hd1,hs1,ep,eo,hr⟩
  by_cases hlt:j<S2.items.length
  .right
   have hdr:S2.items.drop j=S2.items[j]::S2.items.drop (j+1):=List.drop_eq_getElem_cons hlt
   rw[hdr]at ep
   unfold jH at ep
   obtain⟨δ2,e1,ep⟩:=Za.mp ep
   obtain⟨⟨kk,μ4⟩,e2,ep⟩:=Za.mp ep
   split at ep
   .rename_i hk4
    have hk4':μ4=W1.mu:=hk4
    subst hk4'
    obtain⟨us',e3,ep⟩:=Za.mp ep
    obtain⟨go,yl⟩:=io2.go j W' S2.items[j] l2 ok (Src.bL hc2) (by simp[hlt])
    refine⟨go,λx H' y=>?_⟩
    obtain⟨W3,rfl,ok3,l3,m3,d3⟩:=yl x H' y
    refine⟨W3,δ1,S2.items[j],δ2,rfl,ok3,hd1.mono' l3,d3,(by rw[m3,hm];exact e1),λσ3 d3' hl3 ht3=>⟨Gf hts2 hdj hs1 hl3 ht3,?_⟩⟩
    refine⟨W3,δ2,kk,W1.mu,rfl,ok3,d3',(by rw[m3,hm];exact e2),λW4 ok4 l4 m4=>?_⟩
    cases kk with
    |false=>
     rw[if_neg Zr]
     have ep':us'=us:=by simpa using ep
     subst ep'
     exact⟨_,by omega,hi,W4,δ1,S2,W0,us',vs,rfl,(l.trans l3).trans l4,ok4,m4,rfl,(l2.trans l3).trans l4,io2,hc2,(hd1.mono' l3).mono' l4,hs1,e3,eo,hr⟩
    |true=>
     rw[if_pos rfl]
     have ep':thP W1.mu fe δ2::us'=us:=by simpa using ep
     subst ep'
     obtain⟨d,ed,hy⟩:=hY _ (us'++vs) hr
     obtain⟨_,_,ef⟩:=zZ ed
     refine⟨W4,δ2,d,W1.mu,rfl,ok4,d3'.mono' l4,(by rw[m4];exact ef),λv W5 ok5 l5 m5 d5=>?_⟩
     exact hy v i σ1 J2 (j+1) W5 (((l.trans l3).trans l4).trans l5) ok5 m5 d5 ⟨hi,δ1,S2,W0,us',vs,((l2.trans l3).trans l4).trans l5,io2,hc2,((hd1.mono' l3).mono' l4).mono' l5,hs1,e3,eo,rfl⟩
   .cases ep
  .left
   have hdr:S2.items.drop j=[]:=List.drop_of_length_le (by omega)
   rw[hdr]at ep
   unfold jH at ep
   cases ep
   rw[List.nil_append]at hr
   subst hr
   exact⟨io2.stop j W' l2 ok (Src.bL hc2) (by omega),_,by omega,rfl,hi,W',rfl,l,ok,hm,eo⟩
theorem zj{fi1 fi2:IF}{h1 h2:GF}{tt1 tt2:TF}{fe:EF}{own cap:List Str}{capI ts1 ts2:List Nat}{scope:Scope}{P:Addr}{kr:Nat}(hc:X.calm=true)(hr:cL kr X.A)(B:eY X own cap capI scope)(hown:∀x∈own,(x,NameKind.free)∉scope.names)(hnc:∀y∈scope.names,y.2≠ .cell)
  (hP:P∈tb) (htb:∃c,X.env.code= .ref c/\PySem.W.CodeHd X.base c P) (hi1:PID X tb t1 i1 fi1)
  (hg1:∀AG cs C code fp s2 H2,PGD (gF X AG own cap scope cs C code fp s2 H2) tb t1 ts1 h1)
  (ht1:∀AG cs C code fp s2 H2,(∀k,cL (k+1) X.A->cL k AG)->Gu (gF X AG own cap scope cs C code fp s2 H2) tb f1 tt1)
  (hi2:∀AG cs C code fp s2 H2,(∀k,cL (k+1) X.A->cL k AG)->PID (gF X AG own cap scope cs C code fp s2 H2) tb t2 i2 fi2)
  (hg2:∀AG cs C code fp s2 H2,PGD (gF X AG own cap scope cs C code fp s2 H2) tb t2 ts2 h2)
  (ht2:∀AG cs C code fp s2 H2,(∀k,cL (k+1) X.A->cL k AG)->Gu (gF X AG own cap scope cs C code fp s2 H2) tb f2 tt2)
  (he:∀AG cs C code fp s2 H2,(∀k,cL (k+1) X.A->cL k AG)->PD (gF X AG own cap scope cs C code fp s2 H2) tb elt fe)
  (hts1:∀i∈ts1,i<own.length:=by decide) (hts2:∀i∈ts2,i<own.length:=by decide) (hdj:∀i∈ts2,i∉ts1:=by decide) (h0:scope.names.lookup (".0":Str)=some NameKind.local:=by rfl) (hco:scope.isCoroutine=false:=by rfl)
  (hs:∀x,genFold i1 X.env x=pure x:=by intro _;rfl) (hs2:∀env x,foldedSetIterable i2 env x=pure x:=by intro _ _;rfl):
  zV X tb (.GeneratorExp elt [⟨t1,i1,f1,0⟩,⟨t2,i2,f2,0⟩] scope pos) (vX own capI fi1 h1 tt1 fi2 h2 tt2 fe):=
 xg (BW (g1:=tDG X.K tb ts1 h1) (g2:=tDG X.K tb ts2 h2) (tt1:=tDT X.K tb tt1) (tt2:=tDT X.K tb tt2) (wi2:=tDI X.K tb fi2) (te:=tD X.K tb fe) hc hr B hown hnc h0 hco htb hi1 hg1 ht1 hi2 hg2 ht2 he hs hs2) λσ H R zq2=>by
  obtain⟨W,δ,ths,μ',e,ok,hd,hf,k⟩:=zq2
  unfold vX at hf
  obtain⟨⟨S,μ1⟩,e1,e2⟩:=Za.mp hf
  obtain⟨items,cel⟩:=S
  cases cel with
  |some n=>cases e2
  |none=>
   simp only at e2
   obtain⟨ths',e2,e3⟩:=Za.mp e2
   cases e3
   refine⟨W,δ,⟨items,none⟩,μ',e,ok,hd,e1,λJ W1 ok1 l1 m1 io=>?_⟩
   subst m1
   obtain⟨ps,ep,tp⟩:=ok1.tab P hP
   refine⟨ps,ep,tp,λlo H2 ps' hG=>?_⟩
   obtain⟨ok2,l2⟩:=ok1.tbl hP ep hG
   generalize hW2:(⟨H2,W1.ad,W1.mu⟩:Wd)=W2 at ok2 l2
   have mW:W2.mu=W1.mu:=by rw[<-hW2]
   have hH2:W2.H=H2:=by rw[<-hW2]
   have io2:qu X.K tb J ⟨items,none⟩ W2:=⟨λi W d l=>io.go i W d (l2.trans l),λi W l=>io.stop i W (l2.trans l)⟩
   have hb2:gA X.K tb W2 (bU own δ capI) (bz own σ capI):=(qF hd).mono' (l1.trans l2)
   rw[<-mW]at e2
   refine⟨λn st H=>∃V,V.H=H/\Ex X.K tb W2 ⟨items,none⟩ h1 tt1 fi2 h2 tt2 fe (bU own δ capI) (bz own σ capI) ts1 n ths st V,⟨W2,hH2,ok2,Le.refl _,rfl,rfl,e2⟩,?_⟩
   rw[<-hH2]
   refine k _ W2 ok2 (l1.trans l2) mW ⟨?_,?_⟩
   .intro n W3 th d μ3 Q l3 ok3 e3 e4 hQ st hst
    obtain⟨V,hVH,okV,lV,mV,hst⟩:=hst
    obtain⟨δt,rfl⟩:=mG e2 th (List.mem_of_getElem? e3)
    obtain⟨m3,rfl,ef⟩:=zZ e4
    obtain rfl:V=W3:=KR ok2 ok3 okV l3 lV m3 mV hVH
    have hlt:n<ths.length:=(Zh.mp e3).1
    have hdr:ths.drop n=thP W2.mu fe δt::ths.drop (n+1):=by
     rw[List.drop_eq_getElem_cons hlt,(Zh.mp e3).2]
    have hY:∀th us,ths.drop n=th::us->∃d,th W2.mu=some (d,W2.mu)/\∀v i σ1 J2 j W',Le tb V W'->WOk X.K tb W'->W'.mu=W2.mu->Den X.K tb W' d v->
      (i<=items.length/\∃δ1 S2 W0 us' vs,Le tb W0 W'/\qu X.K tb J2 S2 W0/\S2.cel=none/\gA X.K tb W' δ1 σ1/\(∀i,i∉ts1->σ1[i]? =(bz own σ capI)[i]?)/\jH W2.mu h2 tt2 fe δ1 (S2.items.drop j)=some us'/\iG W2.mu h1 tt1 fi2 h2 tt2 fe (bU own δ capI) (items.drop i)=some vs/\us=us'++vs)->
      (Q v W'.H/\∃V,V.H=W'.H/\Ex X.K tb W2 ⟨items,none⟩ h1 tt1 fi2 h2 tt2 fe (bU own δ capI) (bz own σ capI) ts1 (n+1) ths (some (i,σ1,J2,j)) V):=λth us he=>by
     rw[hdr]at he
     cases he
     refine⟨d,by rw[m3]at e4;exact e4,λv i σ1 J2 j W' lW okW mW' dW ⟨hi,δ1,S2,W0,us',vs,q1,q2,q3,q4,q5,q6,q7,q8⟩=>⟨hQ v W' okW lW mW' dW,W',rfl,okW,lV.trans lW,mW',hi,δ1,S2,W0,us',vs,q1,q2,q3,q4,q5,q6,q7,q8⟩⟩
    refine⟨_,_,uG io2 rfl hb2 hts1 hts2 hdj (W:=V) (rest:=ths.drop n) lV hY (λhe=>absurd he (by rw[hdr];simp)),?_⟩
    match st,hst with
    |none,⟨hn,hp⟩=>
     subst hn
     exact⟨_,rfl,Nat.zero_le _,V,rfl,Le.refl _,okV,mV,hp⟩
    |some (i,σ1,J2,j),⟨hi,δ1,S2,W0,us,vs,q1,q2,q3,q4,q5,q6,q7,q8⟩=>
     exact⟨_,hi,V,δ1,S2,W0,us,vs,rfl,Le.refl _,okV,mV,rfl,q1,q2,q3,q4,q5,q6,q7,q8⟩
   .refine⟨λμ=>μ=W2.mu,rfl,λth ht μ d μ'' hμ et=>?_,λn W3 Q l3 ok3 m3 hn hQ st hst=>?_⟩
    .obtain⟨δt,rfl⟩:=mG e2 th ht
     exact(zZ et).2.1
    .obtain⟨V,hVH,okV,lV,mV,hst⟩:=hst
     obtain rfl:V=W3:=KR ok2 ok3 okV l3 lV m3 mV hVH
     have hdr:ths.drop n=[]:=List.drop_of_length_le hn
     refine⟨_,_,uG (Y:=λ_ _ _ _ _ _=>False) (E:=Q) io2 rfl hb2 hts1 hts2 hdj (W:=V) (rest:=ths.drop n) lV (λth us he=>by rw[hdr]at he;cases he) (λ_ W' lW okW mW'=>hQ W' okW lW (mW'.trans m3.symm)),?_⟩
     match st,hst with
     |none,⟨hn,hp⟩=>
      subst hn
      exact⟨_,rfl,Nat.zero_le _,V,rfl,Le.refl _,okV,mV,hp⟩
     |some (i,σ1,J2,j),⟨hi,δ1,S2,W0,us,vs,q1,q2,q3,q4,q5,q6,q7,q8⟩=>
      exact⟨_,hi,V,δ1,S2,W0,us,vs,rfl,Le.refl _,okV,mV,rfl,q1,q2,q3,q4,q5,q6,q7,q8⟩
end
def Kq(o:Option D)(i:Nat)(δ:En)(μ:Mu):Option (En×Mu):=match o with
 |some (.cell n)=>(μ.getD n none).map λds=>(δ.set i (some (.lst ds)),μ.set n none)
 |_=>some (δ,μ)
def Fo(i:Nat)(g:SF):SF:=λδ μ=>(Kq (δ.getD i none) i δ μ).bind λq=>g q.1 q.2
@[simp] theorem QM{n i:Nat}{δ:En}{μ:Mu}:Kq (some (.cell n)) i δ μ=(μ.getD n none).map λds=>(δ.set i (some (.lst ds)),μ.set n none):=rfl
@[simp] theorem w_fzv{i:Nat}{g:SF}{δ:En}{μ:Mu}:Fo i g δ μ=(Kq (δ.getD i none) i δ μ).bind λq=>g q.1 q.2:=rfl
theorem Bf{X:Cx}{tb:List Addr}{st:Stmt}{g:SF}{i:Nat}(h:PSD X tb st g):PSD X tb st (Fo i g):=lB h λE σ H z=>by
 obtain⟨W,δ,fl,δ',μ',e,ok,hd,hf,k⟩:=z
 unfold Fo at hf
 obtain⟨⟨δ2,μ2⟩,e2,hf⟩:=Za.mp hf
 unfold Kq at e2
 split at e2
 .rename_i n hn
  obtain⟨ds,e3,e4⟩:=Zp.mp e2
  cases e4
  have hi:δ[i]? =some (some (.cell n)):=by
   rw[List.getD_eq_getElem?_getD]at hn
   cases q:δ[i]? with
   |none=>rw[q]at hn;cases hn
   |some z=>rw[q]at hn;exact congrArg some hn
  obtain⟨v,ev,dv⟩:=hd.2 i _ hi
  obtain⟨a,rfl,ea⟩:=gj dv
  have em:W.mu[n]? =some (some ds):=by
   rw[List.getD_eq_getElem?_getD]at e3
   cases q:W.mu[n]? with
   |none=>rw[q]at e3;cases e3
   |some z=>rw[q]at e3;exact congrArg some e3
  obtain⟨ok2,l2,d2⟩:=ok.freeze ea em
  have hs:=(hd.mono' l2).set (i:=i) d2
  have es:σ.set i (some (.ref a))=σ:=by
   apply List.ext_getElem?
   intro j
   by_cases hj:i=j
   .subst hj
    rw[List.getElem?_set_self (Zh.mp ev).1,ev]
   .rw[List.getElem?_set_ne hj]
  rw[es]at hs
  exact⟨⟨W.H,W.ad,W.mu.set n none⟩,_,fl,δ',μ',e,ok2,hs,hf,λσ' W' ok' l' m' d'=>k σ' W' ok' (l2.trans l') m' d'⟩
 .cases e2
  exact⟨W,δ,fl,δ',μ',e,ok,hd,hf,k⟩
end L3
set_option maxHeartbeats 4000000
namespace LG
open PySem PySem.Spec PyProof.Rows L2 L3
noncomputable def dY:SF:=bG (jR (M1 (ao 0) (iW "int")) (nA (M1 (ao 0) (iW "bool"))))
noncomputable def dq(bC:FF):SF:=bG (jR (M1 (ao 0) (iW "tuple")) (wM (qd ["part"] [] (cV (ao 0)) (hName 0) (MC (aa (ao 0) (au)) bC))))
noncomputable def iz:SF:=aW (bJ 2 (M2 (M2 (M2 (M2 (M2 (ao 0) (mC (.int 2147483647)) oMod) (mC (.int 48271)) cB) (M2 (M2 (mC (.int 7919)) (ao 1) cB) (ao 1) cB) bc) (mC (.int 104729)) bc) (mC (.int 2147483647)) oMod)) (bG (M2 (M2 (ao 2) (ao 2) cB) (mC (.int 2147483629)) oMod))
noncomputable def lF(bw:FF):SF:=aW (bJ 1 (oG (oR (au)))) (aW (jw (bV (aa (MC (aa (MC (aa (ao 0) (au)) (bh dO)) (aa (mC (.int 63)) (au))) (mx rD)) (au))) (hName 2) (aW (bJ 3 (MC (aa (M2 (ao 0) (ao 2) oIx) (au)) (bh nM))) (aW (sIf (toB (M2 (ao 3) (M2 (mC (.int 10)) (mC (.int 18)) xV) oLt)) (jw (bV (aa (mC (.int 12)) (au))) (hName 4) (dB (fU (ao 1) (aa (MC (aa (MC (aa (ao 3) (aa (M2 (M2 (mC (.int 3)) (ao 4) cB) (mC (.int 1)) bc) (au))) bw) (aa (M2 (M2 (ao 4) (ao 2) bc) (mC (.int 2)) bc) (au))) bw) (au))))) (bR)) (aW (lL (lK (toB (M2 (ao 3) (M2 (mC (.int 10)) (mC (.int 18)) xV) oGe)) (toB (M2 (MC (aa (ao 1) (au)) (bh dO)) (mC (.int 900)) oLt))) (aW (dB (fU (ao 1) (aa (M2 (ao 3) (mC (.int 2147483629)) oMod) (au)))) (bJ 3 (M2 (ao 3) (mC (.int 2147483629)) oDiv)))) (sIf (toB (M2 (ao 3) (mC (.int 2147483629)) oGe)) (dB (fU (ao 1) (aa (M2 (ao 3) (mC (.int 2147483629)) oMod) (au)))) (bR)))))) (bG (ao 1)))
noncomputable def kO:SF:=aW (sIf (toB (M2 (ao 0) (MC (au) oLst) oEq)) (bG (mC (.int 0))) (bR)) (bG (Aj (ao 0)))
noncomputable def pU:SF:=aW (lL (toB (M2 (ao 1) (mC (.int 0)) oNe)) (Cq 0 1 (aa (ao 1) (aa (M2 (ao 0) (ao 1) oMod) (au))))) (bG (MC (aa (ao 0) (au)) (bh nM)))
noncomputable def il(jB:FF):SF:=aW (bJ 2 (ao 1)) (aW (jw (cV (ao 0)) (hName 3) (bJ 2 (MC (aa (ao 2) (aa (ao 3) (au))) jB))) (aW (sIf (toB (M2 (ao 1) (mC (.int 0)) oLt)) (bJ 2 (M2 (mC (.int 0)) (MC (aa (ao 2) (au)) (bh nM)) dU)) (bR)) (bG (M2 (MC (aa (mFz (lLC ["_law_number"] [2] (cV (ao 0)) (hName 0) (aR) (M2 (ao 0) (ao 1) oDiv))) (au)) dD) (MC (aa (M2 (ao 1) (ao 2) oDiv) (au)) oTup) bc))))
noncomputable def my:SF:=bG (jR (M1 (ao 0) (iW "int")) (nA (M1 (ao 0) (iW "bool"))))
noncomputable def mH:SF:=bG (jR (M1 (ao 0) (iW "bool")) (M2 (ao 0) (ao 1) oEq))
noncomputable def Bh(φ_Lput φ_Lodd:FF):SF:=aW (bJ 2 (M2 (M2 (ao 1) (mC (.int 16)) oDiv) (MC (aa (ao 0) (au)) (bh dO)) oMod)) (aW (bJ 3 (MC (aa (mSl (ao 0) (fNo) (fAt (M1 (mC (.int 1)) ju))) (aa (mSl (ao 0) (fAt (mC (.int 1))) (fNo)) (aa (M2 (ao 0) (MC (aa (mC (.int 1)) (au)) oTup) bc) (aa (M2 (ao 0) (MC (aa (mC (.int 0)) (au)) oTup) bc) (aa (mFz (lOf (aa (ao 0) (au)))) (aa (MC (aa (mFz (lLC ["_law_one"] [] (cV (ao 0)) (hName 0) (aR) (M2 (mC (.int 3)) (ao 0) cB))) (au)) dD) (aa (MC (aa (ao 0) (au)) oTup) (au)))))))) oLst)) (aW (bJ 3 (M2 (ao 3) (MC (aa (MC (aa (mFz (lLC ["_law_one"] [] (cV (ao 0)) (hName 0) (aR) (M2 (mC (.int 0)) (ao 0) dU))) (au)) dD) (aa (M2 (mSl (ao 0) (fNo) (fAt (M1 (mC (.int 1)) ju))) (MC (aa (mC (.int 0)) (au)) oTup) bc) (aa (M2 (mSl (ao 0) (fNo) (fAt (M1 (mC (.int 1)) ju))) (MC (aa (M2 (mC (.int 0)) (M2 (ao 0) (M1 (mC (.int 1)) ju) oIx) dU) (au)) oTup) bc) (aa (M2 (mSl (ao 0) (fNo) (fAt (M1 (mC (.int 1)) ju))) (MC (aa (mC (.bl true)) (au)) oTup) bc) (au))))) oLst) bc)) (aW (bJ 3 (M2 (ao 3) (MC (aa (MC (aa (mFz (lLC ["_law_one"] [] (cV (ao 0)) (hName 0) (aR) (M2 (mC (.int 2)) (ao 0) cB))) (au)) dD) (aa (Ea (ao 0)) (aa (MC (aa (mFz (lLC ["_law_one"] [0] (cV (ao 0)) (hName 0) (aR) (M2 (M2 (ao 1) (M1 (mC (.int 1)) ju) oIx) (ao 0) cB))) (au)) dD) (au)))) oLst) bc)) (bG (M2 (M2 (ao 3) (MC (aa (MC (aa (ao 0) (aa (ao 2) (aa (MC (aa (M2 (ao 1) (mC (.int 64)) oDiv) (au)) φ_Lodd) (au)))) φ_Lput) (aa (MC (aa (ao 0) (aa (ao 2) (aa (M2 (ao 1) (mC (.int 64)) oDiv) (au)))) φ_Lput) (au))) oLst) bc) (M2 (ao 1) (mC (.int 16)) oMod) oIx)))))
noncomputable def fY:SF:=aW (sIf (toB (M2 (ao 1) (mC (.int 0)) oEq)) (bG (MC (aa (M2 (M2 (ao 0) (mC (.int 20001)) oMod) (mC (.int 10000)) dU) (aa (M2 (mC (.int 1)) (M2 (M2 (ao 0) (mC (.int 20001)) oDiv) (mC (.int 60)) oMod) bc) (au))) oTup)) (bR)) (aW (sIf (toB (M2 (ao 1) (mC (.int 1)) oEq)) (bG (MC (aa (M2 (M2 (ao 0) (mC (.int 5)) oMod) (mC (.int 2)) dU) (aa (mC (.int 1)) (au))) oTup)) (bR)) (aW (sIf (toB (M2 (ao 1) (mC (.int 2)) oEq)) (bG (MC (aa (M2 (M2 (ao 0) (mC (.int 11)) oMod) (mC (.int 5)) dU) (aa (M2 (mC (.int 1)) (M2 (M2 (ao 0) (mC (.int 11)) oDiv) (mC (.int 3)) oMod) bc) (au))) oTup)) (bR)) (aW (sIf (toB (M2 (ao 1) (mC (.int 3)) oEq)) (bG (MC (aa (M2 (ao 2) (M2 (MC (aa (mC (.int 0)) (aa (mC (.int 0)) (aa (mC (.int 1)) (aa (mC (.int 40)) (au))))) oLst) (M2 (ao 0) (mC (.int 4)) oMod) oIx) bc) (aa (mC (.int 1)) (au))) oTup)) (bR)) (bG (MC (aa (M2 (M2 (ao 0) (mC (.int 2)) oMod) (M2 (mC (.int 1)) (M2 (ao 2) (mC (.int 7)) oMod) bc) cB) (aa (mC (.int 1)) (au))) oTup)))))
noncomputable def jQ(bw gW bZ:FF):SF:=aW (bJ 4 (oG (oR (au)))) (aW (bJ 5 (mC (.int 1))) (aW (jw (bV (aa (ao 1) (au))) (hName 6) (aW (yJ (MC (aa (MC (aa (ao 0) (aa (M2 (ao 6) (mC (.int 1)) bc) (au))) bw) (aa (ao 2) (aa (M2 (ao 3) (ao 6) bc) (au)))) gW) (gn 2 (aY (hName 7) (aY (hName 8) (gq))))) (aW (sIf (toB (M2 (ao 6) (mC (.int 0)) oEq)) (bJ 5 (ao 8)) (bR)) (dB (fU (ao 4) (aa (ao 7) (au))))))) (bG (MC (aa (xM (ao 4)) (aa (ao 5) (au))) bZ))))
noncomputable def rC(φ_common_divisor:FF):SF:=aW (bJ 1 (MC (aa (ao 0) (au)) φ_common_divisor)) (bG (Eb (qd ["number"] [1] (cV (ao 0)) (hName 0) (M2 (ao 0) (ao 1) oDiv))))
noncomputable def bD:SF:=bG (nW (qd ["one","other"] [] (nq (aa (ao 0) (aa (ao 1) (au)))) (gn 2 (aY (hName 0) (aY (hName 1) (gq)))) (M2 (ao 0) (ao 1) cB)))
noncomputable def je(aU:FF):SF:=bG (mFz (lLC ["at"] [1,0] (bV (aa (MC (aa (M2 (ao 0) (mC (.int 0)) oIx) (au)) (bh dO)) (au))) (hName 0) (aR) (MC (aa (ao 1) (aa (mFz (lLC ["row"] [0] (cV (ao 2)) (hName 0) (aR) (M2 (ao 0) (ao 1) oIx))) (au))) aU)))
noncomputable def iJ:SF:=bG (jR (M1 (ao 1) (iW "tuple")) (M2 (MC (aa (ao 1) (au)) (bh dO)) (ao 0) oEq))
noncomputable def jd(cU cT bC:FF):SF:=aW (sIf (iM (mj (MC (aa (mC (.int 2)) (aa (ao 1) (au))) cU))) (bG (mC (.bl false))) (bR)) (aW (yJ (ao 1) (gn 2 (aY (hName 2) (aY (hName 3) (gq))))) (bG (jR (MC (aa (ao 2) (au)) cT) (jR (M2 (MC (aa (ao 2) (au)) (bh dO)) (ao 0) oEq) (MC (aa (ao 3) (au)) bC)))))
noncomputable def gD(aU:FF):SF:=aW (yJ (ao 0) (gn 2 (aY (hName 2) (aY (hName 3) (gq))))) (bG (M2 (MC (aa (ao 2) (aa (mSl (ao 1) (fNo) (fAt (M1 (mC (.int 1)) ju))) (au))) aU) (M2 (ao 3) (M2 (ao 1) (M1 (mC (.int 1)) ju) oIx) cB) oGt))
noncomputable def ik(gB:FF):SF:=aW (bJ 1 (MC (aa (mFz (lLC ["row","most"] [] (cV (ao 0)) (gn 2 (aY (hName 0) (aY (hName 1) (gq)))) (aR) (MC (ym (ao 0) (aa (ao 1) (au))) oTup))) (aa (M2 (MC (aa (mC (.int 1)) (au)) oLst) (MC (aa (ao 0) (au)) (bh dO)) cB) (au))) gB)) (bG (jR (nA (zu (gH (mSl (ao 1) (fNo) (fAt (M1 (mC (.int 1)) ju)))))) (M2 (M2 (ao 1) (M1 (mC (.int 1)) ju) oIx) (mC (.int 0)) oLt)))
noncomputable def fD(cU gw fQ eF:FF):SF:=aW (bJ 3 (M2 (MC (aa (M2 (ao 0) (mC (.int 0)) oIx) (au)) (bh dO)) (mC (.int 1)) dU)) (aW (sIf (qm (iM (mj (MC (aa (MC (aa (ao 1) (au)) (bh dO)) (aa (ao 2) (au))) cU))) (iM (mj (wM (qd ["side"] [3] (cV (ao 2)) (hName 0) (MC (aa (ao 1) (aa (ao 0) (au))) gw)))))) (bG (mC (.bl false))) (bR)) (aW (sIf (iM (mj (MC (aa (ao 2) (au)) fQ))) (bG (mC (.bl false))) (bR)) (bG (nA (zu (vX ["group","side","k"] [0] (nq (aa (ao 1) (aa (ao 2) (au)))) (gn 2 (aY (hName 0) (aY (hName 1) (gq)))) (aR) (cV (ao 0)) (hName 2) (aR) (MC (aa (ao 1) (aa (M2 (ao 3) (ao 2) oIx) (au))) eF)))))))
noncomputable def xT(φ_Larrow_mix φ_mix_of φ_Lsame:FF):SF:=aW (bJ 2 (MC (aa (ao 0) (aa (ao 1) (au))) φ_Larrow_mix)) (aW (bJ 3 (MC (aa (mFz (lLC ["_law_k","_law_share"] [] (cV (ao 1)) (gn 2 (aY (hName 0) (aY (hName 1) (gq)))) (aR) (MC (aa (ao 0) (aa (M2 (mC (.int 12)) (ao 1) cB) (au))) oTup))) (au)) dD)) (bG (jR (MC (aa (MK (au) (aa (ao 0) (aa (ao 1) (au))) [0,1] φ_mix_of) (aa (ao 2) (au))) φ_Lsame) (MC (aa (MC (aa (ao 0) (aa (ao 3) (au))) φ_mix_of) (aa (ao 2) (au))) φ_Lsame))))
noncomputable def pK:SF:=bG (MC (aa (nW (gH (mFz (lLC ["_law_one","_law_other"] [] (nq (aa (ao 0) (aa (ao 1) (au)))) (gn 2 (aY (hName 0) (aY (hName 1) (gq)))) (aR) (M2 (ao 0) (ao 1) cB))))) (aa (M2 (ao 1) (M1 (mC (.int 1)) ju) oIx) (au))) oTup)
noncomputable def jO:SF:=bG (M2 (M2 (M2 (ao 0) (mC (.int 0)) oIx) (M2 (ao 1) (mC (.int 1)) oIx) cB) (M2 (M2 (ao 1) (mC (.int 0)) oIx) (M2 (ao 0) (mC (.int 1)) oIx) cB) oLt)
noncomputable def ie(fV:FF):SF:=aW (sIf (qm (iM (mj (M1 (ao 1) (iW "tuple")))) (qm (toB (M2 (MC (aa (ao 1) (au)) (bh dO)) (mC (.int 2)) oNe)) (iM (mj (MC (aa (M2 (ao 1) (mC (.int 1)) oIx) (au)) fV))))) (bG (mC (.bl false))) (bR)) (aW (sIf (qm (iM (mj (M1 (M2 (ao 1) (mC (.int 0)) oIx) (iW "tuple")))) (toB (M2 (MC (aa (M2 (ao 1) (mC (.int 0)) oIx) (au)) (bh dO)) (ao 0) oNe))) (bG (mC (.bl false))) (bR)) (bG (wM (gH (mFz (lLC ["_law_number"] [] (cV (M2 (ao 1) (mC (.int 0)) oIx)) (hName 0) (aR) (MC (aa (ao 0) (au)) fV)))))))
noncomputable def jJ(cZ fu:FF):SF:=bG (nA (zu (gH (mFz (lLC ["_law_spot_here"] [0] (cV (ao 1)) (hName 0) (aR) (MC (aa (MC (aa (M2 (ao 1) (mC (.int 1)) oIx) (aa (mC (.int 1)) (au))) oTup) (aa (MC (aa (M2 (ao 1) (mC (.int 0)) oIx) (aa (ao 0) (au))) cZ) (au))) fu))))))
noncomputable def qL(cZ:FF):SF:=aW (bJ 2 (mFz (lLC ["_law_spot_here"] [0] (cV (ao 1)) (hName 0) (aR) (MC (aa (ao 1) (aa (ao 0) (au))) cZ)))) (bG (MC (aa (mFz (lLC ["_law_top","_law_bottom"] [] (cV (ao 2)) (gn 2 (aY (hName 0) (aY (hName 1) (gq)))) (aR) (M2 (mC (.int 0)) (M2 (M2 (mC (.int 0)) (ao 0) dU) (ao 1) oDiv) dU))) (au)) (bh tu)))
noncomputable def Ab(bQ bw:FF):SF:=aW (bJ 2 (MC (aa (ao 0) (au)) bQ)) (aW (bJ 3 (M2 (MC (aa (mC (.int 2)) (aa (mC (.int 5)) (aa (mC (.int 1000)) (aa (mC (.int 1000000)) (au))))) oLst) (M2 (ao 2) (mC (.int 4)) oMod) oIx)) (bG (MC (aa (mFz (lLC ["_law_k"] [2,3] (bV (aa (ao 1) (au))) (hName 0) (aR) (M2 (M2 (MC (aa (M2 (ao 1) (mC (.int 4)) oDiv) (aa (M2 (ao 0) (mC (.int 1)) bc) (au))) bw) (M2 (M2 (mC (.int 2)) (ao 2) cB) (mC (.int 1)) bc) oMod) (ao 2) dU))) (au)) dD)))
noncomputable def nY:SF:=bG (MC (aa (nW (gH (mFz (lLC ["_law_one","_law_other"] [] (nq (aa (ao 0) (aa (ao 1) (au)))) (gn 2 (aY (hName 0) (aY (hName 1) (gq)))) (aR) (M2 (ao 0) (ao 1) cB))))) (aa (M2 (ao 1) (M1 (mC (.int 1)) ju) oIx) (au))) oTup)
noncomputable def jD(cZ fu:FF):SF:=bG (nA (zu (gH (mFz (lLC ["_law_spot"] [0] (cV (ao 1)) (hName 0) (aR) (MC (aa (MC (aa (M2 (ao 1) (mC (.int 1)) oIx) (aa (mC (.int 1)) (au))) oTup) (aa (MC (aa (M2 (ao 1) (mC (.int 0)) oIx) (aa (ao 0) (au))) cZ) (au))) fu))))))
noncomputable def gR(cZ:FF):SF:=aW (bJ 2 (mFz (lLC ["_law_spot"] [0] (cV (ao 1)) (hName 0) (aR) (MC (aa (ao 1) (aa (ao 0) (au))) cZ)))) (bG (MC (aa (mFz (lLC ["_law_top","_law_bottom"] [] (cV (ao 2)) (gn 2 (aY (hName 0) (aY (hName 1) (gq)))) (aR) (M2 (mC (.int 0)) (M2 (M2 (mC (.int 0)) (ao 0) dU) (ao 1) oDiv) dU))) (au)) (bh tu)))
noncomputable def jn(fP fO:FF):SF:=aW (bJ 3 (M2 (MC (aa (M2 (ao 0) (mC (.int 0)) oIx) (au)) (bh dO)) (mC (.int 1)) dU)) (aW (sIf (qm (iM (mj (M1 (ao 2) (iW "tuple")))) (toB (M2 (MC (aa (ao 2) (au)) (bh dO)) (MC (aa (ao 1) (au)) (bh dO)) oNe))) (bG (mC (.bl false))) (bR)) (aW (sIf (qm (iM (mj (wM (gH (mFz (lLC ["_law_pair"] [3] (cV (ao 2)) (hName 0) (aR) (MC (aa (ao 1) (aa (ao 0) (au))) fP))))))) (toB (M2 (nW (gH (mFz (lLC ["_law_pair"] [] (cV (ao 2)) (hName 0) (aR) (M2 (ao 0) (mC (.int 1)) oIx))))) (mC (.int 0)) oGe))) (bG (mC (.bl false))) (bR)) (aW (jw (bV (aa (ao 3) (au))) (hName 4) (sIf (toB (M2 (nW (gH (mFz (lLC ["_law_pair"] [4] (cV (ao 2)) (hName 0) (aR) (M2 (M2 (ao 0) (mC (.int 0)) oIx) (ao 1) oIx))))) (mC (.int 0)) oNe)) (bG (mC (.bl false))) (bR))) (bG (wM (gH (mFz (lLC ["_law_group","_law_pair"] [0] (nq (aa (ao 1) (aa (ao 2) (au)))) (gn 2 (aY (hName 0) (aY (hName 1) (gq)))) (aR) (MC (aa (ao 1) (aa (mFz (lLC ["_law_k"] [2] (cV (ao 0)) (hName 0) (aR) (M2 (ao 1) (ao 0) oIx))) (au))) fO)))))))))
noncomputable def ji(bQ bw gK dX bZ:FF):SF:=aW (bJ 3 (oG (oR (au)))) (aW (jw (bV (aa (M2 (ao 2) (mC (.int 1)) dU) (au))) (hName 4) (dB (fU (ao 3) (aa (MC (aa (mFz (lLC ["_law_k"] [0] (bV (aa (ao 1) (au))) (hName 0) (aR) (M2 (M2 (MC (aa (ao 1) (au)) bQ) (mC (.int 5)) oMod) (mC (.int 2)) dU))) (au)) dD) (au))))) (aW (sIf (lK (toB (M2 (ao 3) (MC (au) oLst) vJ)) (toB (M2 (MC (aa (mFz (lLC ["_law_one"] [] (cV (M2 (ao 3) (mC (.int 0)) oIx)) (hName 0) (aR) (MC (aa (ao 0) (au)) (bh nM)))) (au)) (bh tu)) (mC (.int 0)) oEq))) (Hf (M2 (MC (aa (mC (.int 1)) (au)) oTup) (ao 1) cB) (ao 3) (mC (.int 0))) (bR)) (aW (dB (fU (ao 3) (aa (MC (aa (mFz (lLC ["_law_k"] [3] (bV (aa (ao 1) (au))) (hName 0) (aR) (M2 (mC (.int 0)) (nW (gH (mFz (lLC ["_law_row"] [0] (cV (ao 1)) (hName 0) (aR) (M2 (ao 0) (ao 1) oIx))))) dU))) (au)) dD) (au)))) (aW (bJ 5 (oG (oR (au)))) (aW (jw (cV (ao 3)) (hName 6) (aW (bJ 7 (MC (aa (ao 0) (au)) bQ)) (dB (fU (ao 5) (aa (mFz (lLC ["_law_j"] [7,1] (bV (aa (M2 (mC (.int 1)) (M2 (ao 7) (mC (.int 3)) oMod) bc) (au))) (hName 0) (aR) (MC (aa (MC (aa (ao 1) (aa (ao 0) (au))) bw) (aa (ao 2) (aa (mC (.int 2)) (aa (mC (.int 0)) (au))))) gK))) (au)))))) (aW (Fo 5 (Fo 3 (bJ 8 (nW (gH (mFz (lLC ["_law_row","_law_lot"] [] (nq (aa (ao 3) (aa (ao 5) (au)))) (gn 2 (aY (hName 0) (aY (hName 1) (gq)))) (aR) (MC (aa (ao 0) (aa (ao 1) (au))) dX)))))))) (aW (bJ 9 (nW (gH (mFz (lLC ["_law_row"] [] (cV (ao 3)) (hName 0) (aR) (nW (gH (mFz (lLC ["_law_one"] [] (cV (ao 0)) (hName 0) (aR) (M2 (ao 0) (ao 0) cB)))))))))) (aW (bJ 10 (M2 (M2 (M2 (MC (aa (mC (.int 0)) (aa (ao 8) (au))) (mx Fg)) (ao 9) oDiv) (mC (.int 1)) bc) (M2 (MC (aa (ao 0) (au)) bQ) (mC (.int 2)) oMod) bc)) (aW (Ag 11 12 13 (aa (MC (au) oLst) (aa (oG (oR (au))) (aa (oG (oR (au))) (au))))) (aW (jw (nq (aa (ao 3) (aa (ao 5) (au)))) (gn 2 (aY (hName 6) (aY (hName 14) (gq)))) (aW (bJ 15 (oG (oR (au)))) (aW (jw (cV (ao 14)) (hName 16) (dB (fU (ao 15) (aa (MC (aa (mFz (lLC ["_law_k"] [16,10,6] (bV (aa (ao 1) (au))) (hName 0) (aR) (M2 (M2 (ao 1) (ao 0) oIx) (M2 (M2 (ao 2) (M2 (ao 3) (ao 0) oIx) cB) (M2 (ao 1) (M1 (mC (.int 1)) ju) oIx) cB) dU))) (aa (M2 (ao 16) (M1 (mC (.int 1)) ju) oIx) (au))) bZ) (au))))) (aW (dB (fU (ao 12) (aa (qY (aa (MC (aa (ao 11) (au)) (bh dO)) (aa (M2 (MC (aa (ao 11) (au)) (bh dO)) (MC (aa (ao 15) (au)) (bh dO)) bc) (au)))) (au)))) (aW (bJ 11 (mFz (EY (ao 11) (ao 15)))) (dB (fU (ao 13) (aa (MC (aa (ao 6) (aa (MC (aa (ao 6) (aa (xM (ao 15)) (au))) dX) (au))) oTup) (au))))))))) (bG (MC (aa (ao 11) (aa (xM (ao 12)) (aa (MC (aa (xM (ao 13)) (au)) dD) (au)))) oTup))))))))))))
noncomputable def iB:SF:=aW (bJ 2 (M2 (M2 (ao 1) (mC (.int 14)) oDiv) (MC (aa (ao 0) (au)) (bh dO)) oMod)) (aW (yJ (M2 (ao 0) (ao 2) oIx) (gn 2 (aY (hName 3) (aY (hName 4) (gq))))) (aW (bJ 5 (M2 (M2 (ao 1) (mC (.int 70)) oDiv) (MC (aa (ao 3) (au)) (bh dO)) oMod)) (aW (bJ 6 (M2 (M2 (mSl (ao 3) (fNo) (fAt (ao 5))) (MC (aa (M2 (M2 (ao 3) (ao 5) oIx) (mC (.int 1)) bc) (au)) oTup) bc) (mSl (ao 3) (fAt (M2 (ao 5) (mC (.int 1)) bc)) (fNo)) bc)) (aW (bJ 7 (M2 (M2 (mSl (ao 3) (fNo) (fAt (ao 5))) (MC (aa (M2 (M2 (ao 3) (ao 5) oIx) (mC (.int 1)) dU) (au)) oTup) bc) (mSl (ao 3) (fAt (M2 (ao 5) (mC (.int 1)) bc)) (fNo)) bc)) (aW (bJ 8 (MC (aa (MC (aa (ao 6) (aa (ao 4) (au))) oTup) (aa (MC (aa (ao 7) (aa (ao 4) (au))) oTup) (aa (MC (aa (ao 3) (aa (M2 (ao 4) (mC (.int 1)) bc) (au))) oTup) (aa (MC (aa (ao 3) (aa (M2 (ao 4) (mC (.int 1)) dU) (au))) oTup) (aa (MC (aa (mFz (lOf (aa (ao 3) (au)))) (aa (ao 4) (au))) oTup) (aa (MC (aa (M2 (ao 3) (MC (aa (mC (.int 0)) (au)) oTup) bc) (aa (ao 4) (au))) oTup) (aa (MC (aa (ao 3) (aa (M2 (ao 4) (mC (.int 0)) oEq) (au))) oTup) (aa (MC (aa (ao 3) (aa (ao 4) (au))) oLst) (au))))))))) oLst)) (aW (bJ 9 (M2 (ao 1) (mC (.int 14)) oMod)) (aW (sIf (toB (M2 (ao 9) (mC (.int 8)) oLt)) (bG (M2 (M2 (mSl (ao 0) (fNo) (fAt (ao 2))) (MC (aa (M2 (ao 8) (ao 9) oIx) (au)) oTup) bc) (mSl (ao 0) (fAt (M2 (ao 2) (mC (.int 1)) bc)) (fNo)) bc)) (bR)) (aW (sIf (toB (M2 (ao 9) (mC (.int 8)) oEq)) (bG (M2 (mSl (ao 0) (fNo) (fAt (ao 2))) (mSl (ao 0) (fAt (M2 (ao 2) (mC (.int 1)) bc)) (fNo)) bc)) (bR)) (aW (sIf (toB (M2 (ao 9) (mC (.int 9)) oEq)) (bG (M2 (ao 0) (mSl (ao 0) (fNo) (fAt (mC (.int 1)))) bc)) (bR)) (aW (sIf (toB (M2 (ao 9) (mC (.int 10)) oEq)) (bG (Ea (ao 0))) (bR)) (aW (sIf (toB (M2 (ao 9) (mC (.int 11)) oEq)) (bG (mFz (lOf (aa (ao 0) (au))))) (bR)) (aW (sIf (toB (M2 (ao 9) (mC (.int 12)) oEq)) (bG (MC (aa (mFz (lLC ["_law_first","_law_last"] [] (cV (ao 0)) (gn 2 (aY (hName 0) (aY (hName 1) (gq)))) (aR) (MC (aa (MC (aa (mFz (lLC ["_law_one"] [] (cV (ao 0)) (hName 0) (aR) (M2 (mC (.int 2)) (ao 0) cB))) (au)) dD) (aa (M2 (mC (.int 2)) (ao 1) cB) (au))) oTup))) (au)) dD)) (bR)) (bG (MC (aa (mFz (lLC ["_law_first","_law_last"] [] (cV (ao 0)) (gn 2 (aY (hName 0) (aY (hName 1) (gq)))) (aR) (MC (aa (ao 0) (aa (M2 (ao 1) (mC (.int 1000)) bc) (au))) oTup))) (au)) dD))))))))))))))
noncomputable def lz(cI cF iH:FF):SF:=bG (MC (aa (MC (aa (ao 0) (aa (ao 1) (aa (ao 2) (au)))) cF) (aa (MC (aa (ao 0) (aa (ao 1) (aa (ao 2) (au)))) cI) (au))) iH)
noncomputable def pQ(gG bQ gC cI dN iD:FF):SF:=aW (bJ 1 (MC (aa (ao 0) (au)) gG)) (aW (jw (bV (aa (mC (.int 3)) (au))) (hName 2) (aW (yJ (MC (aa (ao 1) (aa (M2 (mC (.int 1)) (M2 (MC (aa (ao 1) (au)) bQ) (mC (.int 3)) oMod) bc) (aa (M2 (mC (.int 2)) (M2 (MC (aa (ao 1) (au)) bQ) (mC (.int 4)) oMod) bc) (au)))) gC) (gn 3 (aY (hName 3) (aY (hName 4) (aY (hName 5) (gq)))))) (aW (bJ 6 (mFz (lOf (aa (ao 3) (au))))) (aW (sIf (qm (iM (mj (MC (aa (ao 3) (aa (ao 4) (aa (ao 5) (au)))) cI))) (iM (mj (MC (aa (ao 3) (aa (ao 4) (aa (ao 5) (au)))) dN)))) (bG (mC (.bl false))) (bR)) (aW (jw (bV (aa (mC (.int 8)) (au))) (hName 7) (sIf (iM (mj (MC (aa (ao 3) (aa (ao 4) (aa (MC (aa (ao 5) (aa (MC (aa (ao 1) (au)) bQ) (au))) iD) (au)))) dN))) (bG (mC (.bl false))) (bR))) (aW (bJ 8 (MC (aa (M2 (ao 4) (mC (.int 0)) oIx) (au)) oLst)) (aW (sIf (qm (iM (mj (MC (aa (ao 3) (aa (ao 8) (aa (mSl (ao 5) (fNo) (fAt (mC (.int 1)))) (au)))) dN))) (iM (mj (MC (aa (ao 3) (aa (ao 8) (aa (MC (aa (MC (aa (M2 (MC (aa (mC (.int 0)) (au)) oTup) (M2 (MC (aa (M2 (ao 3) (mC (.int 0)) oIx) (au)) (bh dO)) (mC (.int 1)) dU) cB) (aa (M1 (mC (.int 1)) ju) (au))) oTup) (au)) oTup) (au)))) dN)))) (bG (mC (.bl false))) (bR)) (sIf (toB (M2 (ao 3) (ao 6) oNe)) (bG (mC (.bl false))) (bR))))))))) (bG (mC (.bl true))))
end LG
namespace Lk33
open PySem PySem.Spec PyProof.Rows L2 L3 LG
def top(i:Nat):Stmt:=PySem.Challenge.pw_heapsmeet_k33_apart_by_clauses.main.body.getD i (.Pass ⟨0,0,0,0⟩)
structure BI(K:PySem.W.Frag)(mg:Str->Option Value):Prop where
 b_abs:mg "abs"=none
 b_all:mg "all"=none
 b_any:mg "any"=none
 b_bool:mg "bool"=none
 b_int:mg "int"=none
 b_isinstance:mg "isinstance"=none
 b_len:mg "len"=none
 b_list:mg "list"=none
 b_max:mg "max"=none
 b_min:mg "min"=none
 b_range:mg "range"=none
 b_sum:mg "sum"=none
 b_tuple:mg "tuple"=none
 b_zip:mg "zip"=none
variable {P:Program} {w:World} {K:PySem.W.Frag} {mg:Str->Option Value} {base:Heap} {tb:List Addr} {f Tb:Addr} {fd:FuncData}
abbrev sY:Stmt:=top 13
theorem tY:bx ["_law_cell","_law_k","_law_number"] ["_law_cell","_law_k"] (aL sY):=⟨rfl,rfl,rfl,by decide +kernel,rfl,by decide +kernel,by decide +kernel⟩
theorem Cp(T:BI K mg)(F:gh K "_law_mixed" "_law_mixed" sY f fd Tb)(KB:K.In base)(hmg:mg "_law_mixed"=some (.ref f)):FI P w K mg base tb "_law_mixed" 2 (0+1) (aJ 3 (iz)):=
 dM F KB hmg tY rfl (λ_ _ _ _ _ _=>us2 λ_ _=>rfl) λc A outer s H E hcd hr=>by
  have nd:=tY.nd
  refine aD ?_ (aF (aK (aG dj (aG dZ (pdv 2) (pdv 2)) aA)))
  refine bA (i:=2) nd ?_
  refine aG dj ?_ aA
  refine aG bH ?_ aA
  exact aG bH (aG dZ (aG dj (pdv 0) aA) aA) (aG dZ (aG dZ aA (pdv 1)) (pdv 1))
abbrev rJ:Stmt:=top 14
theorem um:bx ["_law_script","_law_drawn","_law_k","_law_cell","_law_j"] ["_law_script"] (aL rJ):=⟨rfl,rfl,rfl,by decide +kernel,rfl,by decide +kernel,by decide +kernel⟩
theorem CW{bw:FF}(T:BI K mg)(F:gh K "_law_draws" "_law_draws" rJ f fd Tb)(KB:K.In base)(hmg:mg "_law_draws"=some (.ref f))(F_Lmixed:FI P w K mg base tb "_law_mixed" 2 1 bw):FI P w K mg base tb "_law_draws" 1 (1+1) (aJ 5 (lF bw)):=
 dM F KB hmg um rfl (λ_ _ _ _ _ _=>us1 λ_=>rfl) λc A outer s H E hcd hr=>by
  have nd:=um.nd
  refine aD (bA (i:=1) nd (km (jW aq))) ?_
  refine aD ?_ (aF (aK (pdv 1)))
  refine gP (ts:=[2]) PassesOwn.never rfl ?_ (aH (i:=2) nd) ?_
  refine cJ T.b_range ?_
  refine aj ?_ aq
  refine Kd rfl T.b_min ?_
  exact aj (eN T.b_len (aj (pdv 0) aq)) (aj aA aq)
  refine aD (bA (i:=3) nd (vZ T.b_abs (aj (cC (pdv 0) (pdv 2)) aq))) ?_
  refine aD ?_ ?_
  refine cj (bI ud (pdv 3) (aG GP aA aA)) ?_ bj
  refine aF ?_
  refine gP (ts:=[4]) PassesOwn.never rfl (cJ T.b_range (aj aA aq)) (aH (i:=4) nd) ?_
  refine aF ?_
  refine gb ?_
  refine fB (pdv 1) ?_
  refine aj ?_ aq
  refine aP F_Lmixed (hr.mono (by decide)) ?_ (aB (aB aQ))
  refine aj ?_ (aj (aG bH (aG bH (pdv 4) (pdv 2)) aA) aq)
  refine aP F_Lmixed (hr.mono (by decide)) ?_ (aB (aB aQ))
  exact aj (pdv 3) (aj (aG bH (aG dZ aA (pdv 4)) aA) aq)
  refine aD ?_ ?_
  refine uC PassesOwn.never ?_ ?_
  refine kY ?_
  exact Bk (bI Es (pdv 3) (aG GP aA aA)) (xK (bI ud (eN T.b_len (aj (pdv 1) aq)) aA))
  refine aD ?_ (aF (bA (i:=3) nd (aG lg (pdv 3) aA)))
  exact gb (fB (pdv 1) (aj (aG dj (pdv 3) aA) aq))
  refine aF ?_
  refine cj (bI Es (pdv 3) aA) ?_ bj
  refine aF ?_
  exact gb (fB (pdv 1) (aj (aG dj (pdv 3) aA) aq))
abbrev vf:Stmt:=top 15
theorem yD:bx ["_law_drawn"] ["_law_drawn"] (aL vf):=⟨rfl,rfl,rfl,by decide +kernel,rfl,by decide +kernel,by decide +kernel⟩
theorem Eu(T:BI K mg)(F:gh K "_law_next" "_law_next" vf f fd Tb)(KB:K.In base)(hmg:mg "_law_next"=some (.ref f)):FI P w K mg base tb "_law_next" 1 (0+1) (aJ 1 (kO)):=
 dM F KB hmg yD rfl (λ_ _ _ _ _ _=>us1 λ_=>rfl) λc A outer s H E hcd hr=>by
  have nd:=yD.nd
  refine aD ?_ (aF (aK (Jq (pdv 0))))
  exact cj (bI (iU hr) (pdv 0) (lE aq)) (aF (aK aA)) bj
abbrev sW:Stmt:=top 18
theorem ux:bx ["_law_number","_law_kind","_law_base"] ["_law_number","_law_kind","_law_base"] (aL sW):=⟨rfl,rfl,rfl,by decide +kernel,rfl,by decide +kernel,by decide +kernel⟩
theorem Cw(T:BI K mg)(F:gh K "_law_place" "_law_place" sW f fd Tb)(KB:K.In base)(hmg:mg "_law_place"=some (.ref f)):FI P w K mg base tb "_law_place" 3 (0+1) (aJ 3 (fY)):=
 dM F KB hmg ux rfl (λ_ _ _ _ _ _=>us3 λ_ _ _=>rfl) λc A outer s H E hcd hr=>by
  have nd:=ux.nd
  refine aD ?_ ?_
  refine cj (bI (iU hr) (pdv 1) aA) ?_ bj
  refine aF ?_
  refine aK ?_
  refine cg ?_
  refine aj (aG gk (aG dj (pdv 0) aA) aA) ?_
  exact aj (aG bH aA (aG dj (aG lg (pdv 0) aA) aA)) aq
  refine aD ?_ ?_
  refine cj (bI (iU hr) (pdv 1) aA) ?_ bj
  refine aF ?_
  refine aK ?_
  refine cg ?_
  exact aj (aG gk (aG dj (pdv 0) aA) aA) (aj aA aq)
  refine aD ?_ ?_
  refine cj (bI (iU hr) (pdv 1) aA) ?_ bj
  refine aF ?_
  refine aK ?_
  refine cg ?_
  refine aj (aG gk (aG dj (pdv 0) aA) aA) ?_
  exact aj (aG bH aA (aG dj (aG lg (pdv 0) aA) aA)) aq
  refine aD ?_ ?_
  refine cj (bI (iU hr) (pdv 1) aA) ?_ bj
  refine aF ?_
  refine aK ?_
  refine cg ?_
  refine aj ?_ (aj aA aq)
  refine aG bH (pdv 2) ?_
  refine cC ?_ (aG dj (pdv 0) aA)
  refine lE ?_
  exact aj aA (aj aA (aj aA (aj aA aq)))
  refine aF ?_
  refine aK ?_
  refine cg ?_
  refine aj ?_ (aj aA aq)
  exact aG dZ (aG dj (pdv 0) aA) (aG bH aA (aG dj (pdv 2) aA))
abbrev zJ:Stmt:=top 16
theorem Bc:bx ["_law_one","_law_other"] ["_law_one","_law_other"] (aL zJ):=⟨rfl,rfl,rfl,by decide +kernel,rfl,by decide +kernel,by decide +kernel⟩
theorem Kr(T:BI K mg)(F:gh K "_law_gcd" "_law_gcd" zJ f fd Tb)(KB:K.In base)(hmg:mg "_law_gcd"=some (.ref f)):FI P w K mg base tb "_law_gcd" 2 (0+1) (aJ 2 (pU)):=
 dM F KB hmg Bc rfl (λ_ _ _ _ _ _=>us2 λ_ _=>rfl) λc A outer s H E hcd hr=>by
  have nd:=Bc.nd
  refine aD ?_ (aF (aK (vZ T.b_abs (aj (pdv 0) aq))))
  refine uC PassesOwn.never (bI (uV hr) (pdv 1) aA) ?_
  refine aF ?_
  exact HR (i:=0) (j:=1) rfl nd (aj (pdv 1) (aj (aG dj (pdv 0) (pdv 1)) aq))
abbrev pM:Stmt:=top 17
theorem rB:bx ["_law_numbers","_law_bottom","_law_common","_law_number"] ["_law_numbers","_law_bottom"] (aL pM):=⟨rfl,rfl,rfl,by decide +kernel,rfl,by decide +kernel,by decide +kernel⟩
theorem yM{jB:FF}(T:BI K mg)(F:gh K "_law_lowest" "_law_lowest" pM f fd Tb)(KB:K.In base)(hmg:mg "_law_lowest"=some (.ref f))(F_Lgcd:FI P w K mg base tb "_law_gcd" 2 1 jB):FI P w K mg base tb "_law_lowest" 2 (1+1) (aJ 4 (il jB)):=
 dM F KB hmg rB rfl (λ_ _ _ _ _ _=>us2 λ_ _=>rfl) λc A outer s H E hcd hr=>by
  have nd:=rB.nd
  refine aD (bA (i:=2) nd (pdv 1)) ?_
  refine aD ?_ ?_
  refine gP (ts:=[3]) PassesOwn.never rfl (bT (pdv 0)) (aH (i:=3) nd) ?_
  refine aF ?_
  exact bA (i:=2) nd (aP F_Lgcd (hr.mono (by decide)) (aj (pdv 2) (aj (pdv 3) aq)) (aB (aB aQ)))
  refine aD ?_ ?_
  refine cj (bI ud (pdv 1) aA) ?_ bj
  exact aF (bA (i:=2) nd (aG gk aA (vZ T.b_abs (aj (pdv 2) aq))))
  refine aF ?_
  refine aK ?_
  refine aG bH ?_ (cg (aj (aG lg (pdv 1) (pdv 2)) aq))
  refine jq T.b_tuple ?_
  refine aj ?_ aq
  refine bY ?_
  refine cM (own:=["_law_number"]) (cap:=["_law_common"]) (capI:=[2]) (ts:=[0]) rfl ⟨rfl,by decide +kernel,⟨⟨rfl,by first|exact Or.inl rfl|exact Or.inr rfl⟩,trivial⟩,by decide +kernel,by decide +kernel⟩ (by decide +kernel) (bT (pdv 0)) (λcs C fp s2 H2=>aH (i:=0) (show(["_law_number","_law_common"]:List Str).Nodup by decide +kernel)) ?_ ?_
  intro cs C fp s2 H2
  exact bu
  intro cs C fp s2 H2
  exact aG lg (pdv 0) (pdv 1)
abbrev rQ:Stmt:=top 19
theorem ur:bx ["_law_number","_law_directions","_law_kind","_law_base","_law_numbers","_law_bottom","_law_k","_law_top","_law_under"] ["_law_number","_law_directions","_law_kind","_law_base"] (aL rQ):=⟨rfl,rfl,rfl,by decide +kernel,rfl,by decide +kernel,by decide +kernel⟩
theorem CQ{bw gW bZ:FF}(T:BI K mg)(F:gh K "_law_point" "_law_point" rQ f fd Tb)(KB:K.In base)(hmg:mg "_law_point"=some (.ref f))(F_Lmixed:FI P w K mg base tb "_law_mixed" 2 1 bw)(F_Lplace:FI P w K mg base tb "_law_place" 3 1 gW)(F_Llowest:FI P w K mg base tb "_law_lowest" 2 2 bZ):FI P w K mg base tb "_law_point" 4 (2+1) (aJ 9 (jQ bw gW bZ)):=
 dM F KB hmg ur rfl (λ_ _ _ _ _ _=>us4 λ_ _ _ _=>rfl) λc A outer s H E hcd hr=>by
  have nd:=ur.nd
  refine aD (bA (i:=4) nd (km (jW aq))) ?_
  refine aD (bA (i:=5) nd aA) ?_
  refine aD ?_ ?_
  refine gP (ts:=[6]) PassesOwn.never rfl (cJ T.b_range (aj (pdv 1) aq)) (aH (i:=6) nd) ?_
  refine aD ?_ ?_
  refine ou (ts:=[7,8]) ?_ (eG rfl (aV (aH (i:=7) nd) (aV (aH (i:=8) nd) cY)))
  refine aP F_Lplace (hr.mono (by decide)) ?_ (aB (aB (aB aQ)))
  refine aj ?_ (aj (pdv 2) (aj (aG bH (pdv 3) (pdv 6)) aq))
  exact aP F_Lmixed (hr.mono (by decide)) (aj (pdv 0) (aj (aG bH (pdv 6) aA) aq)) (aB (aB aQ))
  refine aD ?_ (aF (gb (fB (pdv 4) (aj (pdv 7) aq))))
  exact cj (bI (iU hr) (pdv 6) aA) (aF (bA (i:=5) nd (pdv 8))) bj
  refine aF ?_
  exact aK (aP F_Llowest (hr.mono (by decide)) (aj (ww (pdv 4)) (aj (pdv 5) aq)) (aB (aB aQ)))
abbrev Ad:Stmt:=top 20
theorem Ao:bx ["_law_row","_law_spot"] ["_law_row","_law_spot"] (aL Ad):=⟨rfl,rfl,rfl,by decide +kernel,rfl,by decide +kernel,by decide +kernel⟩
theorem Ij(T:BI K mg)(F:gh K "_law_sum" "_law_sum" Ad f fd Tb)(KB:K.In base)(hmg:mg "_law_sum"=some (.ref f)):FI P w K mg base tb "_law_sum" 2 (0+1) (aJ 2 (nY)):=
 dM F KB hmg Ao rfl (λ_ _ _ _ _ _=>us2 λ_ _=>rfl) λc A outer s H E hcd hr=>by
  have nd:=Ao.nd
  refine aF ?_
  refine aK ?_
  refine cg ?_
  refine aj ?_ (aj (cC (pdv 1) (lJ aA)) aq)
  refine mq rfl T.b_sum ?_
  refine dm rfl ?_
  refine bY ?_
  refine cM (own:=["_law_one","_law_other"]) (cap:=[]) (capI:=[]) (ts:=[0,1]) rfl ⟨rfl,by decide +kernel,trivial,by decide +kernel,by decide +kernel⟩ (by decide +kernel) (mO T.b_zip (aj (pdv 0) (aj (pdv 1) aq))) (λcs C fp s2 H2=>eG rfl (aV (aH (i:=0) (show(["_law_one","_law_other"]:List Str).Nodup by decide +kernel)) (aV (aH (i:=1) (show(["_law_one","_law_other"]:List Str).Nodup by decide +kernel)) cY))) ?_ ?_
  intro cs C fp s2 H2
  exact bu
  intro cs C fp s2 H2
  exact aG dZ (pdv 0) (pdv 1)
abbrev nF:Stmt:=top 26
theorem pW:bx ["_law_row","_law_spots","_law_found"] ["_law_row","_law_spots"] (aL nF):=⟨rfl,rfl,rfl,by decide +kernel,rfl,by decide +kernel,by decide +kernel⟩
theorem yE{cZ:FF}(T:BI K mg)(F:gh K "_law_ceiling" "_law_ceiling" nF f fd Tb)(KB:K.In base)(hmg:mg "_law_ceiling"=some (.ref f))(F_Lsum:FI P w K mg base tb "_law_sum" 2 1 cZ):FI P w K mg base tb "_law_ceiling" 2 (1+1) (aJ 3 (gR cZ)):=
 dM F KB hmg pW rfl (λ_ _ _ _ _ _=>us2 λ_ _=>rfl) λc A outer s H E hcd hr=>by
  have nd:=pW.nd
  refine aD ?_ ?_
  refine HQ (i:=2) nd (own:=["_law_spot"]) (cap:=["_law_row"]) (capI:=[0]) (ts:=[0]) rfl ⟨rfl,by decide +kernel,⟨⟨rfl,by first|exact Or.inl rfl|exact Or.inr rfl⟩,trivial⟩,by decide +kernel,by decide +kernel⟩ (by decide +kernel) (bT (pdv 1)) (λcs C fp s2 H2=>aH (i:=0) (show(["_law_spot","_law_row"]:List Str).Nodup by decide +kernel)) ?_ ?_
  intro cs C fp s2 H2
  exact bu
  intro cs C fp s2 H2
  exact aP F_Lsum (hr.mono (by decide)) (aj (pdv 1) (aj (pdv 0) aq)) (aB (aB aQ))
  refine aF ?_
  refine aK ?_
  refine Bl rfl T.b_max ?_
  refine aj ?_ aq
  refine bY ?_
  refine cM (own:=["_law_top","_law_bottom"]) (cap:=[]) (capI:=[]) (ts:=[0,1]) rfl ⟨rfl,by decide +kernel,trivial,by decide +kernel,by decide +kernel⟩ (by decide +kernel) (bT (pdv 2)) (λcs C fp s2 H2=>eG rfl (aV (aH (i:=0) (show(["_law_top","_law_bottom"]:List Str).Nodup by decide +kernel)) (aV (aH (i:=1) (show(["_law_top","_law_bottom"]:List Str).Nodup by decide +kernel)) cY))) ?_ ?_
  intro cs C fp s2 H2
  exact bu
  intro cs C fp s2 H2
  exact aG gk aA (aG lg (aG gk aA (pdv 0)) (pdv 1))
abbrev qW:Stmt:=top 28
theorem uZ:bx ["_law_drawn","_law_directions","_law_many","_law_rows","_law_j","_law_lots","_law_row","_law_number","_law_least","_law_square","_law_far","_law_points","_law_groups","_law_paper","_law_lot","_law_led","_law_point_here"] ["_law_drawn","_law_directions","_law_many"] (aL qW):=⟨rfl,rfl,rfl,by decide +kernel,rfl,by decide +kernel,by decide +kernel⟩
theorem Cj{bQ bw gK dX bZ:FF}(T:BI K mg)(F:gh K "_law_apart" "_law_apart" qW f fd Tb)(KB:K.In base)(hmg:mg "_law_apart"=some (.ref f))(F_Lnext:FI P w K mg base tb "_law_next" 1 1 bQ)(F_Lmixed:FI P w K mg base tb "_law_mixed" 2 1 bw)(F_Lpoint:FI P w K mg base tb "_law_point" 4 3 gK)(F_Lceiling:FI P w K mg base tb "_law_ceiling" 2 2 dX)(F_Llowest:FI P w K mg base tb "_law_lowest" 2 2 bZ):FI P w K mg base tb "_law_apart" 3 (3+1) (aJ 17 (ji bQ bw gK dX bZ)):=
 dM F KB hmg uZ rfl (λ_ _ _ _ _ _=>us3 λ_ _ _=>rfl) λc A outer s H E hcd hr=>by
  have nd:=uZ.nd
  refine aD (bA (i:=3) nd (km (jW aq))) ?_
  refine aD ?_ ?_
  refine gP (ts:=[4]) PassesOwn.never rfl (cJ T.b_range (aj (aG gk (pdv 2) aA) aq)) (aH (i:=4) nd) ?_
  refine aF ?_
  refine gb ?_
  refine fB (pdv 3) ?_
  refine aj ?_ aq
  refine jq T.b_tuple ?_
  refine aj ?_ aq
  refine bY ?_
  refine cM (own:=["_law_k"]) (cap:=["_law_drawn"]) (capI:=[0]) (ts:=[0]) rfl ⟨rfl,by decide +kernel,⟨⟨rfl,by first|exact Or.inl rfl|exact Or.inr rfl⟩,trivial⟩,by decide +kernel,by decide +kernel⟩ (by decide +kernel) (cJ T.b_range (aj (pdv 1) aq)) (λcs C fp s2 H2=>aH (i:=0) (show(["_law_k","_law_drawn"]:List Str).Nodup by decide +kernel)) ?_ ?_
  intro cs C fp s2 H2
  exact bu
  intro cs C fp s2 H2
  refine aG gk ?_ aA
  exact aG dj (aP F_Lnext (hr.mono (by decide)) (aj (pdv 1) aq) (aB aQ)) aA
  refine aD ?_ ?_
  refine cj ?_ ?_ bj
  refine kY ?_
  refine Bk (bI (Mp hr) (pdv 3) (lE aq)) ?_
  refine xK ?_
  refine bI (iU hr) ?_ aA
  refine Bl rfl T.b_max ?_
  refine aj ?_ aq
  refine bY ?_
  refine cM (own:=["_law_one"]) (cap:=[]) (capI:=[]) (ts:=[0]) rfl ⟨rfl,by decide +kernel,trivial,by decide +kernel,by decide +kernel⟩ (by decide +kernel) (bT (cC (pdv 3) aA)) (λcs C fp s2 H2=>aH (i:=0) (show(["_law_one"]:List Str).Nodup by decide +kernel)) ?_ ?_
  intro cs C fp s2 H2
  exact bu
  intro cs C fp s2 H2
  exact vZ T.b_abs (aj (pdv 0) aq)
  refine aF ?_
  exact Jx (aG dZ (cg (aj aA aq)) (pdv 1)) (pdv 3) aA
  refine aD ?_ ?_
  refine gb ?_
  refine fB (pdv 3) ?_
  refine aj ?_ aq
  refine jq T.b_tuple ?_
  refine aj ?_ aq
  refine bY ?_
  refine cM (own:=["_law_k"]) (cap:=["_law_rows"]) (capI:=[3]) (ts:=[0]) rfl ⟨rfl,by decide +kernel,⟨⟨rfl,by first|exact Or.inl rfl|exact Or.inr rfl⟩,trivial⟩,by decide +kernel,by decide +kernel⟩ (by decide +kernel) (cJ T.b_range (aj (pdv 1) aq)) (λcs C fp s2 H2=>aH (i:=0) (show(["_law_k","_law_rows"]:List Str).Nodup by decide +kernel)) ?_ ?_
  intro cs C fp s2 H2
  exact bu
  intro cs C fp s2 H2
  refine aG gk aA ?_
  refine mq rfl T.b_sum ?_
  refine dm rfl ?_
  refine bY ?_
  refine cM (own:=["_law_row"]) (cap:=["_law_k"]) (capI:=[0]) (ts:=[0]) rfl ⟨rfl,by decide +kernel,⟨⟨rfl,by first|exact Or.inl rfl|exact Or.inr rfl⟩,trivial⟩,by decide +kernel,by decide +kernel⟩ (by decide +kernel) (bT (pdv 1)) (λcs C fp s2 H2=>aH (i:=0) (show(["_law_row","_law_k"]:List Str).Nodup by decide +kernel)) ?_ ?_
  intro cs C fp s2 H2
  exact bu
  intro cs C fp s2 H2
  exact cC (pdv 0) (pdv 1)
  refine aD (bA (i:=5) nd (km (jW aq))) ?_
  refine aD ?_ ?_
  refine gP (ts:=[6]) PassesOwn.never rfl (bT (pdv 3)) (aH (i:=6) nd) ?_
  refine aD ?_ ?_
  exact bA (i:=7) nd (aP F_Lnext (hr.mono (by decide)) (aj (pdv 0) aq) (aB aQ))
  refine aF ?_
  refine gb ?_
  refine fB (pdv 5) ?_
  refine aj ?_ aq
  refine bY ?_
  refine cM (own:=["_law_j"]) (cap:=["_law_number","_law_directions"]) (capI:=[7,1]) (ts:=[0]) rfl ⟨rfl,by decide +kernel,⟨⟨rfl,by first|exact Or.inl rfl|exact Or.inr rfl⟩,⟨⟨rfl,by first|exact Or.inl rfl|exact Or.inr rfl⟩,trivial⟩⟩,by decide +kernel,by decide +kernel⟩ (by decide +kernel) ?_ (λcs C fp s2 H2=>aH (i:=0) (show(["_law_j","_law_number","_law_directions"]:List Str).Nodup by decide +kernel)) ?_ ?_
  exact cJ T.b_range (aj (aG bH aA (aG dj (pdv 7) aA)) aq)
  intro cs C fp s2 H2
  exact bu
  intro cs C fp s2 H2
  refine aP F_Lpoint (hr.mono (by decide)) ?_ (aB (aB (aB (aB aQ))))
  exact aj (aP F_Lmixed (hr.mono (by decide)) (aj (pdv 1) (aj (pdv 0) aq)) (aB (aB aQ))) (aj (pdv 2) (aj aA (aj aA aq)))
  refine aD ?_ ?_
  refine Bf (i:=5) ?_
  refine Bf (i:=3) ?_
  refine bA (i:=8) nd ?_
  refine mq rfl T.b_sum ?_
  refine dm rfl ?_
  refine bY ?_
  refine cM (own:=["_law_row","_law_lot"]) (cap:=[]) (capI:=[]) (ts:=[0,1]) rfl ⟨rfl,by decide +kernel,trivial,by decide +kernel,by decide +kernel⟩ (by decide +kernel) (mO T.b_zip (aj (pdv 3) (aj (pdv 5) aq))) (λcs C fp s2 H2=>eG rfl (aV (aH (i:=0) (show(["_law_row","_law_lot"]:List Str).Nodup by decide +kernel)) (aV (aH (i:=1) (show(["_law_row","_law_lot"]:List Str).Nodup by decide +kernel)) cY))) ?_ ?_
  intro cs C fp s2 H2
  exact bu
  intro cs C fp s2 H2
  exact aP F_Lceiling (hr.mono (by decide)) (aj (pdv 0) (aj (pdv 1) aq)) (aB (aB aQ))
  refine aD ?_ ?_
  refine bA (i:=9) nd ?_
  refine mq rfl T.b_sum ?_
  refine dm rfl ?_
  refine bY ?_
  refine cM (own:=["_law_row"]) (cap:=[]) (capI:=[]) (ts:=[0]) rfl ⟨rfl,by decide +kernel,trivial,by decide +kernel,by decide +kernel⟩ (by decide +kernel) (bT (pdv 3)) (λcs C fp s2 H2=>aH (i:=0) (show(["_law_row"]:List Str).Nodup by decide +kernel)) ?_ ?_
  intro cs C fp s2 H2
  exact bu
  intro cs C fp s2 H2
  refine mq rfl T.b_sum ?_
  refine dm rfl ?_
  refine bY ?_
  refine cM (own:=["_law_one"]) (cap:=[]) (capI:=[]) (ts:=[0]) rfl ⟨rfl,by decide +kernel,trivial,by decide +kernel,by decide +kernel⟩ (by decide +kernel) (bT (pdv 0)) (λcs C fp s2 H2=>aH (i:=0) (show(["_law_one"]:List Str).Nodup by decide +kernel)) ?_ ?_
  intro cs C fp s2 H2
  exact bu
  intro cs C fp s2 H2
  exact aG dZ (pdv 0) (pdv 0)
  refine aD ?_ ?_
  refine bA (i:=10) nd ?_
  refine aG bH ?_ ?_
  refine aG bH ?_ aA
  exact aG lg (Ka rfl T.b_max (aj aA (aj (pdv 8) aq))) (pdv 9)
  exact aG dj (aP F_Lnext (hr.mono (by decide)) (aj (pdv 0) aq) (aB aQ)) aA
  refine aD ?_ ?_
  refine Ec (i:=11) (j:=12) (k:=13) rfl nd ?_
  refine aj (lE aq) ?_
  exact aj (km (jW aq)) (aj (km (jW aq)) aq)
  refine aD ?_ ?_
  refine gP (ts:=[6,14]) PassesOwn.never rfl (mO T.b_zip (aj (pdv 3) (aj (pdv 5) aq))) (eG rfl (aV (aH (i:=6) nd) (aV (aH (i:=14) nd) cY))) ?_
  refine aD (bA (i:=15) nd (km (jW aq))) ?_
  refine aD ?_ ?_
  refine gP (ts:=[16]) PassesOwn.never rfl (bT (pdv 14)) (aH (i:=16) nd) ?_
  refine aF ?_
  refine gb ?_
  refine fB (pdv 15) ?_
  refine aj ?_ aq
  refine aP F_Llowest (hr.mono (by decide)) ?_ (aB (aB aQ))
  refine aj ?_ (aj (cC (pdv 16) (lJ aA)) aq)
  refine bY ?_
  refine cM (own:=["_law_k"]) (cap:=["_law_point_here","_law_far","_law_row"]) (capI:=[16,10,6]) (ts:=[0]) rfl ⟨rfl,by decide +kernel,⟨⟨rfl,by first|exact Or.inl rfl|exact Or.inr rfl⟩,⟨⟨rfl,by first|exact Or.inl rfl|exact Or.inr rfl⟩,⟨⟨rfl,by first|exact Or.inl rfl|exact Or.inr rfl⟩,trivial⟩⟩⟩,by decide +kernel,by decide +kernel⟩ (by decide +kernel) (cJ T.b_range (aj (pdv 1) aq)) (λcs C fp s2 H2=>aH (i:=0) (show(["_law_k","_law_point_here","_law_far","_law_row"]:List Str).Nodup by decide +kernel)) ?_ ?_
  intro cs C fp s2 H2
  exact bu
  intro cs C fp s2 H2
  refine aG gk (cC (pdv 1) (pdv 0)) ?_
  exact aG dZ (aG dZ (pdv 2) (cC (pdv 3) (pdv 0))) (cC (pdv 1) (lJ aA))
  refine aD ?_ ?_
  refine gb ?_
  refine fB (pdv 12) ?_
  refine aj ?_ aq
  refine DX rfl T.b_tuple T.b_range ?_
  refine aj (eN T.b_len (aj (pdv 11) aq)) ?_
  refine aj ?_ aq
  exact aG bH (eN T.b_len (aj (pdv 11) aq)) (eN T.b_len (aj (pdv 15) aq))
  refine aD (bA (i:=11) nd (bY (Jc (pdv 11) (pdv 15)))) ?_
  refine aF ?_
  refine gb ?_
  refine fB (pdv 13) ?_
  refine aj ?_ aq
  refine cg ?_
  refine aj (pdv 6) ?_
  exact aj (aP F_Lceiling (hr.mono (by decide)) (aj (pdv 6) (aj (ww (pdv 15)) aq)) (aB (aB aQ))) aq
  refine aF ?_
  refine aK ?_
  refine cg ?_
  refine aj (pdv 11) ?_
  exact aj (ww (pdv 12)) (aj (jq T.b_tuple (aj (ww (pdv 13)) aq)) aq)
abbrev qU:Stmt:=top 22
theorem tX:bx ["_law_thing"] ["_law_thing"] (aL qU):=⟨rfl,rfl,rfl,by decide +kernel,rfl,by decide +kernel,by decide +kernel⟩
theorem CP(T:BI K mg)(F:gh K "_law_whole" "_law_whole" qU f fd Tb)(KB:K.In base)(hmg:mg "_law_whole"=some (.ref f)):FI P w K mg base tb "_law_whole" 1 (0+1) (aJ 1 (my)):=
 dM F KB hmg tX rfl (λ_ _ _ _ _ _=>us1 λ_=>rfl) λc A outer s H E hcd hr=>by
  have nd:=tX.nd
  refine aF ?_
  refine aK ?_
  refine lO ?_ ?_
  exact jG T.b_isinstance T.b_int PyProof.Rows.boot_int (by decide) (pdv 0)
  refine jZ ?_
  refine qP ?_
  exact jG T.b_isinstance T.b_bool PyProof.Rows.boot_bool (by decide) (pdv 0)
abbrev nG:Stmt:=top 24
theorem qi:bx ["_law_directions","_law_thing"] ["_law_directions","_law_thing"] (aL nG):=⟨rfl,rfl,rfl,by decide +kernel,rfl,by decide +kernel,by decide +kernel⟩
theorem yw{fV:FF}(T:BI K mg)(F:gh K "_law_is_pair" "_law_is_pair" nG f fd Tb)(KB:K.In base)(hmg:mg "_law_is_pair"=some (.ref f))(F_Lwhole:FI P w K mg base tb "_law_whole" 1 1 fV):FI P w K mg base tb "_law_is_pair" 2 (1+1) (aJ 2 (ie fV)):=
 dM F KB hmg qi rfl (λ_ _ _ _ _ _=>us2 λ_ _=>rfl) λc A outer s H E hcd hr=>by
  have nd:=qi.nd
  refine aD ?_ ?_
  refine cj ?_ (aF (aK jP)) bj
  refine kY ?_
  refine lY ?_ ?_
  refine fL ?_
  refine fM ?_
  exact jG T.b_isinstance T.b_tuple PyProof.Rows.boot_tuple (by decide) (pdv 1)
  refine lY (bI (uV hr) (eN T.b_len (aj (pdv 1) aq)) aA) ?_
  refine kZ ?_
  refine fL ?_
  exact fM (aP F_Lwhole (hr.mono (by decide)) (aj (cC (pdv 1) aA) aq) (aB aQ))
  refine aD ?_ ?_
  refine cj ?_ (aF (aK jP)) bj
  refine kY ?_
  refine lY ?_ ?_
  refine fL ?_
  refine fM ?_
  exact jG T.b_isinstance T.b_tuple PyProof.Rows.boot_tuple (by decide) (cC (pdv 1) aA)
  refine kZ ?_
  exact bI (uV hr) (eN T.b_len (aj (cC (pdv 1) aA) aq)) (pdv 0)
  refine aF ?_
  refine aK ?_
  refine sE rfl T.b_all ?_
  refine dm rfl ?_
  refine bY ?_
  refine cM (own:=["_law_number"]) (cap:=[]) (capI:=[]) (ts:=[0]) rfl ⟨rfl,by decide +kernel,trivial,by decide +kernel,by decide +kernel⟩ (by decide +kernel) (bT (cC (pdv 1) aA)) (λcs C fp s2 H2=>aH (i:=0) (show(["_law_number"]:List Str).Nodup by decide +kernel)) ?_ ?_
  intro cs C fp s2 H2
  exact bu
  intro cs C fp s2 H2
  exact aP F_Lwhole (hr.mono (by decide)) (aj (pdv 0) aq) (aB aQ)
abbrev rK:Stmt:=top 21
theorem uH:bx ["_law_one","_law_other"] ["_law_one","_law_other"] (aL rK):=⟨rfl,rfl,rfl,by decide +kernel,rfl,by decide +kernel,by decide +kernel⟩
theorem BL(T:BI K mg)(F:gh K "_law_below" "_law_below" rK f fd Tb)(KB:K.In base)(hmg:mg "_law_below"=some (.ref f)):FI P w K mg base tb "_law_below" 2 (0+1) (aJ 2 (jO)):=
 dM F KB hmg uH rfl (λ_ _ _ _ _ _=>us2 λ_ _=>rfl) λc A outer s H E hcd hr=>by
  have nd:=uH.nd
  refine aF ?_
  refine aK ?_
  exact nQ ud (aG dZ (cC (pdv 0) aA) (cC (pdv 1) aA)) (aG dZ (cC (pdv 1) aA) (cC (pdv 0) aA))
abbrev pg:Stmt:=top 25
theorem sV:bx ["_law_pair","_law_spots"] ["_law_pair","_law_spots"] (aL pg):=⟨rfl,rfl,rfl,by decide +kernel,rfl,by decide +kernel,by decide +kernel⟩
theorem zc{cZ fu:FF}(T:BI K mg)(F:gh K "_law_behind" "_law_behind" pg f fd Tb)(KB:K.In base)(hmg:mg "_law_behind"=some (.ref f))(F_Lsum:FI P w K mg base tb "_law_sum" 2 1 cZ)(F_Lbelow:FI P w K mg base tb "_law_below" 2 1 fu):FI P w K mg base tb "_law_behind" 2 (1+1) (aJ 2 (jD cZ fu)):=
 dM F KB hmg sV rfl (λ_ _ _ _ _ _=>us2 λ_ _=>rfl) λc A outer s H E hcd hr=>by
  have nd:=sV.nd
  refine aF ?_
  refine aK ?_
  refine qP ?_
  refine yQ rfl T.b_any ?_
  refine dm rfl ?_
  refine bY ?_
  refine cM (own:=["_law_spot"]) (cap:=["_law_pair"]) (capI:=[0]) (ts:=[0]) rfl ⟨rfl,by decide +kernel,⟨⟨rfl,by first|exact Or.inl rfl|exact Or.inr rfl⟩,trivial⟩,by decide +kernel,by decide +kernel⟩ (by decide +kernel) (bT (pdv 1)) (λcs C fp s2 H2=>aH (i:=0) (show(["_law_spot","_law_pair"]:List Str).Nodup by decide +kernel)) ?_ ?_
  intro cs C fp s2 H2
  exact bu
  intro cs C fp s2 H2
  refine aP F_Lbelow (hr.mono (by decide)) ?_ (aB (aB aQ))
  refine aj ?_ ?_
  exact cg (aj (cC (pdv 1) aA) (aj aA aq))
  refine aj ?_ aq
  exact aP F_Lsum (hr.mono (by decide)) (aj (cC (pdv 1) aA) (aj (pdv 0) aq)) (aB (aB aQ))
abbrev rF:Stmt:=top 27
theorem uO:bx ["_law_points","_law_groups","_law_thing","_law_directions","_law_k"] ["_law_points","_law_groups","_law_thing"] (aL rF):=⟨rfl,rfl,rfl,by decide +kernel,rfl,by decide +kernel,by decide +kernel⟩
theorem BP{fP fO:FF}(T:BI K mg)(F:gh K "_law_parts" "_law_parts" rF f fd Tb)(KB:K.In base)(hmg:mg "_law_parts"=some (.ref f))(F_Lis_pair:FI P w K mg base tb "_law_is_pair" 2 2 fP)(F_Lbehind:FI P w K mg base tb "_law_behind" 2 2 fO):FI P w K mg base tb "_law_parts" 3 (2+1) (aJ 5 (jn fP fO)):=
 dM F KB hmg uO rfl (λ_ _ _ _ _ _=>us3 λ_ _ _=>rfl) λc A outer s H E hcd hr=>by
  have nd:=uO.nd
  refine aD ?_ ?_
  refine bA (i:=3) nd ?_
  exact aG gk (eN T.b_len (aj (cC (pdv 0) aA) aq)) aA
  refine aD ?_ ?_
  refine cj ?_ (aF (aK jP)) bj
  refine kY ?_
  refine lY ?_ ?_
  refine fL ?_
  refine fM ?_
  exact jG T.b_isinstance T.b_tuple PyProof.Rows.boot_tuple (by decide) (pdv 2)
  refine kZ ?_
  exact bI (uV hr) (eN T.b_len (aj (pdv 2) aq)) (eN T.b_len (aj (pdv 1) aq))
  refine aD ?_ ?_
  refine cj ?_ (aF (aK jP)) bj
  refine kY ?_
  refine lY ?_ ?_
  refine fL ?_
  refine fM ?_
  refine sE rfl T.b_all ?_
  refine dm rfl ?_
  refine bY ?_
  refine cM (own:=["_law_pair"]) (cap:=["_law_directions"]) (capI:=[3]) (ts:=[0]) rfl ⟨rfl,by decide +kernel,⟨⟨rfl,by first|exact Or.inl rfl|exact Or.inr rfl⟩,trivial⟩,by decide +kernel,by decide +kernel⟩ (by decide +kernel) (bT (pdv 2)) (λcs C fp s2 H2=>aH (i:=0) (show(["_law_pair","_law_directions"]:List Str).Nodup by decide +kernel)) ?_ ?_
  intro cs C fp s2 H2
  exact bu
  intro cs C fp s2 H2
  exact aP F_Lis_pair (hr.mono (by decide)) (aj (pdv 1) (aj (pdv 0) aq)) (aB (aB aQ))
  refine kZ ?_
  refine bI Es ?_ aA
  refine mq rfl T.b_sum ?_
  refine dm rfl ?_
  refine bY ?_
  refine cM (own:=["_law_pair"]) (cap:=[]) (capI:=[]) (ts:=[0]) rfl ⟨rfl,by decide +kernel,trivial,by decide +kernel,by decide +kernel⟩ (by decide +kernel) (bT (pdv 2)) (λcs C fp s2 H2=>aH (i:=0) (show(["_law_pair"]:List Str).Nodup by decide +kernel)) ?_ ?_
  intro cs C fp s2 H2
  exact bu
  intro cs C fp s2 H2
  exact cC (pdv 0) aA
  refine aD ?_ ?_
  refine gP (ts:=[4]) PassesOwn.never rfl (cJ T.b_range (aj (pdv 3) aq)) (aH (i:=4) nd) ?_
  refine aF ?_
  refine cj ?_ (aF (aK jP)) bj
  refine bI (uV hr) ?_ aA
  refine mq rfl T.b_sum ?_
  refine dm rfl ?_
  refine bY ?_
  refine cM (own:=["_law_pair"]) (cap:=["_law_k"]) (capI:=[4]) (ts:=[0]) rfl ⟨rfl,by decide +kernel,⟨⟨rfl,by first|exact Or.inl rfl|exact Or.inr rfl⟩,trivial⟩,by decide +kernel,by decide +kernel⟩ (by decide +kernel) (bT (pdv 2)) (λcs C fp s2 H2=>aH (i:=0) (show(["_law_pair","_law_k"]:List Str).Nodup by decide +kernel)) ?_ ?_
  intro cs C fp s2 H2
  exact bu
  intro cs C fp s2 H2
  exact cC (cC (pdv 0) aA) (pdv 1)
  refine aF ?_
  refine aK ?_
  refine sE rfl T.b_all ?_
  refine dm rfl ?_
  refine bY ?_
  refine cM (own:=["_law_group","_law_pair"]) (cap:=["_law_points"]) (capI:=[0]) (ts:=[0,1]) rfl ⟨rfl,by decide +kernel,⟨⟨rfl,by first|exact Or.inl rfl|exact Or.inr rfl⟩,trivial⟩,by decide +kernel,by decide +kernel⟩ (by decide +kernel) (mO T.b_zip (aj (pdv 1) (aj (pdv 2) aq))) (λcs C fp s2 H2=>eG rfl (aV (aH (i:=0) (show(["_law_group","_law_pair","_law_points"]:List Str).Nodup by decide +kernel)) (aV (aH (i:=1) (show(["_law_group","_law_pair","_law_points"]:List Str).Nodup by decide +kernel)) cY))) ?_ ?_
  intro cs C fp s2 H2
  exact bu
  intro cs C fp s2 H2
  refine aP F_Lbehind (hr.mono (by decide)) ?_ (aB (aB aQ))
  refine aj (pdv 1) ?_
  refine aj ?_ aq
  refine bY ?_
  refine cM (own:=["_law_k"]) (cap:=["_law_points"]) (capI:=[2]) (ts:=[0]) rfl ⟨rfl,by decide +kernel,⟨⟨rfl,by first|exact Or.inl rfl|exact Or.inr rfl⟩,trivial⟩,by decide +kernel,by decide +kernel⟩ (by decide +kernel) (bT (pdv 0)) (λcs C fp s2 H2=>aH (i:=0) (show(["_law_k","_law_points"]:List Str).Nodup by decide +kernel)) ?_ ?_
  intro cs C fp s2 H2
  exact bu
  intro cs C fp s2 H2
  exact cC (pdv 1) (pdv 0)
abbrev qZ:Stmt:=top 2
theorem uh:bx ["many","thing"] ["many","thing"] (aL qZ):=⟨rfl,rfl,rfl,by decide +kernel,rfl,by decide +kernel,by decide +kernel⟩
theorem Bx(T:BI K mg)(F:gh K "is_row" "is_row" qZ f fd Tb)(KB:K.In base)(hmg:mg "is_row"=some (.ref f)):FI P w K mg base tb "is_row" 2 (0+1) (aJ 2 (iJ)):=
 dM F KB hmg uh rfl (λ_ _ _ _ _ _=>us2 λ_ _=>rfl) λc A outer s H E hcd hr=>by
  have nd:=uh.nd
  refine aF ?_
  refine aK ?_
  refine lO ?_ (jZ (nQ (iU hr) (eN T.b_len (aj (pdv 1) aq)) (pdv 0)))
  exact jG T.b_isinstance T.b_tuple PyProof.Rows.boot_tuple (by decide) (pdv 1)
abbrev lR:Stmt:=top 1
theorem oF:bx ["thing"] ["thing"] (aL lR):=⟨rfl,rfl,rfl,by decide +kernel,rfl,by decide +kernel,by decide +kernel⟩
theorem vH(T:BI K mg)(F:gh K "is_number" "is_number" lR f fd Tb)(KB:K.In base)(hmg:mg "is_number"=some (.ref f)):FI P w K mg base tb "is_number" 1 (0+1) (aJ 1 (dY)):=
 dM F KB hmg oF rfl (λ_ _ _ _ _ _=>us1 λ_=>rfl) λc A outer s H E hcd hr=>by
  have nd:=oF.nd
  refine aF ?_
  refine aK ?_
  refine lO ?_ ?_
  exact jG T.b_isinstance T.b_int PyProof.Rows.boot_int (by decide) (pdv 0)
  refine jZ ?_
  refine qP ?_
  exact jG T.b_isinstance T.b_bool PyProof.Rows.boot_bool (by decide) (pdv 0)
abbrev lw:Stmt:=top 3
theorem nj:bx ["thing"] ["thing"] (aL lw):=⟨rfl,rfl,rfl,by decide +kernel,rfl,by decide +kernel,by decide +kernel⟩
theorem tO{bC:FF}(T:BI K mg)(F:gh K "is_numbers" "is_numbers" lw f fd Tb)(KB:K.In base)(hmg:mg "is_numbers"=some (.ref f))(F_is_number:FI P w K mg base tb "is_number" 1 1 bC)(hT:Tb∈tb):FI P w K mg base tb "is_numbers" 1 (2+1) (aJ 1 (dq bC)):=
 dM F KB hmg nj rfl (λ_ _ _ _ _ _=>us1 λ_=>rfl) λc A outer s H E hcd hr=>by
  have nd:=nj.nd
  refine aF ?_
  refine aK ?_
  refine lO ?_ ?_
  exact jG T.b_isinstance T.b_tuple PyProof.Rows.boot_tuple (by decide) (pdv 0)
  refine jZ ?_
  refine sE rfl T.b_all ?_
  refine oh ?_
  refine pP (own:=["part"]) (cap:=[]) (capI:=[]) (ts:=[0]) rfl hr ⟨rfl,by decide +kernel,trivial,by decide +kernel,by decide +kernel⟩ (by decide +kernel) (by decide +kernel) hT ⟨c,rfl,hcd⟩ (bT (pdv 0)) (λAG cs C code fp s2 H2=>aH (i:=0) (show(["part"]:List Str).Nodup by decide +kernel)) ?_
  intro AG cs C code fp s2 H2 hm
  have hg1:=hm _ hr
  exact aP F_is_number (hg1.mono (by decide)) (aj (pdv 0) aq) (aB aQ)
abbrev pB:Stmt:=top 7
theorem sJ:bx ["directions","thing","row","most"] ["directions","thing"] (aL pB):=⟨rfl,rfl,rfl,by decide +kernel,rfl,by decide +kernel,by decide +kernel⟩
theorem zK{cU cT bC:FF}(T:BI K mg)(F:gh K "is_side" "is_side" pB f fd Tb)(KB:K.In base)(hmg:mg "is_side"=some (.ref f))(F_is_row:FI P w K mg base tb "is_row" 2 1 cU)(F_is_numbers:FI P w K mg base tb "is_numbers" 1 3 cT)(F_is_number:FI P w K mg base tb "is_number" 1 1 bC):FI P w K mg base tb "is_side" 2 (3+1) (aJ 4 (jd cU cT bC)):=
 dM F KB hmg sJ rfl (λ_ _ _ _ _ _=>us2 λ_ _=>rfl) λc A outer s H E hcd hr=>by
  have nd:=sJ.nd
  refine aD ?_ ?_
  refine cj ?_ (aF (aK jP)) bj
  refine fL ?_
  exact fM (aP F_is_row (hr.mono (by decide)) (aj aA (aj (pdv 1) aq)) (aB (aB aQ)))
  refine aD (ou (ts:=[2,3]) (pdv 1) (eG rfl (aV (aH (i:=2) nd) (aV (aH (i:=3) nd) cY)))) ?_
  refine aF ?_
  refine aK ?_
  refine lO (aP F_is_numbers (hr.mono (by decide)) (aj (pdv 2) aq) (aB aQ)) ?_
  refine lO (nQ (iU hr) (eN T.b_len (aj (pdv 2) aq)) (pdv 0)) ?_
  exact jZ (aP F_is_number (hr.mono (by decide)) (aj (pdv 3) aq) (aB aQ))
abbrev gO:Stmt:=top 4
theorem jh:bx ["ones","others"] ["ones","others"] (aL gO):=⟨rfl,rfl,rfl,by decide +kernel,rfl,by decide +kernel,by decide +kernel⟩
theorem nH(T:BI K mg)(F:gh K "sum_of_products" "sum_of_products" gO f fd Tb)(KB:K.In base)(hmg:mg "sum_of_products"=some (.ref f))(hT:Tb∈tb):FI P w K mg base tb "sum_of_products" 2 (1+1) (aJ 2 (bD)):=
 dM F KB hmg jh rfl (λ_ _ _ _ _ _=>us2 λ_ _=>rfl) λc A outer s H E hcd hr=>by
  have nd:=jh.nd
  refine aF ?_
  refine aK ?_
  refine mq rfl T.b_sum ?_
  refine oh ?_
  refine pP (own:=["one","other"]) (cap:=[]) (capI:=[]) (ts:=[0,1]) rfl hr ⟨rfl,by decide +kernel,trivial,by decide +kernel,by decide +kernel⟩ (by decide +kernel) (by decide +kernel) hT ⟨c,rfl,hcd⟩ (mO T.b_zip (aj (pdv 0) (aj (pdv 1) aq))) (λAG cs C code fp s2 H2=>eG rfl (aV (aH (i:=0) (show(["one","other"]:List Str).Nodup by decide +kernel)) (aV (aH (i:=1) (show(["one","other"]:List Str).Nodup by decide +kernel)) cY))) ?_
  intro AG cs C code fp s2 H2 hm
  have hg1:=hm _ hr
  exact aG dZ (pdv 0) (pdv 1)
abbrev pC:Stmt:=top 5
theorem qJ:bx ["rows","weights"] ["rows","weights"] (aL pC):=⟨rfl,rfl,rfl,by decide +kernel,rfl,by decide +kernel,by decide +kernel⟩
theorem zN{aU:FF}(T:BI K mg)(F:gh K "weighed" "weighed" pC f fd Tb)(KB:K.In base)(hmg:mg "weighed"=some (.ref f))(F_sum_of_products:FI P w K mg base tb "sum_of_products" 2 2 aU):FI P w K mg base tb "weighed" 2 (2+1) (aJ 2 (je aU)):=
 dM F KB hmg qJ rfl (λ_ _ _ _ _ _=>us2 λ_ _=>rfl) λc A outer s H E hcd hr=>by
  have nd:=qJ.nd
  refine aF ?_
  refine aK ?_
  refine bY ?_
  refine cM (own:=["at"]) (cap:=["weights","rows"]) (capI:=[1,0]) (ts:=[0]) rfl ⟨rfl,by decide +kernel,⟨⟨rfl,by first|exact Or.inl rfl|exact Or.inr rfl⟩,⟨⟨rfl,by first|exact Or.inl rfl|exact Or.inr rfl⟩,trivial⟩⟩,by decide +kernel,by decide +kernel⟩ (by decide +kernel) ?_ (λcs C fp s2 H2=>aH (i:=0) (show(["at","weights","rows"]:List Str).Nodup by decide +kernel)) ?_ ?_
  refine cJ T.b_range ?_
  exact aj (eN T.b_len (aj (cC (pdv 0) aA) aq)) aq
  intro cs C fp s2 H2
  exact bu
  intro cs C fp s2 H2
  refine aP F_sum_of_products (hr.mono (by decide)) ?_ (aB (aB aQ))
  refine aj (pdv 1) ?_
  refine aj ?_ aq
  refine bY ?_
  refine cM (own:=["row"]) (cap:=["at"]) (capI:=[0]) (ts:=[0]) rfl ⟨rfl,by decide +kernel,⟨⟨rfl,by first|exact Or.inl rfl|exact Or.inr rfl⟩,trivial⟩,by decide +kernel,by decide +kernel⟩ (by decide +kernel) (bT (pdv 2)) (λcs C fp s2 H2=>aH (i:=0) (show(["row","at"]:List Str).Nodup by decide +kernel)) ?_ ?_
  intro cs C fp s2 H2
  exact bu
  intro cs C fp s2 H2
  exact cC (pdv 0) (pdv 1)
abbrev nJ:Stmt:=top 10
theorem pY:bx ["sides","together"] ["sides"] (aL nJ):=⟨rfl,rfl,rfl,by decide +kernel,rfl,by decide +kernel,by decide +kernel⟩
theorem xW{gB:FF}(T:BI K mg)(F:gh K "part_all" "part_all" nJ f fd Tb)(KB:K.In base)(hmg:mg "part_all"=some (.ref f))(F_weighed:FI P w K mg base tb "weighed" 2 3 gB):FI P w K mg base tb "part_all" 1 (3+1) (aJ 2 (ik gB)):=
 dM F KB hmg pY rfl (λ_ _ _ _ _ _=>us1 λ_=>rfl) λc A outer s H E hcd hr=>by
  have nd:=pY.nd
  refine aD ?_ ?_
  refine bA (i:=1) nd ?_
  refine aP F_weighed (hr.mono (by decide)) ?_ (aB (aB aQ))
  refine aj ?_ ?_
  refine bY ?_
  refine cM (own:=["row","most"]) (cap:=[]) (capI:=[]) (ts:=[0,1]) rfl ⟨rfl,by decide +kernel,trivial,by decide +kernel,by decide +kernel⟩ (by decide +kernel) (bT (pdv 0)) (λcs C fp s2 H2=>eG rfl (aV (aH (i:=0) (show(["row","most"]:List Str).Nodup by decide +kernel)) (aV (aH (i:=1) (show(["row","most"]:List Str).Nodup by decide +kernel)) cY))) ?_ ?_
  intro cs C fp s2 H2
  exact bu
  intro cs C fp s2 H2
  exact cg (Fp (pdv 0) (aj (pdv 1) aq))
  refine aj ?_ aq
  exact aG dZ (lE (aj aA aq)) (eN T.b_len (aj (pdv 0) aq))
  refine aF ?_
  refine aK ?_
  refine lO ?_ (jZ (nQ ud (cC (pdv 1) (lJ aA)) aA))
  refine qP ?_
  exact yQ rfl T.b_any (dm rfl (eQ (pdv 1) eU (eO (lJ aA))))
abbrev lU:Stmt:=top 8
theorem oJ:bx ["wall","spot","row","most"] ["wall","spot"] (aL lU):=⟨rfl,rfl,rfl,by decide +kernel,rfl,by decide +kernel,by decide +kernel⟩
theorem vB{aU:FF}(T:BI K mg)(F:gh K "is_beyond" "is_beyond" lU f fd Tb)(KB:K.In base)(hmg:mg "is_beyond"=some (.ref f))(F_sum_of_products:FI P w K mg base tb "sum_of_products" 2 2 aU):FI P w K mg base tb "is_beyond" 2 (2+1) (aJ 4 (gD aU)):=
 dM F KB hmg oJ rfl (λ_ _ _ _ _ _=>us2 λ_ _=>rfl) λc A outer s H E hcd hr=>by
  have nd:=oJ.nd
  refine aD (ou (ts:=[2,3]) (pdv 0) (eG rfl (aV (aH (i:=2) nd) (aV (aH (i:=3) nd) cY)))) ?_
  refine aF ?_
  refine aK ?_
  refine nQ Qm ?_ (aG dZ (pdv 3) (cC (pdv 1) (lJ aA)))
  refine aP F_sum_of_products (hr.mono (by decide)) ?_ (aB (aB aQ))
  refine aj (pdv 2) ?_
  exact aj (eQ (pdv 1) eU (eO (lJ aA))) aq
abbrev jE:Stmt:=top 11
theorem mz:bx ["points","groups","thing","directions"] ["points","groups","thing"] (aL jE):=⟨rfl,rfl,rfl,by decide +kernel,rfl,by decide +kernel,by decide +kernel⟩
theorem qO{cU gw fQ eF:FF}(T:BI K mg)(F:gh K "apart_holds" "apart_holds" jE f fd Tb)(KB:K.In base)(hmg:mg "apart_holds"=some (.ref f))(F_is_row:FI P w K mg base tb "is_row" 2 1 cU)(F_is_side:FI P w K mg base tb "is_side" 2 4 gw)(F_part_all:FI P w K mg base tb "part_all" 1 4 fQ)(F_is_beyond:FI P w K mg base tb "is_beyond" 2 3 eF)(hT:Tb∈tb):FI P w K mg base tb "apart_holds" 3 (5+1) (aJ 4 (fD cU gw fQ eF)):=
 dM F KB hmg mz rfl (λ_ _ _ _ _ _=>us3 λ_ _ _=>rfl) λc A outer s H E hcd hr=>by
  have nd:=mz.nd
  refine aD ?_ ?_
  refine bA (i:=3) nd ?_
  exact aG gk (eN T.b_len (aj (cC (pdv 0) aA) aq)) aA
  refine aD ?_ ?_
  refine cj ?_ (aF (aK jP)) bj
  refine kY ?_
  refine lY ?_ ?_
  refine fL ?_
  refine fM ?_
  refine aP F_is_row (hr.mono (by decide)) ?_ (aB (aB aQ))
  exact aj (eN T.b_len (aj (pdv 1) aq)) (aj (pdv 2) aq)
  refine kZ ?_
  refine fL ?_
  refine fM ?_
  refine sE rfl T.b_all ?_
  refine oh ?_
  refine pP (own:=["side"]) (cap:=["directions"]) (capI:=[3]) (ts:=[0]) rfl hr ⟨rfl,by decide +kernel,⟨⟨rfl,by first|exact Or.inl rfl|exact Or.inr rfl⟩,trivial⟩,by decide +kernel,by decide +kernel⟩ (by decide +kernel) (by decide +kernel) hT ⟨c,rfl,hcd⟩ (bT (pdv 2)) (λAG cs C code fp s2 H2=>aH (i:=0) (show(["side","directions"]:List Str).Nodup by decide +kernel)) ?_
  intro AG cs C code fp s2 H2 hm
  have hg1:=hm _ hr
  exact aP F_is_side (hg1.mono (by decide)) (aj (pdv 1) (aj (pdv 0) aq)) (aB (aB aQ))
  refine aD ?_ ?_
  refine cj ?_ (aF (aK jP)) bj
  refine fL ?_
  exact fM (aP F_part_all (hr.mono (by decide)) (aj (pdv 2) aq) (aB aQ))
  refine aF ?_
  refine aK ?_
  refine qP ?_
  refine yQ rfl T.b_any ?_
  refine oh ?_
  refine zj (own:=["group","side","k"]) (cap:=["points"]) (capI:=[0]) (ts1:=[0,1]) (ts2:=[2]) rfl hr ⟨rfl,by decide +kernel,⟨⟨rfl,by first|exact Or.inl rfl|exact Or.inr rfl⟩,trivial⟩,by decide +kernel,by decide +kernel⟩ (by decide +kernel) (by decide +kernel) hT ⟨c,rfl,hcd⟩ (mO T.b_zip (aj (pdv 1) (aj (pdv 2) aq))) (λAG cs C code fp s2 H2=>eG rfl (aV (aH (i:=0) (show(["group","side","k","points"]:List Str).Nodup by decide +kernel)) (aV (aH (i:=1) (show(["group","side","k","points"]:List Str).Nodup by decide +kernel)) cY))) ?_ ?_ (λAG cs C code fp s2 H2=>aH (i:=2) (show(["group","side","k","points"]:List Str).Nodup by decide +kernel)) ?_ ?_
  intro AG cs C code fp s2 H2 hm
  have hg1:=hm _ hr
  exact bu
  intro AG cs C code fp s2 H2 hm
  have hg1:=hm _ hr
  exact bT (pdv 0)
  intro AG cs C code fp s2 H2 hm
  have hg1:=hm _ hr
  exact bu
  intro AG cs C code fp s2 H2 hm
  have hg1:=hm _ hr
  exact aP F_is_beyond (hg1.mono (by decide)) (aj (pdv 1) (aj (cC (pdv 3) (pdv 2)) aq)) (aB (aB aQ))
abbrev vR:Stmt:=top 23
theorem wV:bx ["_law_found","_law_due"] ["_law_found","_law_due"] (aL vR):=⟨rfl,rfl,rfl,by decide +kernel,rfl,by decide +kernel,by decide +kernel⟩
theorem Gd(T:BI K mg)(F:gh K "_law_says" "_law_says" vR f fd Tb)(KB:K.In base)(hmg:mg "_law_says"=some (.ref f)):FI P w K mg base tb "_law_says" 2 (0+1) (aJ 2 (mH)):=
 dM F KB hmg wV rfl (λ_ _ _ _ _ _=>us2 λ_ _=>rfl) λc A outer s H E hcd hr=>by
  have nd:=wV.nd
  refine aF ?_
  refine aK ?_
  refine lO ?_ (jZ (nQ (iU hr) (pdv 0) (pdv 1)))
  exact jG T.b_isinstance T.b_bool PyProof.Rows.boot_bool (by decide) (pdv 0)
abbrev rA:Stmt:=top 30
theorem uN:bx ["_law_points","_law_groups","_law_thing"] ["_law_points","_law_groups","_law_thing"] (aL rA):=⟨rfl,rfl,rfl,by decide +kernel,rfl,by decide +kernel,by decide +kernel⟩
theorem Cm{cI cF iH:FF}(T:BI K mg)(F:gh K "_law_asked" "_law_asked" rA f fd Tb)(KB:K.In base)(hmg:mg "_law_asked"=some (.ref f))(F_Lparts:FI P w K mg base tb "_law_parts" 3 3 cI)(F_apart_holds:FI P w K mg base tb "apart_holds" 3 6 cF)(F_Lsays:FI P w K mg base tb "_law_says" 2 1 iH):FI P w K mg base tb "_law_asked" 3 (6+1) (aJ 3 (lz cI cF iH)):=
 dM F KB hmg uN rfl (λ_ _ _ _ _ _=>us3 λ_ _ _=>rfl) λc A outer s H E hcd hr=>by
  have nd:=uN.nd
  refine aF ?_
  refine aK ?_
  refine aP F_Lsays (hr.mono (by decide)) ?_ (aB (aB aQ))
  refine aj ?_ ?_
  exact aP F_apart_holds (hr.mono (by decide)) (aj (pdv 0) (aj (pdv 1) (aj (pdv 2) aq))) (aB (aB (aB aQ)))
  refine aj ?_ aq
  exact aP F_Lparts (hr.mono (by decide)) (aj (pdv 0) (aj (pdv 1) (aj (pdv 2) aq))) (aB (aB (aB aQ)))
abbrev wB:Stmt:=top 29
theorem xy:bx ["_law_paper","_law_number","_law_at","_law_row","_law_t","_law_k","_law_more","_law_less","_law_pairs","_law_way"] ["_law_paper","_law_number"] (aL wB):=⟨rfl,rfl,rfl,by decide +kernel,rfl,by decide +kernel,by decide +kernel⟩
theorem Gz(T:BI K mg)(F:gh K "_law_bent" "_law_bent" wB f fd Tb)(KB:K.In base)(hmg:mg "_law_bent"=some (.ref f)):FI P w K mg base tb "_law_bent" 2 (0+1) (aJ 10 (iB)):=
 dM F KB hmg xy rfl (λ_ _ _ _ _ _=>us2 λ_ _=>rfl) λc A outer s H E hcd hr=>by
  have nd:=xy.nd
  refine aD ?_ ?_
  refine bA (i:=2) nd ?_
  exact aG dj (aG lg (pdv 1) aA) (eN T.b_len (aj (pdv 0) aq))
  refine aD (ou (ts:=[3,4]) (cC (pdv 0) (pdv 2)) (eG rfl (aV (aH (i:=3) nd) (aV (aH (i:=4) nd) cY)))) ?_
  refine aD ?_ ?_
  refine bA (i:=5) nd ?_
  exact aG dj (aG lg (pdv 1) aA) (eN T.b_len (aj (pdv 3) aq))
  refine aD ?_ ?_
  refine bA (i:=6) nd ?_
  refine aG bH ?_ (eQ (pdv 3) (eO (aG bH (pdv 5) aA)) eU)
  refine aG bH (eQ (pdv 3) eU (eO (pdv 5))) ?_
  exact cg (aj (aG bH (cC (pdv 3) (pdv 5)) aA) aq)
  refine aD ?_ ?_
  refine bA (i:=7) nd ?_
  refine aG bH ?_ (eQ (pdv 3) (eO (aG bH (pdv 5) aA)) eU)
  refine aG bH (eQ (pdv 3) eU (eO (pdv 5))) ?_
  exact cg (aj (aG gk (cC (pdv 3) (pdv 5)) aA) aq)
  refine aD ?_ ?_
  refine bA (i:=8) nd ?_
  refine lE ?_
  refine aj (cg (aj (pdv 6) (aj (pdv 4) aq))) ?_
  refine aj (cg (aj (pdv 7) (aj (pdv 4) aq))) ?_
  refine aj ?_ ?_
  exact cg (aj (pdv 3) (aj (aG bH (pdv 4) aA) aq))
  refine aj ?_ ?_
  exact cg (aj (pdv 3) (aj (aG gk (pdv 4) aA) aq))
  refine aj ?_ ?_
  refine cg ?_
  exact aj (bY (rN T.b_list (aj (pdv 3) aq))) (aj (pdv 4) aq)
  refine aj ?_ ?_
  refine cg ?_
  exact aj (aG bH (pdv 3) (cg (aj aA aq))) (aj (pdv 4) aq)
  refine aj ?_ ?_
  exact cg (aj (pdv 3) (aj (nQ (iU hr) (pdv 4) aA) aq))
  exact aj (lE (aj (pdv 3) (aj (pdv 4) aq))) aq
  refine aD (bA (i:=9) nd (aG dj (pdv 1) aA)) ?_
  refine aD ?_ ?_
  refine cj (bI ud (pdv 9) aA) ?_ bj
  refine aF ?_
  refine aK ?_
  refine aG bH ?_ (eQ (pdv 0) (eO (aG bH (pdv 2) aA)) eU)
  exact aG bH (eQ (pdv 0) eU (eO (pdv 2))) (cg (aj (cC (pdv 8) (pdv 9)) aq))
  refine aD ?_ ?_
  refine cj (bI (iU hr) (pdv 9) aA) ?_ bj
  refine aF ?_
  refine aK ?_
  exact aG bH (eQ (pdv 0) eU (eO (pdv 2))) (eQ (pdv 0) (eO (aG bH (pdv 2) aA)) eU)
  refine aD ?_ ?_
  refine cj (bI (iU hr) (pdv 9) aA) ?_ bj
  refine aF ?_
  exact aK (aG bH (pdv 0) (eQ (pdv 0) eU (eO aA)))
  refine aD ?_ ?_
  exact cj (bI (iU hr) (pdv 9) aA) (aF (aK (Lp (pdv 0)))) bj
  refine aD ?_ ?_
  exact cj (bI (iU hr) (pdv 9) aA) (aF (aK (bY (rN T.b_list (aj (pdv 0) aq))))) bj
  refine aD ?_ ?_
  refine cj (bI (iU hr) (pdv 9) aA) ?_ bj
  refine aF ?_
  refine aK ?_
  refine jq T.b_tuple ?_
  refine aj ?_ aq
  refine bY ?_
  refine cM (own:=["_law_first","_law_last"]) (cap:=[]) (capI:=[]) (ts:=[0,1]) rfl ⟨rfl,by decide +kernel,trivial,by decide +kernel,by decide +kernel⟩ (by decide +kernel) (bT (pdv 0)) (λcs C fp s2 H2=>eG rfl (aV (aH (i:=0) (show(["_law_first","_law_last"]:List Str).Nodup by decide +kernel)) (aV (aH (i:=1) (show(["_law_first","_law_last"]:List Str).Nodup by decide +kernel)) cY))) ?_ ?_
  intro cs C fp s2 H2
  exact bu
  intro cs C fp s2 H2
  refine cg ?_
  refine aj ?_ (aj (aG dZ aA (pdv 1)) aq)
  refine jq T.b_tuple ?_
  refine aj ?_ aq
  refine bY ?_
  refine cM (own:=["_law_one"]) (cap:=[]) (capI:=[]) (ts:=[0]) rfl ⟨rfl,by decide +kernel,trivial,by decide +kernel,by decide +kernel⟩ (by decide +kernel) (bT (pdv 0)) (λcs C fp s2 H2=>aH (i:=0) (show(["_law_one"]:List Str).Nodup by decide +kernel)) ?_ ?_
  intro cs C fp s2 H2
  exact bu
  intro cs C fp s2 H2
  exact aG dZ aA (pdv 0)
  refine aF ?_
  refine aK ?_
  refine jq T.b_tuple ?_
  refine aj ?_ aq
  refine bY ?_
  refine cM (own:=["_law_first","_law_last"]) (cap:=[]) (capI:=[]) (ts:=[0,1]) rfl ⟨rfl,by decide +kernel,trivial,by decide +kernel,by decide +kernel⟩ (by decide +kernel) (bT (pdv 0)) (λcs C fp s2 H2=>eG rfl (aV (aH (i:=0) (show(["_law_first","_law_last"]:List Str).Nodup by decide +kernel)) (aV (aH (i:=1) (show(["_law_first","_law_last"]:List Str).Nodup by decide +kernel)) cY))) ?_ ?_
  intro cs C fp s2 H2
  exact bu
  intro cs C fp s2 H2
  exact cg (aj (pdv 0) (aj (aG bH (pdv 1) aA) aq))
abbrev uv:Stmt:=top 31
theorem GR:bx ["_law_script","_law_drawn","_law_k","_law_points","_law_groups","_law_paper","_law_kept","_law_j","_law_one"] ["_law_script"] (aL uv):=⟨rfl,rfl,rfl,by decide +kernel,rfl,by decide +kernel,by decide +kernel⟩
theorem Pa{gG bQ gC cI dN iD:FF}(T:BI K mg)(F:gh K "law" "law" uv f fd Tb)(KB:K.In base)(F_Ldraws:FI P w K mg base tb "_law_draws" 1 2 gG)(F_Lnext:FI P w K mg base tb "_law_next" 1 1 bQ)(F_Lapart:FI P w K mg base tb "_law_apart" 3 4 gC)(F_Lparts:FI P w K mg base tb "_law_parts" 3 3 cI)(F_Lasked:FI P w K mg base tb "_law_asked" 3 7 dN)(F_Lbent:FI P w K mg base tb "_law_bent" 2 1 iD):qp P w K mg base CX0 (7+1) f fd ["_law_script"] (spD K tb 1 (aJ 9 (pQ gG bQ gC cI dN iD))):=
 IV F KB GR rfl λc A outer s H E hcd hr=>by
  have nd:=GR.nd
  refine aD ?_ ?_
  exact bA (i:=1) nd (aP F_Ldraws (hr.mono (by decide)) (aj (pdv 0) aq) (aB aQ))
  refine aD ?_ (aF (aK jP))
  refine gP (ts:=[2]) PassesOwn.never rfl (cJ T.b_range (aj aA aq)) (aH (i:=2) nd) ?_
  refine aD ?_ ?_
  refine ou (ts:=[3,4,5]) ?_ (eG rfl (aV (aH (i:=3) nd) (aV (aH (i:=4) nd) (aV (aH (i:=5) nd) cY))))
  refine aP F_Lapart (hr.mono (by decide)) ?_ (aB (aB (aB aQ)))
  refine aj (pdv 1) ?_
  refine aj ?_ ?_
  refine aG bH aA ?_
  exact aG dj (aP F_Lnext (hr.mono (by decide)) (aj (pdv 1) aq) (aB aQ)) aA
  refine aj ?_ aq
  refine aG bH aA ?_
  exact aG dj (aP F_Lnext (hr.mono (by decide)) (aj (pdv 1) aq) (aB aQ)) aA
  refine aD (bA (i:=6) nd (bY (rN T.b_list (aj (pdv 3) aq)))) ?_
  refine aD ?_ ?_
  refine cj ?_ (aF (aK jP)) bj
  refine kY ?_
  refine lY ?_ ?_
  refine fL ?_
  refine fM ?_
  exact aP F_Lparts (hr.mono (by decide)) (aj (pdv 3) (aj (pdv 4) (aj (pdv 5) aq))) (aB (aB (aB aQ)))
  refine kZ ?_
  refine fL ?_
  refine fM ?_
  exact aP F_Lasked (hr.mono (by decide)) (aj (pdv 3) (aj (pdv 4) (aj (pdv 5) aq))) (aB (aB (aB aQ)))
  refine aD ?_ ?_
  refine gP (ts:=[7]) PassesOwn.never rfl (cJ T.b_range (aj aA aq)) (aH (i:=7) nd) ?_
  refine aF ?_
  refine cj ?_ (aF (aK jP)) bj
  refine fL ?_
  refine fM ?_
  refine aP F_Lasked (hr.mono (by decide)) ?_ (aB (aB (aB aQ)))
  refine aj (pdv 3) ?_
  refine aj (pdv 4) ?_
  refine aj ?_ aq
  refine aP F_Lbent (hr.mono (by decide)) ?_ (aB (aB aQ))
  refine aj (pdv 5) ?_
  exact aj (aP F_Lnext (hr.mono (by decide)) (aj (pdv 1) aq) (aB aQ)) aq
  refine aD (bA (i:=8) nd (lE (aj (cC (pdv 4) aA) aq))) ?_
  refine aD ?_ ?_
  refine cj ?_ (aF (aK jP)) bj
  refine kY ?_
  refine lY ?_ ?_
  refine fL ?_
  refine fM ?_
  refine aP F_Lasked (hr.mono (by decide)) ?_ (aB (aB (aB aQ)))
  refine aj (pdv 3) ?_
  exact aj (pdv 8) (aj (eQ (pdv 5) eU (eO aA)) aq)
  refine kZ ?_
  refine fL ?_
  refine fM ?_
  refine aP F_Lasked (hr.mono (by decide)) ?_ (aB (aB (aB aQ)))
  refine aj (pdv 3) ?_
  refine aj (pdv 8) ?_
  refine aj ?_ aq
  refine cg ?_
  refine aj ?_ aq
  refine cg ?_
  refine aj ?_ (aj (lJ aA) aq)
  refine aG dZ (cg (aj aA aq)) ?_
  exact aG gk (eN T.b_len (aj (cC (pdv 3) aA) aq)) aA
  refine aF ?_
  exact cj (bI (uV hr) (pdv 3) (pdv 6)) (aF (aK jP)) bj
noncomputable def bw:FF:=trunc (aJ 3 (iz))
noncomputable def gG:FF:=aJ 5 (lF bw)
noncomputable def bQ:FF:=trunc (aJ 1 (kO))
noncomputable def gW:FF:=trunc (aJ 3 (fY))
noncomputable def jB:FF:=trunc (aJ 2 (pU))
noncomputable def bZ:FF:=trunc (aJ 4 (il jB))
noncomputable def gK:FF:=trunc (aJ 9 (jQ bw gW bZ))
noncomputable def cZ:FF:=trunc (aJ 2 (nY))
noncomputable def dX:FF:=trunc (aJ 3 (gR cZ))
noncomputable def gC:FF:=trunc (aJ 17 (ji bQ bw gK dX bZ))
noncomputable def fV:FF:=trunc (aJ 1 (my))
noncomputable def fP:FF:=trunc (aJ 2 (ie fV))
noncomputable def fu:FF:=trunc (aJ 2 (jO))
noncomputable def fO:FF:=trunc (aJ 2 (jD cZ fu))
noncomputable def cI:FF:=trunc (aJ 5 (jn fP fO))
noncomputable def cU:FF:=trunc (aJ 2 (iJ))
noncomputable def bC:FF:=trunc (aJ 1 (dY))
noncomputable def cT:FF:=trunc (aJ 1 (dq bC))
noncomputable def gw:FF:=trunc (aJ 4 (jd cU cT bC))
noncomputable def aU:FF:=trunc (aJ 2 (bD))
noncomputable def gB:FF:=trunc (aJ 2 (je aU))
noncomputable def fQ:FF:=trunc (aJ 2 (ik gB))
noncomputable def eF:FF:=trunc (aJ 4 (gD aU))
noncomputable def cF:FF:=trunc (aJ 4 (fD cU gw fQ eF))
noncomputable def iH:FF:=trunc (aJ 2 (mH))
noncomputable def dN:FF:=trunc (aJ 3 (lz cI cF iH))
noncomputable def iD:FF:=trunc (aJ 10 (iB))
noncomputable def yZ:FF:=aJ 9 (pQ gG bQ gC cI dN iD)
abbrev Gt(K:PySem.W.Frag)(x:Str)(s:Stmt):Prop:=∃f c P fd,Got K x s f c P fd
abbrev Nn(K:PySem.W.Frag)(x:Str):Prop:=PySem.W.nsIn K mainGlobals x=some none
abbrev Rq(q:Program)(x:Str):Prop:=((recsOf q).find? (λe=>e.name==x)).isSome=true
theorem LQ{l:PySem.W.OpenLaw}{q:Program}{lo:List Str}{mean:ExcName->Option Value}{w:World}{K:PySem.W.Frag}{h:Heap}{mg mb:Str->Option Value}{fa:Addr}
  (X:K.In h) (G:Top q lo mean mg mb h) (hfa:mg "law"=some (.ref fa))
  (d0:Gt K "_law_mixed" sY)
  (d1:Gt K "_law_draws" rJ)
  (d2:Gt K "_law_next" vf)
  (d3:Gt K "_law_place" sW)
  (d4:Gt K "_law_gcd" zJ)
  (d5:Gt K "_law_lowest" pM)
  (d6:Gt K "_law_point" rQ)
  (d7:Gt K "_law_sum" Ad)
  (d8:Gt K "_law_ceiling" nF)
  (d9:Gt K "_law_apart" qW)
  (d10:Gt K "_law_whole" qU)
  (d11:Gt K "_law_is_pair" nG)
  (d12:Gt K "_law_below" rK)
  (d13:Gt K "_law_behind" pg)
  (d14:Gt K "_law_parts" rF)
  (d15:Gt K "is_row" qZ)
  (d16:Gt K "is_number" lR)
  (d17:Gt K "is_numbers" lw)
  (d18:Gt K "is_side" pB)
  (d19:Gt K "sum_of_products" gO)
  (d20:Gt K "weighed" pC)
  (d21:Gt K "part_all" nJ)
  (d22:Gt K "is_beyond" lU)
  (d23:Gt K "apart_holds" jE)
  (d24:Gt K "_law_says" vR)
  (d25:Gt K "_law_asked" rA)
  (d26:Gt K "_law_bent" wB)
  (d27:Gt K "law" uv)
  (z_abs:Nn K "abs")
  (z_all:Nn K "all")
  (z_any:Nn K "any")
  (z_bool:Nn K "bool")
  (z_int:Nn K "int")
  (z_isinstance:Nn K "isinstance")
  (z_len:Nn K "len")
  (z_list:Nn K "list")
  (z_max:Nn K "max")
  (z_min:Nn K "min")
  (z_range:Nn K "range")
  (z_sum:Nn K "sum")
  (z_tuple:Nn K "tuple")
  (z_zip:Nn K "zip")
  (r_is_numbers:Rq q "is_numbers")
  (r_sum_of_products:Rq q "sum_of_products")
  (r_apart_holds:Rq q "apart_holds")
  (hnt:PySem.W.noTabs K=true):
  ∃(fd:FuncData)(tb:List Addr),(∀(s:Shared)(u:Value),BindsTo s fd ⟨[u],[]⟩ [("_law_script",u)])/\(∀P∈tb,∃c,PySem.W.CodeHd h c P/\h.get? P=some (PySem.W.tabObj #[]))/\PySem.W.noTabs K=true/\
   ∀base:Heap,K.In base->base.Ns mainGlobals mg->qp l.prog w K mg base CX0 8 fa fd ["_law_script"] (spD K tb 1 yZ):=by
 have N:=λ{n:Str}(h:Nn K n)=>PySem.W.mg_none_of X G.g h
 have M:=λ{n:Str}{v:Value}(e:PySem.W.nsIn K mainGlobals n=some (some v))=>PySem.W.mg_of X G.g e
 have T:BI K mg:=⟨N z_abs,N z_all,N z_any,N z_bool,N z_int,N z_isinstance,N z_len,N z_list,N z_max,N z_min,N z_range,N z_sum,N z_tuple,N z_zip⟩
 obtain⟨f0,c0,P0,_,G0⟩:=d0
 obtain⟨f1,c1,P1,_,G1⟩:=d1
 obtain⟨f2,c2,P2,_,G2⟩:=d2
 obtain⟨f3,c3,P3,_,G3⟩:=d3
 obtain⟨f4,c4,P4,_,G4⟩:=d4
 obtain⟨f5,c5,P5,_,G5⟩:=d5
 obtain⟨f6,c6,P6,_,G6⟩:=d6
 obtain⟨f7,c7,P7,_,G7⟩:=d7
 obtain⟨f8,c8,P8,_,G8⟩:=d8
 obtain⟨f9,c9,P9,_,G9⟩:=d9
 obtain⟨f10,c10,P10,_,G10⟩:=d10
 obtain⟨f11,c11,P11,_,G11⟩:=d11
 obtain⟨f12,c12,P12,_,G12⟩:=d12
 obtain⟨f13,c13,P13,_,G13⟩:=d13
 obtain⟨f14,c14,P14,_,G14⟩:=d14
 obtain⟨f15,c15,P15,_,G15⟩:=d15
 obtain⟨f16,c16,P16,_,G16⟩:=d16
 obtain⟨f17,c17,P17,_,G17⟩:=d17
 obtain⟨f18,c18,P18,_,G18⟩:=d18
 obtain⟨f19,c19,P19,_,G19⟩:=d19
 obtain⟨f20,c20,P20,_,G20⟩:=d20
 obtain⟨f21,c21,P21,_,G21⟩:=d21
 obtain⟨f22,c22,P22,_,G22⟩:=d22
 obtain⟨f23,c23,P23,_,G23⟩:=d23
 obtain⟨f24,c24,P24,_,G24⟩:=d24
 obtain⟨f25,c25,P25,_,G25⟩:=d25
 obtain⟨f26,c26,P26,_,G26⟩:=d26
 obtain⟨f27,c27,P27,_,G27⟩:=d27
 have m_law:=M G27.m
 have e:=hfa.symm.trans m_law
 cases e
 obtain⟨kV,dc,pm,an,ct,rfl⟩:=G27.e
 refine⟨PySem.W.fnOf "law" "law" (jY uv) (iY uv) (aL uv) .none kV dc pm an (.ref c27) ct,[P17,P19,P23],λs u=>.of_eq rfl,λP hP=>?_,hnt,λbase kb nb=>?_⟩
 .have hP:P=P17∨P=P19∨P=P23:=by simpa using hP
  rcases hP with rfl|rfl|rfl
  .exact⟨c17,zH G X r_is_numbers G17.t⟩
  .exact⟨c19,zH G X r_sum_of_products G19.t⟩
  .exact⟨c23,zH G X r_apart_holds G23.t⟩
 .have U {φ nm n k} (h:FI l.prog w K mg base [P17,P19,P23] nm n k φ):=h
  have iz:=U (φ:=bw) (Cp T G0.F kb (M G0.m)).trunc
  have lF:=U (φ:=gG) (CW T G1.F kb (M G1.m) iz)
  have kO:=U (φ:=bQ) (Eu T G2.F kb (M G2.m)).trunc
  have fY:=U (φ:=gW) (Cw T G3.F kb (M G3.m)).trunc
  have pU:=U (φ:=jB) (Kr T G4.F kb (M G4.m)).trunc
  have il:=U (φ:=bZ) (yM T G5.F kb (M G5.m) pU).trunc
  have jQ:=U (φ:=gK) (CQ T G6.F kb (M G6.m) iz fY il).trunc
  have pK:=U (φ:=cZ) (Ij T G7.F kb (M G7.m)).trunc
  have qL:=U (φ:=dX) (yE T G8.F kb (M G8.m) pK).trunc
  have ji:=U (φ:=gC) (Cj T G9.F kb (M G9.m) kO iz jQ qL il).trunc
  have my:=U (φ:=fV) (CP T G10.F kb (M G10.m)).trunc
  have ie:=U (φ:=fP) (yw T G11.F kb (M G11.m) my).trunc
  have jO:=U (φ:=fu) (BL T G12.F kb (M G12.m)).trunc
  have jJ:=U (φ:=fO) (zc T G13.F kb (M G13.m) pK jO).trunc
  have jn:=U (φ:=cI) (BP T G14.F kb (M G14.m) ie jJ).trunc
  have iJ:=U (φ:=cU) (Bx T G15.F kb (M G15.m)).trunc
  have dY:=U (φ:=bC) (vH T G16.F kb (M G16.m)).trunc
  have dq:=U (φ:=cT) (tO T G17.F kb (M G17.m) dY (by simp)).trunc
  have jd:=U (φ:=gw) (zK T G18.F kb (M G18.m) iJ dq dY).trunc
  have bD:=U (φ:=aU) (nH T G19.F kb (M G19.m) (by simp)).trunc
  have je:=U (φ:=gB) (zN T G20.F kb (M G20.m) bD).trunc
  have ik:=U (φ:=fQ) (xW T G21.F kb (M G21.m) je).trunc
  have gD:=U (φ:=eF) (vB T G22.F kb (M G22.m) bD).trunc
  have fD:=U (φ:=cF) (qO T G23.F kb (M G23.m) iJ jd ik gD (by simp)).trunc
  have mH:=U (φ:=iH) (Gd T G24.F kb (M G24.m)).trunc
  have xT:=U (φ:=dN) (Cm T G25.F kb (M G25.m) jn fD mH).trunc
  have Bh:=U (φ:=iD) (Gz T G26.F kb (M G26.m)).trunc
  exact Pa T G27.F kb lF kO ji jn xT Bh
end Lk33
namespace LG
open PySem PySem.Spec PyProof.Rows L2 L3
theorem Fj(a b:Int):Int.gcd b (a.fmod b)=Int.gcd a b:=by
 have h:a.fmod b=a-b*a.fdiv b:=by have:=Int.mul_fdiv_add_fmod a b;omega
 rw[h,Int.gcd_comm]
 have:a-b*a.fdiv b=a+b*(- a.fdiv b):=by rw[Int.mul_neg];omega
 rw[this,Int.gcd_add_mul_left_left]
theorem Hs(a b:Int)(h:b≠0):(a.fmod b).natAbs<b.natAbs:=by
 rw[Int.fmod_eq_emod]
 have h1:=Int.emod_nonneg a h
 have h2:=Int.emod_lt a h
 by_cases hd:0<=b∨b ∣ a
 .rw[if_pos hd];omega
 .rw[if_neg hd]
  have h3:a % b≠0:=λz=>hd (.inr (Int.dvd_of_emod_eq_zero z))
  omega
abbrev eucC:TF:=toB (M2 (ao 1) (mC (.int 0)) oNe)
abbrev eucB:SF:=Cq 0 1 (aa (ao 1) (aa (M2 (ao 0) (ao 1) oMod) (au)))
theorem ne_int(a b:Int)(μ:Mu):oNe (.int a) (.int b) μ=some (.bl (!(a==b)),μ):=by
 unfold oNe rsv
 simp[cX,gV,eqD]
theorem euc:∀(n:Nat)(a b:Int)(μ:Mu),b.natAbs<=n->∃a',fK eucC eucB (n+1) [some (.int a),some (.int b)] μ=some (.nx,[some (.int a'),some (.int 0)],μ)/\a'.natAbs=Int.gcd a b/\(0<=a->0<=b->0<=a')
 |n,a,b,μ,h=>by
  by_cases hb:b=0
  .subst hb
   refine⟨a,?_,by simp,λh _=>h⟩
   unfold fK
   simp[toB,M2,ao,mC,ne_int]
  .cases n with
   |zero=>omega
   |succ n=>
    obtain⟨a',e,hg,hs⟩:=euc n b (a.fmod b) μ (by have:=Hs a b hb;omega)
    refine⟨a',?_,by rw[hg,Fj],λh0 h1=>hs h1 (Int.fmod_nonneg_of_pos a (by omega))⟩
    unfold fK
    simp[toB,M2,ao,mC,ne_int,hb,Cq,aa,au,oMod,e]
def Ba(φ:FF):Prop:=∀(a b:Int)(μ:Mu),φ [.int a,.int b] μ=some (.int (Int.gcd a b),μ)
theorem Jd:Ba (aJ 2 pU):=λa b μ=>by
 obtain⟨a',e,hg,hs⟩:=euc _ a b μ (Zg _)
 have ew:=uf e
 unfold aJ pU
 have hv:(if a'<0 then -a' else a')=(Int.gcd a b:Int):=by split<;>omega
 simp[aW,ew,bG,aa,au,MC,ao,bh,nM,hv]
def dg(g:Nat)(ns:List Int):Nat:=ns.foldl (λg n=>Int.gcd g n) g
theorem bL(items:List D)(μ:Mu):Src.ok ⟨items,none⟩ μ:=λn e=>by cases e
def Gr(φ:FF):Prop:=∀(ns:List Int)(μ:Mu),φ [.lst (ns.map .int)] μ=some (.int (dg 0 ns:Nat),μ)
theorem wR{th:D->cR}{f:D->D}{μ:Mu}:∀(items:List D),(∀d∈items,th d μ=some (f d,μ))->CJ (items.map th) μ=some (items.map f,μ)
 | [],_=>rfl
 |d::r,h=>by
  have h1:=h d (by simp)
  have h2:=wR r λx hx=>h x (by simp[hx])
  rw[Zj,Zj]
  unfold CJ
  simp[h1,h2]
theorem qG{all:List D}{h:GF}{fe:EF}{δb:En}{f:D->D}{μ:Mu}:∀(items:List D),(∀d∈items,∃δ1,h d δb μ=some δ1/\fe δ1 μ=some (f d,μ))->lcL ⟨all,none⟩ h aR fe δb items μ=some (items.map f,μ)
 | [],_=>by unfold lcL;simp[bL]
 |d::r,hd=>by
  obtain⟨δ1,h1,h2⟩:=hd d (by simp)
  have h3:=qG (all:=all) r λx hx=>hd x (by simp[hx])
  unfold lcL
  simp[bL,h1,aR,h2,h3]
def Sm(b:Nat)(n:Int):Prop:=n.natAbs<2 ^ b
theorem bits_le{b:Nat}{n:Int}(h:Sm b n):Builtin.Int.intBits n<=b+1:=by
 unfold Builtin.Int.intBits
 split
 .exact Nat.zero_le _
 .rename_i h'
  have hz:n≠0:=by simpa using h'
  have hn:n.natAbs≠0:=by omega
  have:=(Nat.log2_lt hn).mpr h
  omega
theorem Gs{b:Nat}{n:Int}(h:Sm b n):n.natAbs.log2<b+1:=by
 by_cases h0:n.natAbs=0
 .rw[h0];simp
 .have:=(Nat.log2_lt h0).mpr h
  omega
theorem FT{a b:Nat}{x y:Int}(hx:Sm a x)(hy:Sm b y)(h:a+b+2<=134217728):mF x y<=134217728:=by
 have:=bits_le hx
 have:=bits_le hy
 unfold mF
 omega
theorem cG{a b:Nat}{x y:Int}(μ:Mu)(hx:Sm a x)(hy:Sm b y)(h:a+b+2<=134217728):cB (.int x) (.int y) μ=some (.int (x*y),μ):=by
 unfold cB
 simp[FT hx hy h]
theorem jV{b:Nat}{x y:Int}(μ:Mu)(h0:y≠0)(hy:Sm b y)(h:b+1<=9000):oDiv (.int x) (.int y) μ=some (.int (x.fdiv y),μ):=by
 unfold oDiv
 have:=Gs hy
 simp[h0,show y.natAbs.log2<9000 by omega]
theorem iK{x y:Int}(μ:Mu)(h0:y≠0):oMod (.int x) (.int y) μ=some (.int (x.fmod y),μ):=by
 unfold oMod
 simp[h0]
theorem jM:∀(ns:List Int)(g:Nat),(∀n∈ns,((dg g ns:Nat):Int) ∣ n)/\dg g ns ∣ g
 | [],g=>⟨λn h=>by simp at h,Nat.dvd_refl _⟩
 |n::ns,g=>by
  obtain⟨h1,h2⟩:=jM ns (Int.gcd g n)
  have e:dg g (n::ns)=dg (Int.gcd g n) ns:=rfl
  rw[e]
  refine⟨λm hm=>?_,?_⟩
  .rcases Zi.mp hm with z|z
   .subst z
    exact Int.dvd_trans (Int.ofNat_dvd.mpr h2) (Int.gcd_dvd_right _ _)
   .exact h1 m z
  .refine Nat.dvd_trans h2 ?_
   have:=Int.gcd_dvd_left (g:Int) n
   exact Int.ofNat_dvd.mp this
theorem oH{ns:List Int}{g:Nat}(h:g≠0∨∃n∈ns,n≠0):dg g ns≠0:=λz=>by
 obtain⟨h1,h2⟩:=jM ns g
 rw[z]at h1 h2
 rcases h with h|⟨n,hn,h⟩
 .exact h (Nat.eq_zero_of_zero_dvd h2)
 .have:=h1 n hn
  exact h (by simpa using this)
def Ob(φ:FF):Prop:=∀(ns:List Int)(μ:Mu),dg 0 ns≠0->Sm 8000 (dg 0 ns:Nat)->ns.length<=100->φ [.lst (ns.map .int)] μ=some (.tup (ns.map λn=>.int (n.fdiv (dg 0 ns:Nat))),μ)
theorem RQ{φ:FF}(hφ:Gr φ):Ob (aJ 2 (rC φ)):=λns μ h0 hs hl=>by
 have e:CJ ((ns.map D.int).map (thG (hName 0) (M2 (ao 0) (ao 1) oDiv) (bU ["number"] [some (.lst (ns.map .int)),some (.int (dg 0 ns:Nat))] [1]))) μ=some ((ns.map D.int).map (λd=>match d with| .int n=>.int (n.fdiv (dg 0 ns:Nat))|_=>.non),μ):=by
  refine wR _ λd hd=>?_
  obtain⟨n,_,rfl⟩:=Zq.mp hd
  have:=jV (x:=n) μ (show((dg 0 ns:Nat):Int)≠0 by omega) hs (by decide)
  simp[thG,hName,bU,M2,ao,this]
 unfold aJ rC
 have hz:ns.length<=sizeLine:=Zl hl (by decide)
 rw[List.map_map,List.map_map]at e
 simp[aW,bJ,MC,aa,au,ao,hφ ns μ,bG,Eb,qd,cV,srcOf,hz,e]
def sgn(b:Int):Int:=if b>0 then 1 else -1
theorem Mw{b:Nat}{n s:Int}(hs:s=1∨s= -1)(h:Sm b n):Sm b (s*n):=by
 unfold Sm at *
 rw[Int.natAbs_mul]
 rcases hs with rfl|rfl<;>simpa using h
theorem Np(b:Int):sgn b=1∨sgn b= -1:=by unfold sgn;split<;>simp
theorem yz{φ:FF}(hφ:Ba φ)(x y:D)(all:List D):∀(ns:List Int)(c:Int)(o:Option D)(μ:Mu),∃(c':Int)(o':Option D),
  forL ⟨all,none⟩ (hName 3) (bJ 2 (MC (aa (ao 2) (aa (ao 3) (au))) φ)) (ns.map D.int) [some x,some y,some (.int c),o] μ=some (.nx,[some x,some y,some (.int c'),o'],μ)/\c'.natAbs=dg c.natAbs ns/\(0<=c∨ns≠[]->0<=c')
 | [],c,o,μ=>⟨c,o,by unfold forL;simp[bL],rfl,λh=>h.elim id λz=>absurd rfl z⟩
 |n::ns,c,o,μ=>by
  obtain⟨c',o',e,hc,hn0⟩:=yz hφ x y all ns (Int.gcd c n) (some (.int n)) μ
  refine⟨c',o',?_,?_,λ_=>hn0 (.inl (Int.natCast_nonneg _))⟩
  .rw[Zj]
   unfold forL
   simp[bL,hName,bJ,MC,aa,au,ao,hφ c n,e]
  .rw[hc]
   show _=dg (Int.gcd (c.natAbs:Nat) n) ns
   congr 1
def qe(φ:FF):Prop:=∀(ns:List Int)(b:Int)(μ:Mu),b≠0->Sm 4000 b->ns.length<=50->ns≠[]->
 φ [.lst (ns.map .int),.int b] μ=some (.tup ((ns++[b]).map λn=>.int (n.fdiv (sgn b*(dg b.natAbs ns:Nat)))),μ)
theorem Mi{φ:FF}(hφ:Ba φ):qe (aJ 4 (il φ)):=λns b μ hb hs hl hne=>by
 obtain⟨c',o',e,hc,hc0⟩:=yz hφ (.lst (ns.map .int)) (.int b) (ns.map .int) ns b none μ
 have hsg:=Np b
 have hg0:dg b.natAbs ns≠0:=oH (.inl (by omega))
 have hgle:dg b.natAbs ns<=b.natAbs:=Nat.le_of_dvd (by omega) (jM ns b.natAbs).2
 have hdiv:∀δo,∃δ',sIf (toB (M2 (ao 1) (mC (.int 0)) oLt)) (bJ 2 (M2 (mC (.int 0)) (MC (aa (ao 2) (au)) (bh nM)) dU)) bR [some (.lst (ns.map .int)),some (.int b),some (.int c'),δo] μ=some (.nx,δ',μ)/\(0<=c'->δ'=[some (.lst (ns.map .int)),some (.int b),some (.int (sgn b*(dg b.natAbs ns:Nat))),δo]):=λδo=>by
  by_cases hn:b<0
  .refine⟨[some (.lst (ns.map .int)),some (.int b),some (.int (0-if c'<0 then -c' else c')),δo],by simp[sIf,toB,M2,ao,mC,oLt,hn,bJ,MC,aa,au,bh,nM,dU],λhc0=>?_⟩
   have h1:sgn b= -1:=by unfold sgn;rw[if_neg (by omega)]
   rw[h1,if_neg (by omega)]
   have:c'=(dg b.natAbs ns:Nat):=by omega
   rw[this]
   simp
  .refine⟨[some (.lst (ns.map .int)),some (.int b),some (.int c'),δo],by simp[sIf,toB,M2,ao,mC,oLt,hn,bR],λhc0=>?_⟩
   have h1:sgn b=1:=by unfold sgn;rw[if_pos (by omega)]
   have:c'=(dg b.natAbs ns:Nat):=by omega
   rw[h1,this]
   simp
 obtain⟨δ',e3,e4⟩:=hdiv o'
 have e5:=e4 (hc0 (.inr hne))
 subst e5
 have hd0:sgn b*((dg b.natAbs ns:Nat):Int)≠0:=by rcases hsg with h|h<;>rw[h]<;>omega
 have hds:Sm 4000 (sgn b*((dg b.natAbs ns:Nat):Int)):=Mw hsg (by unfold Sm at *;simp only[Int.natAbs_natCast];omega)
 have eL:lcL ⟨ns.map D.int,none⟩ (hName 0) aR (M2 (ao 0) (ao 1) oDiv) (bU ["_law_number"] [some (.lst (ns.map .int)),some (.int b),some (.int (sgn b*(dg b.natAbs ns:Nat))),o'] [2]) (ns.map D.int) μ=some ((ns.map D.int).map (λd=>match d with| .int n=>.int (n.fdiv (sgn b*(dg b.natAbs ns:Nat)))|_=>.non),μ):=by
  refine qG _ λd hd=>?_
  obtain⟨n,_,rfl⟩:=Zq.mp hd
  have:=jV (x:=n) μ hd0 hds (by decide)
  exact⟨_,rfl,by simp[hName,bU,M2,ao,this]⟩
 rw[List.map_map]at eL
 have eL2:lcL ⟨ns.map D.int,none⟩ (hName 0) aR (M2 (ao 0) (ao 1) oDiv) (bU ["_law_number"] [some (.lst (ns.map .int)),some (.int b),some (.int (sgn b*(dg b.natAbs ns:Nat))),o'] [2]) (ns.map D.int) μ=some (ns.map (λn=>D.int (n.fdiv (sgn b*(dg b.natAbs ns:Nat)))),μ):=eL
 have eD:=jV (x:=b) μ hd0 hds (by decide)
 have hz:ns.length<=sizeLine:=Zl hl (by decide)
 have hz2:ns.length+1<=sizeLine:=Zl (by omega:ns.length+1<=100) (by decide)
 have h1s:1<=sizeLine:=by decide
 unfold aJ il
 simp[aW,bJ,ao,jw,cV,srcOf,e,e3,bG,M2,MC,aa,au,mFz,lLC,hz,eL2,dD,bM,eD,oTup,h1s,bc,hz2]
theorem aZ{a b:Nat}{x:Int}(h:Sm a x)(hab:a<=b):Sm b x:=Zc h (Nat.pow_le_pow_right (by decide) hab)
theorem kh{a b:Nat}{x y:Int}(hx:Sm a x)(hy:Sm b y):Sm (a+b) (x*y):=by
 unfold Sm at *
 rw[Int.natAbs_mul,Nat.pow_add]
 exact Nat.mul_lt_mul'' hx hy
theorem wC{a:Nat}{x y:Int}(hx:Sm a x)(hy:Sm a y):Sm (a+1) (x+y):=by
 unfold Sm at *
 rw[Nat.pow_succ]
 have:=Int.natAbs_add_le x y
 omega
def Dr(x:Int):Prop:=0<=x/\x<2147483648
theorem mK:∀(L:List Int),fH (L.map D.int)=true
 | []=>by unfold fH;rfl
 |x::L=>by
  rw[Zj]
  unfold fH
  rw[mK L]
  simp[cX]
theorem oO:∀(L:List Int),iV (L.map D.int)=0
 | []=>by unfold iV;rfl
 |x::L=>by
  rw[Zj]
  unfold iV
  rw[oO L]
  simp[gV]
theorem wg{ds:List D}{i:Int}(h0:0<=i)(h1:i<ds.length):∃d,d∈ds/\atI ds i=some d:=by
 have hi:i.toNat<ds.length:=by omega
 refine⟨ds[i.toNat],List.getElem_mem hi,?_⟩
 unfold atI ixN
 rw[if_pos h0,if_pos h1]
 simp[hi]
theorem bF{x m:Int}(hm:0<m):0<=x.fmod m/\x.fmod m<m:=⟨Int.fmod_nonneg_of_pos x hm,Int.fmod_lt_of_pos x hm⟩
def lA(φ:FF):Prop:=∀(x k:Int)(μ:Mu),0<=k->k<1000->∃r,φ [.int x,.int k] μ=some (.int r,μ)/\Dr r
theorem Mt:lA (aJ 3 iz):=λx k μ h0 h1=>by
 obtain⟨a0,a1⟩:=bF (x:=x) (m:=2147483647) (by decide)
 have w1:=iK (x:=x) (y:=2147483647) μ (by decide)
 have sa:Sm 31 (x.fmod 2147483647):=by unfold Sm;have e:(2:Nat) ^ 31=2147483648:=by decide
                                       omega
 have m1:=cG (x:=x.fmod 2147483647) (y:=48271) μ sa (show Sm 16 48271 by unfold Sm;decide) (by decide)
 have sk:Sm 10 k:=by unfold Sm;have e:(2:Nat) ^ 10=1024:=by decide
                     omega
 have m2:=cG (x:=7919) (y:=k) μ (show Sm 13 7919 by unfold Sm;decide) sk (by decide)
 have m3:=cG (x:=7919*k) (y:=k) μ (kh (show Sm 13 7919 by unfold Sm;decide) sk) sk (by decide)
 have w2:=iK (x:=x.fmod 2147483647*48271+7919*k*k+104729) (y:=2147483647) μ (by decide)
 obtain⟨b0,b1⟩:=bF (x:=x.fmod 2147483647*48271+7919*k*k+104729) (m:=2147483647) (by decide)
 generalize hn:(x.fmod 2147483647*48271+7919*k*k+104729).fmod 2147483647=n at *
 have sn:Sm 31 n:=by unfold Sm;have e:(2:Nat) ^ 31=2147483648:=by decide
                     omega
 have m4:=cG (x:=n) (y:=n) μ sn sn (by decide)
 have w3:=iK (x:=n*n) (y:=2147483629) μ (by decide)
 obtain⟨c0,c1⟩:=bF (x:=n*n) (m:=2147483629) (by decide)
 refine⟨(n*n).fmod 2147483629,?_,c0,by omega⟩
 unfold aJ iz
 simp[aW,bJ,M2,ao,mC,w1,m1,m2,m3,bc,w2,bG,m4,w3]
theorem vO{δ:En}{L:List Int}{y:Int}{fs:AF}(h1:δ[1]? =some (some (.cell 0)))(h2:fs δ [some (L.map .int)]=some ([.int y],[some (L.map .int)]))(hl:L.length<10000):
  fU (ao 1) fs δ [some (L.map .int)]=some (.non,[some ((L++[y]).map .int)]):=by
 have hz:L.length<sizeLine:=Zc hl (by decide)
 unfold fU
 simp[ao,h1,h2,gZ,hz]
theorem Qy{φ:FF}(hφ:lA φ)(s:D)(k c:Int)(hk:0<=k/\k<100)(all:List D):∀(js:List Int),(∀j∈js,0<=j/\j<12)->∀(L:List Int)(o:Option D),(∀x∈L,Dr x)->L.length+js.length<10000->∃(L':List Int)(o':Option D),
  forL ⟨all,none⟩ (hName 4) (dB (fU (ao 1) (aa (MC (aa (MC (aa (ao 3) (aa (M2 (M2 (mC (.int 3)) (ao 4) cB) (mC (.int 1)) bc) (au))) φ) (aa (M2 (M2 (ao 4) (ao 2) bc) (mC (.int 2)) bc) (au))) φ) (au)))) (js.map D.int)
   [some s,some (.cell 0),some (.int k),some (.int c),o] [some (L.map .int)]=some (.nx,[some s,some (.cell 0),some (.int k),some (.int c),o'],[some (L'.map .int)])/\(∀x∈L',Dr x)/\L'.length=L.length+js.length
 | [],_,L,o,hL,_=>⟨L,o,by unfold forL;simp[bL],hL,rfl⟩
 |j::js,hj,L,o,hL,hlen=>by
  have hj0:=hj j (by simp)
  obtain⟨r1,e1,d1⟩:=hφ c (3*j+1) [some (L.map .int)] (by omega) (by omega)
  obtain⟨r2,e2,d2⟩:=hφ r1 (j+k+2) [some (L.map .int)] (by omega) (by omega)
  have m1:=cG (x:=3) (y:=j) [some (L.map D.int)] (show Sm 2 3 by unfold Sm;decide) (show Sm 4 j by unfold Sm;omega) (by decide)
  obtain⟨L',o',e,hd,hl⟩:=Qy hφ s k c hk all js (λx hx=>hj x (by simp[hx])) (L++[r2]) (some (.int j)) (λx hx=>by
   rcases Zm.mp hx with z|z
   .exact hL x z
   .simp at z;subst z;exact d2) (by simp at hlen ⊢;omega)
  refine⟨L',o',?_,hd,by rw[hl];simp;omega⟩
  rw[Zj]
  unfold forL
  have ea:=vO (δ:=[some s,some (.cell 0),some (.int k),some (.int c),some (.int j)]) (L:=L) (y:=r2) (fs:=aa (MC (aa (MC (aa (ao 3) (aa (M2 (M2 (mC (.int 3)) (ao 4) cB) (mC (.int 1)) bc) (au))) φ) (aa (M2 (M2 (ao 4) (ao 2) bc) (mC (.int 2)) bc) (au))) φ) (au)) rfl
   (by simp[aa,au,MC,M2,ao,mC,m1,bc,e1,e2]) (by simp at hlen;omega)
  simp only[List.map_append,Zj,List.map_nil]at ea e
  simp[bL,hName,dB,ea,e]
abbrev drC:TF:=lK (toB (M2 (ao 3) (M2 (mC (.int 10)) (mC (.int 18)) xV) oGe)) (toB (M2 (MC (aa (ao 1) (au)) (bh dO)) (mC (.int 900)) oLt))
abbrev drB:SF:=aW (dB (fU (ao 1) (aa (M2 (ao 3) (mC (.int 2147483629)) oMod) (au)))) (bJ 3 (M2 (ao 3) (mC (.int 2147483629)) oDiv))
theorem yG(s k o:Option D):∀(n:Nat)(c:Int)(L:List Int),0<=c->(∀x∈L,Dr x)->900-L.length<=n->∃(c':Int)(L':List Int),
  fK drC drB (n+1) [s,some (.cell 0),k,some (.int c),o] [some (L.map .int)]=some (.nx,[s,some (.cell 0),k,some (.int c'),o],[some (L'.map .int)])/\0<=c'/\(∀x∈L',Dr x)/\L'.length<=max L.length 900
 |n,c,L,hc,hL,hn=>by
  have ep:xV (.int 10) (.int 18) [some (L.map D.int)]=some (.int 1000000000000000000,[some (L.map .int)]):=rfl
  by_cases ht:(1000000000000000000:Int)<=c/\L.length<900
  .cases n with
   |zero=>omega
   |succ n=>
    obtain⟨m0,m1⟩:=bF (x:=c) (m:=2147483629) (by decide)
    have w1:=iK (x:=c) (y:=2147483629) [some (L.map D.int)] (by decide)
    have w2:=jV (x:=c) (y:=2147483629) [some ((L++[c.fmod 2147483629]).map D.int)] (by decide) (show Sm 31 2147483629 by unfold Sm;decide) (by decide)
    have q0:0<=c.fdiv 2147483629:=by rw[Int.fdiv_eq_ediv_of_nonneg c (by decide)];exact Int.ediv_nonneg hc (by decide)
    obtain⟨c',L',e,h1,h2,h3⟩:=yG s k o n (c.fdiv 2147483629) (L++[c.fmod 2147483629]) q0 (λx hx=>by
     rcases Zm.mp hx with z|z
     .exact hL x z
     .simp at z;subst z;exact⟨m0,by omega⟩) (by simp;omega)
    refine⟨c',L',?_,h1,h2,by simp at h3;omega⟩
    unfold fK
    have ea:=vO (δ:=[s,some (.cell 0),k,some (.int c),o]) (L:=L) (y:=c.fmod 2147483629) (fs:=aa (M2 (ao 3) (mC (.int 2147483629)) oMod) (au)) rfl (by simp[aa,au,M2,ao,mC,w1]) (by omega)
    simp only[List.map_append,Zj,List.map_nil]at ea e w2
    have hlen:((L.length:Nat):Int)<900:=by omega
    have ht1:=ht.1
    simp[lK,toB,M2,ao,mC,ep,oGe,ht1,MC,aa,au,bh,dO,bM,oLt,hlen,aW,dB]at ea ⊢
    simp[ea,bJ,M2,ao,mC,w2,e]
  .refine⟨c,L,?_,hc,hL,by omega⟩
   unfold fK
   by_cases h1:(1000000000000000000:Int)<=c
   .have h2:¬((L.length:Nat):Int)<900:=by omega
    simp[lK,toB,M2,ao,mC,ep,oGe,h1,MC,aa,au,bh,dO,bM,oLt,h2]
   .simp[lK,toB,M2,ao,mC,ep,oGe,h1]
theorem yo(n:Nat):cQ 0 n=((List.range n).map λ(k:Nat)=>(k:Int)).map D.int:=by
 unfold cQ
 rw[List.map_map]
 apply List.map_congr_left
 intro k _
 simp
noncomputable abbrev uF(φ:FF):SF:=(aW (bJ 3 (MC (aa (M2 (ao 0) (ao 2) oIx) (au)) (bh nM))) (aW (sIf (toB (M2 (ao 3) (M2 (mC (.int 10)) (mC (.int 18)) xV) oLt)) (jw (bV (aa (mC (.int 12)) (au))) (hName 4) (dB (fU (ao 1) (aa (MC (aa (MC (aa (ao 3) (aa (M2 (M2 (mC (.int 3)) (ao 4) cB) (mC (.int 1)) bc) (au))) φ) (aa (M2 (M2 (ao 4) (ao 2) bc) (mC (.int 2)) bc) (au))) φ) (au))))) (bR)) (aW (lL drC drB) (sIf (toB (M2 (ao 3) (mC (.int 2147483629)) oGe)) (dB (fU (ao 1) (aa (M2 (ao 3) (mC (.int 2147483629)) oMod) (au)))) (bR)))))
theorem Hv{φ:FF}(hφ:lA φ)(ns:List Int)(k:Nat)(hk:k<ns.length)(hk2:k<100)(L:List Int)(o3 o4:Option D)(hL:∀x∈L,Dr x)(hlen:L.length<9000):∃(L':List Int)(o3' o4':Option D),
  uF φ [some (.ro (ns.map .int)),some (.cell 0),some (.int k),o3,o4] [some (L.map .int)]=some (.nx,[some (.ro (ns.map .int)),some (.cell 0),some (.int k),o3',o4'],[some (L'.map .int)])/\(∀x∈L',Dr x)/\L'.length<=max (L.length+12) 900+1:=by
 have hat:atI (ns.map D.int) (k:Int)=some (.int ns[k]):=Ih (by simp[hk])
 generalize hc:(if ns[k]<0 then -ns[k]else ns[k])=c
 have hc0:0<=c:=by rw[<-hc];split<;>omega
 have ep:xV (.int 10) (.int 18) [some (L.map D.int)]=some (.int 1000000000000000000,[some (L.map .int)]):=rfl
 obtain⟨L1,o1,e1,h1,l1⟩:∃(L1:List Int)(o1:Option D),sIf (toB (M2 (ao 3) (M2 (mC (.int 10)) (mC (.int 18)) xV) oLt)) (jw (bV (aa (mC (.int 12)) (au))) (hName 4) (dB (fU (ao 1) (aa (MC (aa (MC (aa (ao 3) (aa (M2 (M2 (mC (.int 3)) (ao 4) cB) (mC (.int 1)) bc) (au))) φ) (aa (M2 (M2 (ao 4) (ao 2) bc) (mC (.int 2)) bc) (au))) φ) (au))))) (bR)
   [some (.ro (ns.map .int)),some (.cell 0),some (.int k),some (.int c),o4] [some (L.map .int)]=some (.nx,[some (.ro (ns.map .int)),some (.cell 0),some (.int k),some (.int c),o1],[some (L1.map .int)])/\(∀x∈L1,Dr x)/\L1.length<=L.length+12:=by
  by_cases hs:c<1000000000000000000
  .obtain⟨L1,o1,e,h,l⟩:=Qy hφ (.ro (ns.map .int)) k c (by omega) (cQ 0 12) ((List.range 12).map λ(k:Nat)=>(k:Int)) (λj hj=>by simp at hj;omega) L o4 hL (by simp;omega)
   refine⟨L1,o1,?_,h,by rw[l];simp⟩
   rw[<-yo]at e
   simp[sIf,toB,M2,ao,mC,ep,oLt,hs,jw,bV,aa,au]
   exact e
  .exact⟨L,o4,by simp[sIf,toB,M2,ao,mC,ep,oLt,hs,bR],hL,by omega⟩
 obtain⟨c',L2,e2,hc',h2,l2⟩:=yG (some (.ro (ns.map .int))) (some (.int k)) o1 _ c L1 hc0 h1 (Zg _)
 have ew:=uf e2
 have hab:nM (.int ns[k]) [some (L.map D.int)]=some (.int c,[some (L.map D.int)]):=by rw[<-hc];rfl
 by_cases hb:(2147483629:Int)<=c'
 .obtain⟨m0,m1⟩:=bF (x:=c') (m:=2147483629) (by decide)
  have w1:=iK (x:=c') (y:=2147483629) [some (L2.map D.int)] (by decide)
  have ea:=vO (δ:=[some (.ro (ns.map .int)),some (.cell 0),some (.int k),some (.int c'),o1]) (L:=L2) (y:=c'.fmod 2147483629) (fs:=aa (M2 (ao 3) (mC (.int 2147483629)) oMod) (au)) rfl (by simp[aa,au,M2,ao,mC,w1]) (by omega)
  refine⟨L2++[c'.fmod 2147483629],some (.int c'),o1,?_,λx hx=>by
   rcases Zm.mp hx with z|z
   .exact h2 x z
   .simp at z;subst z;exact⟨m0,by omega⟩,by simp;omega⟩
  have e0:bJ 3 (MC (aa (M2 (ao 0) (ao 2) oIx) (au)) (bh nM)) [some (.ro (ns.map .int)),some (.cell 0),some (.int k),o3,o4] [some (L.map .int)]=some (.nx,[some (.ro (ns.map .int)),some (.cell 0),some (.int k),some (.int c),o4],[some (L.map .int)]):=by
   simp[bJ,MC,aa,au,M2,ao,oIx,bM,hat,bh,hab]
  have e3:sIf (toB (M2 (ao 3) (mC (.int 2147483629)) oGe)) (dB (fU (ao 1) (aa (M2 (ao 3) (mC (.int 2147483629)) oMod) (au)))) (bR) [some (.ro (ns.map .int)),some (.cell 0),some (.int k),some (.int c'),o1] [some (L2.map .int)]=some (.nx,[some (.ro (ns.map .int)),some (.cell 0),some (.int k),some (.int c'),o1],[some ((L2++[c'.fmod 2147483629]).map .int)]):=by
   simp only[sIf,toB,M2,ao,mC,oGe,dB]at ea ⊢
   simp[hb]at ea ⊢
   simp[ea]
  unfold uF aW
  rw[e0]
  simp only[Option.bind_some]
  rw[e1]
  simp only[Option.bind_some]
  rw[ew]
  simp only[Option.bind_some]
  exact e3
 .refine⟨L2,some (.int c'),o1,?_,h2,by omega⟩
  have e0:bJ 3 (MC (aa (M2 (ao 0) (ao 2) oIx) (au)) (bh nM)) [some (.ro (ns.map .int)),some (.cell 0),some (.int k),o3,o4] [some (L.map .int)]=some (.nx,[some (.ro (ns.map .int)),some (.cell 0),some (.int k),some (.int c),o4],[some (L.map .int)]):=by
   simp[bJ,MC,aa,au,M2,ao,oIx,bM,hat,bh,hab]
  have e3:sIf (toB (M2 (ao 3) (mC (.int 2147483629)) oGe)) (dB (fU (ao 1) (aa (M2 (ao 3) (mC (.int 2147483629)) oMod) (au)))) (bR) [some (.ro (ns.map .int)),some (.cell 0),some (.int k),some (.int c'),o1] [some (L2.map .int)]=some (.nx,[some (.ro (ns.map .int)),some (.cell 0),some (.int k),some (.int c'),o1],[some (L2.map .int)]):=by
   simp[sIf,toB,M2,ao,mC,oGe,hb,bR]
  unfold uF aW
  rw[e0]
  simp only[Option.bind_some]
  rw[e1]
  simp only[Option.bind_some]
  rw[ew]
  simp only[Option.bind_some]
  exact e3
theorem Be{φ:FF}(hφ:lA φ)(ns:List Int)(all:List D):∀(ks:List Nat),(∀k∈ks,k<ns.length/\k<100)->∀(L:List Int)(o2 o3 o4:Option D),(∀x∈L,Dr x)->max L.length 900+13*ks.length<=5000->∃(L':List Int)(o2' o3' o4':Option D),
  forL ⟨all,none⟩ (hName 2) (uF φ) ((ks.map λ(k:Nat)=>(k:Int)).map D.int) [some (.ro (ns.map .int)),some (.cell 0),o2,o3,o4] [some (L.map .int)]=some (.nx,[some (.ro (ns.map .int)),some (.cell 0),o2',o3',o4'],[some (L'.map .int)])/\(∀x∈L',Dr x)
 | [],_,L,o2,o3,o4,hL,_=>⟨L,o2,o3,o4,by simp only[List.map_nil];unfold forL;simp[bL],hL⟩
 |k::ks,hk,L,o2,o3,o4,hL,hlen=>by
  have hk0:=hk k (by simp)
  simp only[List.length_cons]at hlen
  obtain⟨L1,a3,a4,e1,h1,l1⟩:=Hv hφ ns k hk0.1 hk0.2 L o3 o4 hL (by omega)
  obtain⟨L',b2,b3,b4,e,h⟩:=Be hφ ns all ks (λx hx=>hk x (by simp[hx])) L1 (some (.int k)) a3 a4 h1 (by omega)
  refine⟨L',b2,b3,b4,?_,h⟩
  rw[Zj,Zj]
  unfold forL
  simp only[hName,List.set_cons_succ,List.set_cons_zero,Option.bind_some]
  rw[if_pos (bL _ _),e1]
  exact e
def vo(φ:FF):Prop:=∀(ns:List Int),ns.length<=63->∃L:List Int,φ [.ro (ns.map .int)] []=some (.cell 0,[some (L.map .int)])/\∀x∈L,Dr x
theorem DR{φ:FF}(hφ:lA φ):vo (aJ 5 (lF φ)):=λns hn=>by
 obtain⟨L,o2,o3,o4,e,h⟩:=Be hφ ns (cQ 0 ns.length) (List.range ns.length) (λk hk=>by simp at hk;omega) [] none none none (λx hx=>by simp at hx) (by simp;omega)
 refine⟨L,?_,h⟩
 rw[<-yo]at e
 have hmin:(if(63:Int)<(ns.length:Int)then(63:Int)else(ns.length:Int))=(ns.length:Int):=by rw[if_neg (by omega)]
 have hr:(-(2 ^ 62)<=(ns.length:Int)/\(ns.length:Int)<2 ^ 62):=by omega
 have hz:0<=sizeLine:=Nat.zero_le _
 have eS:∀δ:En,δ[0]? =some (some (.ro (ns.map .int)))->∀μ,bV (aa (MC (aa (MC (aa (ao 0) (au)) (bh dO)) (aa (mC (.int 63)) (au))) (mx rD)) (au)) δ μ=some (⟨cQ 0 ns.length,none⟩,μ):=λδ h0 μ=>by
  simp only[bV,aa,MC,ao,h0,au,bh,dO,bM,mC,mx,rD,Option.bind_some,Option.map_some,Zu]
  rw[hmin]
  rw[if_pos hr]
  simp
 have e0:bJ 1 (oG (oR au)) [some (.ro (ns.map .int)),none,none,none,none] []=some (.nx,[some (.ro (ns.map .int)),some (.cell 0),none,none,none],[some []]):=by
  simp[bJ,oG,oR,au]
 have e1:jw (bV (aa (MC (aa (MC (aa (ao 0) (au)) (bh dO)) (aa (mC (.int 63)) (au))) (mx rD)) (au))) (hName 2) (uF φ) [some (.ro (ns.map .int)),some (.cell 0),none,none,none] [some []]=some (.nx,[some (.ro (ns.map .int)),some (.cell 0),o2,o3,o4],[some (L.map .int)]):=by
  unfold jw
  rw[eS _ rfl]
  exact e
 show(aW (bJ 1 (oG (oR au))) (aW (jw (bV (aa (MC (aa (MC (aa (ao 0) (au)) (bh dO)) (aa (mC (.int 63)) (au))) (mx rD)) (au))) (hName 2) (uF φ)) (bG (ao 1))) [some (.ro (ns.map .int)),none,none,none,none] []).bind _=_
 unfold aW
 rw[e0]
 simp only[Option.bind_some]
 rw[e1]
 simp[bG,ao]
theorem xO:∀(ns:List Int)(g d:Nat),d ∣ dg g ns↔d ∣ g/\∀n∈ns,d ∣ n.natAbs
 | [],g,d=>by simp[dg]
 |n::ns,g,d=>by
  have e:dg g (n::ns)=dg (Int.gcd g n) ns:=rfl
  rw[e,xO ns (Int.gcd g n) d]
  have h:d ∣ Int.gcd g n↔d ∣ g/\d ∣ n.natAbs:=by
   show d ∣ Nat.gcd (Int.natAbs g) (Int.natAbs n)↔_
   rw[Nat.dvd_gcd_iff]
   simp
  rw[h]
  simp only[Zi,forall_eq_or_imp]
  constructor
  .rintro⟨⟨h1,h2⟩,h3⟩;exact⟨h1,h2,h3⟩
  .rintro⟨h1,h2,h3⟩;exact⟨⟨h1,h2⟩,h3⟩
theorem sH(f:Int):∀(ns:List Int)(g:Nat),dg (f.natAbs*g) (ns.map (f * ·))=f.natAbs*dg g ns
 | [],g=>rfl
 |n::ns,g=>by
  show dg (Int.gcd ((f.natAbs*g:Nat):Int) (f*n)) (ns.map (f * ·))=f.natAbs*dg (Int.gcd g n) ns
  have:Int.gcd ((f.natAbs*g:Nat):Int) (f*n)=f.natAbs*Int.gcd g n:=by
   show Nat.gcd (Int.natAbs ((f.natAbs*g:Nat):Int)) (Int.natAbs (f*n))=_
   rw[Int.natAbs_natCast,Int.natAbs_mul,Nat.gcd_mul_left]
   rfl
  rw[this,sH f ns]
end LG
namespace L3
open PySem PySem.Spec PyProof.Rows L2
class Post (α:Type) where
 run:α->Prop
@[simp] theorem Ej{α:Type}{f:α->Prop}{r:α}:@Post.run α ⟨f⟩ r=f r:=rfl
def OkI{α:Type}(o:Option α)[Q:Post α]:Prop:=∃r,o=some r/\Q.run r
abbrev Ok{α:Type}(o:Option α)(Q:α->Prop):Prop:=@OkI α o ⟨Q⟩
section
variable {α β:Type} {Q:Post α}
@[simp] theorem HJ{r:α}:OkI (some r) (Q:=Q)=Q.run r:=by
 apply propext
 exact⟨λ⟨q,e,h⟩=>by cases e;exact h,λh=>⟨r,rfl,h⟩⟩
@[simp] theorem Te:OkI (none:Option α) (Q:=Q)=False:=by
 apply propext
 exact⟨λ⟨q,e,h⟩=>(by cases e),λh=>h.elim⟩
@[simp] theorem fW{o:Option β}{k:β->Option α}:OkI (o.bind k) (Q:=Q)=OkI o (Q:=⟨λr=>OkI (k r) (Q:=Q)⟩):=by
 apply propext
 constructor
 .rintro⟨q,e,h⟩
  obtain⟨r,e1,e2⟩:=Za.mp e
  exact⟨r,e1,q,e2,h⟩
 .rintro⟨r,e1,q,e2,h⟩
  exact⟨q,by rw[e1];exact e2,h⟩
@[simp] theorem Tq{o:Option β}{k:β->α}:OkI (o.map k) (Q:=Q)=OkI o (Q:=⟨λr=>Q.run (k r)⟩):=by
 apply propext
 constructor
 .rintro⟨q,e,h⟩
  obtain⟨r,e1,e2⟩:=Zp.mp e
  exact⟨r,e1,by subst e2;exact h⟩
 .rintro⟨r,e1,h⟩
  exact⟨_,by rw[e1];rfl,h⟩
theorem OkI.mono{o:Option α}{Q':Post α}(h:OkI o (Q:=Q))(k:∀r,Q.run r->Q'.run r):OkI o (Q:=Q'):=let⟨r,e,q⟩:=h;⟨r,e,k r q⟩
end
class Two where
 t:Prop
 f:Prop
def tQ(b:Bool)[T:Two]:Prop:=if b=true then T.t else T.f
@[simp] theorem Px{P R:Prop}:tQ true (T:=⟨P,R⟩)=P:=rfl
@[simp] theorem Lx{P R:Prop}:tQ false (T:=⟨P,R⟩)=R:=rfl
def asB(r:D×Mu):Option (Bool×Mu):=match r.1 with
 | .bl k=>some (k,r.2)
 |_=>none
@[simp] theorem TJ{k:Bool}{μ:Mu}:asB (.bl k,μ)=some (k,μ):=rfl
def Ld(r:List D×Mu):Option (Src×Mu):=match r.1 with
 | [.int j]=>if -(2 ^ 62)<=j/\j<2 ^ 62 then some (⟨cQ 0 j.toNat,none⟩,r.2)else none
 |_=>none
theorem rO{j:Int}{μ:Mu}(h0: -(2 ^ 62)<=j)(h1:j<2 ^ 62):Ld ([.int j],μ)=some (⟨cQ 0 j.toNat,none⟩,μ):=if_pos ⟨h0,h1⟩
def Ry(r:List D×Mu):Option (Src×Mu):=match r.1 with
 | [x,y]=>(cO x).bind λxs=>(cO y).map λys=>(⟨jf xs ys,none⟩,r.2)
 |_=>none
@[simp] theorem PN{x y:D}{μ:Mu}:Ry ([x,y],μ)=(cO x).bind λxs=>(cO y).map λys=>(⟨jf xs ys,none⟩,μ):=rfl
@[simp] theorem SJ{ds:List D}:cO (.tup ds)=some ds:=rfl
@[simp] theorem Sv{ds:List D}:cO (.lst ds)=some ds:=rfl
def Qo(th:D->cR)(r:Src×Mu):Option (List cR×Mu):=match r.1.cel with
 |none=>some (r.1.items.map th,r.2)
 |some _=>none
@[simp] theorem Pr{th:D->cR}{items:List D}{μ:Mu}:Qo th (⟨items,none⟩,μ)=some (items.map th,μ):=rfl
def MJ(r:D×Mu):Option (List cR×Mu):=match r.1 with
 | .tup ds=>some (ds.map thE,r.2)
 | .lst ds=>some (ds.map thE,r.2)
 |_=>none
@[simp] theorem Qs{ds:List D}{μ:Mu}:MJ (.tup ds,μ)=some (ds.map thE,μ):=rfl
@[simp] theorem QG{ds:List D}{μ:Mu}:MJ (.lst ds,μ)=some (ds.map thE,μ):=rfl
def Ri(r:D×Mu):Option (D×Mu):=match r.1 with
 | .cell n=>(r.2.getD n none).map λds=>(.lst ds,r.2.set n none)
 |d=>some (d,r.2)
@[simp] theorem Pz{n:Nat}{μ:Mu}:Ri (.cell n,μ)=(μ.getD n none).map λds=>(.lst ds,μ.set n none):=rfl
section
variable {Q:Post (D×Mu)} {QT:Post (Bool×Mu)} {QS:Post (Fl×En×Mu)} {δ:En} {μ:Mu} {f fa fb fc:EF} {fs:AF} {t ta tc:TF} {g h:SF} {op op':O2}
@[simp] theorem Tg{d:D}:ao 0 (some d::δ) μ=some (d,μ):=rfl
@[simp] theorem Ug{i:Nat}{o:Option D}:ao (i+1) (o::δ) μ=ao i δ μ:=rfl
@[simp] theorem w_c{d:D}:mC d δ μ=some (d,μ):=rfl
@[simp] theorem w_m1{op:O1'}:M1 fa op δ μ=(fa δ μ).bind λr=>op r.1 r.2:=rfl
@[simp] theorem w_m2:M2 fa fb op δ μ=(fa δ μ).bind λr=>(fb δ r.2).bind λq=>op r.1 q.1 q.2:=rfl
@[simp] theorem Fi:au δ μ=some ([],μ):=rfl
@[simp] theorem zU:aa f fs δ μ=(f δ μ).bind λr=>(fs δ r.2).bind λq=>some (r.1::q.1,q.2):=rfl
@[simp] theorem Ru{op:ON}:MC fs op δ μ=(fs δ μ).bind λr=>op r.1 r.2:=rfl
@[simp] theorem w_mk{fk:AF}{π:List Nat}{φ:FF}:MK fs fk π φ δ μ=(fs δ μ).bind λr=>(fk δ r.2).bind λq=>φ (r.1++π.map λi=>q.1.getD i .non) q.2:=rfl
@[simp] theorem Ue:mj f δ μ=(f δ μ).bind λr=>(yt r.1 r.2).map λk=>(k,r.2):=rfl
@[simp] theorem w_toB:toB f δ μ=(f δ μ).bind asB:=rfl
@[simp] theorem w_ch:OkI (MCh fa fb fc op op' δ μ) (Q:=Q)=OkI (fa δ μ) (Q:=⟨λr=>OkI (fb δ r.2) (Q:=⟨λq=>OkI ((op r.1 q.1 q.2).bind asB) (Q:=⟨λz=>tQ z.1 (T:=⟨OkI ((fc δ z.2).bind λt=>op' q.1 t.1 t.2) (Q:=Q),Q.run (.bl false,z.2)⟩)⟩)⟩)⟩):=by
 unfold MCh;rw[fW];congr 2;funext r;rw[fW];congr 2;funext q;rw[fW,fW];congr 2;funext z;obtain⟨d,μ'⟩:=z
 cases d<;>simp[asB]
 rename_i b
 cases b<;>simp
@[simp] theorem w_and:OkI (lK ta tc δ μ) (Q:=QT)=OkI (ta δ μ) (Q:=⟨λr=>tQ r.1 (T:=⟨OkI (tc δ r.2) (Q:=QT),QT.run (false,r.2)⟩)⟩):=by
 unfold lK;rw[fW];congr 2;funext r;unfold tQ;split<;>simp[*]
@[simp] theorem w_or:OkI (qm ta tc δ μ) (Q:=QT)=OkI (ta δ μ) (Q:=⟨λr=>tQ r.1 (T:=⟨QT.run (true,r.2),OkI (tc δ r.2) (Q:=QT)⟩)⟩):=by
 unfold qm;rw[fW];congr 2;funext r;unfold tQ;split<;>simp[*]
@[simp] theorem w_not:iM ta δ μ=(ta δ μ).bind λr=>some (!r.1,r.2):=rfl
@[simp] theorem Uc:OkI (jR fa fb δ μ) (Q:=Q)=OkI ((fa δ μ).bind asB) (Q:=⟨λk=>tQ k.1 (T:=⟨OkI (fb δ k.2) (Q:=Q),Q.run (.bl false,k.2)⟩)⟩):=by
 unfold jR;rw[fW,fW];congr 2;funext r;obtain⟨d,μ'⟩:=r
 cases d<;>simp[asB]
 rename_i b
 cases b<;>simp
@[simp] theorem TX:nA fa δ μ=((fa δ μ).bind asB).bind λr=>some (.bl !r.1,r.2):=by
 unfold nA
 cases fa δ μ with
 |none=>rfl
 |some r=>obtain⟨d,μ'⟩:=r;cases d<;>rfl
@[simp] theorem w_next:bR δ μ=some (.nx,δ,μ):=rfl
@[simp] theorem w_ret:bG f δ μ=(f δ μ).bind λr=>some (.rt r.1,δ,r.2):=rfl
@[simp] theorem Tz:dB f δ μ=(f δ μ).bind λr=>some (.nx,δ,r.2):=rfl
@[simp] theorem w_set{i:Nat}:bJ i f δ μ=(f δ μ).bind λr=>some (.nx,δ.set i (some r.1),r.2):=rfl
@[simp] theorem w_if:OkI (sIf t g h δ μ) (Q:=QS)=OkI (t δ μ) (Q:=⟨λr=>tQ r.1 (T:=⟨OkI (g δ r.2) (Q:=QS),OkI (h δ r.2) (Q:=QS)⟩)⟩):=by
 unfold sIf;rw[fW];congr 2;funext r;unfold tQ;split<;>simp[*]
def uc(h:SF)(QS:Post (Fl×En×Mu))(r:Fl×En×Mu):Prop:=match r.1 with
 | .nx=>OkI (h r.2.1 r.2.2) (Q:=QS)
 |_=>QS.run r
@[simp] theorem w_seq:OkI (aW g h δ μ) (Q:=QS)=OkI (g δ μ) (Q:=⟨uc h QS⟩):=by
 unfold aW
 rw[fW]
 congr 2
 funext r
 obtain⟨fl,δ',μ'⟩:=r
 cases fl<;>simp[uc]
@[simp] theorem SN{δ':En}{μ':Mu}:uc h QS (.nx,δ',μ')=OkI (h δ' μ') (Q:=QS):=rfl
@[simp] theorem RX{d:D}{δ':En}{μ':Mu}:uc h QS (.rt d,δ',μ')=QS.run (.rt d,δ',μ'):=rfl
@[simp] theorem SM{δ':En}{μ':Mu}:uc h QS (.bk,δ',μ')=QS.run (.bk,δ',μ'):=rfl
@[simp] theorem RK{δ':En}{μ':Mu}:uc h QS (.ct,δ',μ')=QS.run (.ct,δ',μ'):=rfl
@[simp] theorem w_asg{hh:GF}:yJ f hh δ μ=(f δ μ).bind λr=>(hh r.1 δ r.2).bind λδ'=>some (.nx,δ',r.2):=rfl
@[simp] theorem w_par{i j:Nat}:Cq i j fs δ μ=(fs δ μ).bind λr=>match r.1 with
 | [x,y]=>some (.nx,(δ.set i (some x)).set j (some y),r.2)
 |_=>none:=rfl
@[simp] theorem Ub{i j k:Nat}:Ag i j k fs δ μ=(fs δ μ).bind λr=>match r.1 with
 | [x,y,z]=>some (.nx,((δ.set i (some x)).set j (some y)).set k (some z),r.2)
 |_=>none:=rfl
@[simp] theorem w_for{fi:IF}{hh:GF}:jw fi hh g δ μ=(fi δ μ).bind λr=>forL r.1 hh g r.1.items δ r.2:=rfl
@[simp] theorem w_fz{lf:LF}:mFz lf δ μ=(lf δ μ).bind λr=>some (.lst r.1,r.2):=rfl
@[simp] theorem w_new{lf:LF}:oG lf δ μ=(lf δ μ).bind λr=>some (.cell r.2.length,r.2++[some r.1]):=rfl
@[simp] theorem Tv:oR fs δ μ=(fs δ μ).bind λr=>if r.1.length<=sizeLine then some r else none:=rfl
@[simp] theorem Tw{i:Nat}{d:D}:hName i d δ μ=some (δ.set i (some d)):=rfl
@[simp] theorem w_tup{n:Nat}{hs:GsF}{ds:List D}:gn n hs (.tup ds) δ μ=if ds.length=n then hs ds δ μ else none:=rfl
@[simp] theorem Ua:gq [] δ μ=some δ:=rfl
@[simp] theorem RP{hh:GF}{hs:GsF}{d:D}{ds:List D}:aY hh hs (d::ds) δ μ=(hh d δ μ).bind λδ1=>hs ds δ1 μ:=rfl
@[simp] theorem Ud:cV f δ μ=(f δ μ).bind λr=>(srcOf r.1 r.2).map λS=>(S,r.2):=rfl
@[simp] theorem Sg{ds:List D}:srcOf (.tup ds) μ=some ⟨ds,none⟩:=rfl
@[simp] theorem Su{ds:List D}:srcOf (.lst ds) μ=some ⟨ds,none⟩:=rfl
@[simp] theorem Sx{fl fh:PF}:mSl f fl fh δ μ=(f δ μ).bind λr=>(fl δ r.2).bind λl=>(fh δ l.2).bind λu=>oSl r.1 l.1 u.1 u.2:=rfl
@[simp] theorem TV:EY fa fb δ μ=(fa δ μ).bind λr=>(fb δ r.2).bind λq=>(rE r.1 q.2).bind λxs=>(rE q.1 q.2).bind λys=>if xs.length+ys.length<=sizeLine then some (xs++ys,q.2)else none:=rfl
@[simp] theorem Pk{ds:List D}:rE (.lst ds) μ=some ds:=rfl
@[simp] theorem w_fno:fNo δ μ=some (none,μ):=rfl
@[simp] theorem w_fat:fAt f δ μ=(f δ μ).bind λr=>match r.1 with
 | .int i=>some (some i,r.2)
 |_=>none:=rfl
@[simp] theorem PK{op:O1'}{x:D}:bh op [x] μ=op x μ:=rfl
@[simp] theorem w_two{x y:D}:mx op [x,y] μ=op x y μ:=rfl
variable {i j:Int} {ds es:List D} {k:Bool}
@[simp] theorem a_add:bc (.int i) (.int j) μ=some (.int (i+j),μ):=rfl
@[simp] theorem TQ:bc (.tup ds) (.tup es) μ=if ds.length+es.length<=sizeLine then some (.tup (ds++es),μ)else none:=rfl
@[simp] theorem Tu:bc (.lst ds) (.lst es) μ=if ds.length+es.length<=sizeLine then some (.lst (ds++es),μ)else none:=rfl
@[simp] theorem a_sub:dU (.int i) (.int j) μ=some (.int (i-j),μ):=rfl
theorem Qk(h:mF i j<=134217728):cB (.int i) (.int j) μ=some (.int (i*j),μ):=if_pos h
@[simp] theorem a_mod(h:j≠0):oMod (.int i) (.int j) μ=some (.int (i.fmod j),μ):=if_pos h
theorem yF(h:j≠0)(h2:j.natAbs.log2<9000):oDiv (.int i) (.int j) μ=some (.int (i.fdiv j),μ):=if_pos ⟨h,h2⟩
@[simp] theorem a_lt:oLt (.int i) (.int j) μ=some (.bl (decide (i<j)),μ):=rfl
@[simp] theorem a_gt:oGt (.int i) (.int j) μ=some (.bl (decide (j<i)),μ):=rfl
@[simp] theorem a_ge:oGe (.int i) (.int j) μ=some (.bl (decide (j<=i)),μ):=rfl
@[simp] theorem a_neg:ju (.int i) μ=some (.int (-i),μ):=rfl
@[simp] theorem a_abs:nM (.int i) μ=some (.int (i.natAbs),μ):=by
 show some (D.int (if i<0 then -i else i),μ)=_
 congr 3
 split<;>omega
@[simp] theorem a_min:rD (.int i) (.int j) μ=some (.int (min i j),μ):=by
 show some (D.int (if j<i then j else i),μ)=_
 congr 3
 split<;>omega
@[simp] theorem a_max:Fg (.int i) (.int j) μ=some (.int (max i j),μ):=by
 show some (D.int (if j>i then j else i),μ)=_
 congr 3
 split<;>omega
@[simp] theorem a_eq:oEq (.int i) (.int j) μ=some (.bl (i==j),μ):=by unfold oEq rsv;simp[cX,gV,eqD]
@[simp] theorem a_ne:oNe (.int i) (.int j) μ=some (.bl (!(i==j)),μ):=by unfold oNe rsv;simp[cX,gV,eqD]
@[simp] theorem a_neE:vJ (.lst ds) (.lst []) μ=some (.bl (!ds.isEmpty),μ):=rfl
@[simp] theorem a_eqB{k l:Bool}:oEq (.bl k) (.bl l) μ=some (.bl (k==l),μ):=by unfold oEq rsv;simp[cX,gV,eqD]
@[simp] theorem a_neB{k l:Bool}:oNe (.bl k) (.bl l) μ=some (.bl (!(k==l)),μ):=by unfold oNe rsv;simp[cX,gV,eqD]
@[simp] theorem a_tup:oTup ds μ=if ds.length<=sizeLine then some (.tup ds,μ)else none:=rfl
@[simp] theorem a_lst:oLst ds μ=if ds.length<=sizeLine then some (.lst ds,μ)else none:=rfl
@[simp] theorem tL{d:D}:oIx d (.int i) μ=(bM d μ).bind λds=>(atI ds i).map λd=>(d,μ):=rfl
@[simp] theorem i_tup:bM (.tup ds) μ=some ds:=rfl
@[simp] theorem i_lst:bM (.lst ds) μ=some ds:=rfl
@[simp] theorem i_ro:bM (.ro ds) μ=some ds:=rfl
@[simp] theorem Tt:dO (.tup ds) μ=some (.int ds.length,μ):=rfl
@[simp] theorem Ui:dO (.lst ds) μ=some (.int ds.length,μ):=rfl
@[simp] theorem Uj:dO (.ro ds) μ=some (.int ds.length,μ):=rfl
@[simp] theorem Sh{d:D}:dD [d] μ=(bM d μ).map λds=>(.tup ds,μ):=rfl
@[simp] theorem w_lOf:lOf fs δ μ=(fs δ μ).bind λr=>match r.1 with
 | [x]=>(bM x r.2).map λds=>(ds,r.2)
 |_=>none:=rfl
@[simp] theorem t_bl:yt (.bl k) μ=some k:=rfl
@[simp] theorem t_int:yt (.int i) μ=some (i != 0):=rfl
@[simp] theorem t_tup:yt (.tup ds) μ=some !ds.isEmpty:=rfl
@[simp] theorem t_lst:yt (.lst ds) μ=some !ds.isEmpty:=rfl
@[simp] theorem t_non:yt .non μ=some false:=rfl
@[simp] theorem Sq{T:String}:iW T (.int i) μ=some (.bl (T=="int"),μ):=rfl
@[simp] theorem Uh{T:String}:iW T (.bl k) μ=some (.bl (T=="bool"||T=="int"),μ):=rfl
@[simp] theorem RZ{T:String}:iW T (.tup ds) μ=some (.bl (T=="tuple"),μ):=rfl
@[simp] theorem RC{T:String}:iW T (.lst ds) μ=some (.bl (T=="list"),μ):=rfl
@[simp] theorem RJ{T:String}{x:Str}:iW T (.str x) μ=some (.bl (T=="str"),μ):=rfl
@[simp] theorem Sy{T:String}:iW T .non μ=some (.bl false,μ):=rfl
@[simp] theorem RN{T:String}{x}:iW T (.dic x) μ=some (.bl (T=="dict"),μ):=rfl
@[simp] theorem MF:bV fs δ μ=(fs δ μ).bind Ld:=rfl
@[simp] theorem w_zip:nq fs δ μ=(fs δ μ).bind Ry:=rfl
@[simp] theorem w_lc{own:List Str}{capI:List Nat}{fi:IF}{hh:GF}:lLC own capI fi hh t f δ μ=(fi δ μ).bind λr=>if r.1.items.length<=sizeLine then lcL r.1 hh t f (bU own δ capI) r.1.items r.2 else none:=rfl
@[simp] theorem w_all{st:StF}:wM st δ μ=(st δ μ).bind λr=>(tB r.1 r.2).bind λq=>some (.bl q.1,q.2):=rfl
@[simp] theorem w_any{st:StF}:zu st δ μ=(st δ μ).bind λr=>(nO r.1 r.2).bind λq=>some (.bl q.1,q.2):=rfl
@[simp] theorem Th{st:StF}:Eb st δ μ=(st δ μ).bind λr=>if r.1.length<=sizeLine then(CJ r.1 r.2).bind λq=>some (.tup q.1,q.2)else none:=rfl
@[simp] theorem w_sum{st:StF}:nW st δ μ=(st δ μ).bind λr=>(pN 0 r.1 r.2).bind λq=>some (.int q.1,q.2):=rfl
@[simp] theorem w_gen{own:List Str}{capI:List Nat}{fi:IF}{hh:GF}:qd own capI fi hh f δ μ=(fi δ μ).bind λr=>Qo (thG hh f (bU own δ capI)) r:=rfl
@[simp] theorem Tp:gH f δ μ=(f δ μ).bind MJ:=rfl
@[simp] theorem w_rev:Ea f δ μ=(f δ μ).bind λr=>JG r.1 r.2:=rfl
@[simp] theorem Tr:JG (.tup ds) μ=some (.tup ds.reverse,μ):=rfl
@[simp] theorem TY:JG (.lst ds) μ=some (.lst ds.reverse,μ):=rfl
@[simp] theorem w_put{fo fi:EF}:Hf f fo fi δ μ=(f δ μ).bind λr=>(fo δ r.2).bind λo=>(fi δ o.2).bind λi=>(Gm r.1 o.1 i.1 i.2).map λμ'=>(.nx,δ,μ'):=rfl
@[simp] theorem w_frz:xM f δ μ=(f δ μ).bind Ri:=rfl
end
theorem ql{items:List D}{μ:Mu}:Src.ok ⟨items,none⟩ μ:=λn e=>by cases e
def wU(I:En->Mu->Prop)(QS:Post (Fl×En×Mu))(r:Fl×En×Mu):Prop:=match r.1 with
 | .nx=>I r.2.1 r.2.2
 | .ct=>I r.2.1 r.2.2
 | .bk=>QS.run (.nx,r.2)
 | .rt d=>QS.run (.rt d,r.2)
section
variable {I:En->Mu->Prop} {QS:Post (Fl×En×Mu)} {δ:En} {μ:Mu}
@[simp] theorem Sd:wU I QS (.nx,δ,μ)=I δ μ:=rfl
@[simp] theorem Tf:wU I QS (.ct,δ,μ)=I δ μ:=rfl
@[simp] theorem Ss:wU I QS (.bk,δ,μ)=QS.run (.nx,δ,μ):=rfl
@[simp] theorem Td{d:D}:wU I QS (.rt d,δ,μ)=QS.run (.rt d,δ,μ):=rfl
end
theorem mQ{all:List D}{h:GF}{b:SF}{QS:Post (Fl×En×Mu)}(I:List D->En->Mu->Prop)
  (turn:∀d r δ μ,I (d::r) δ μ->OkI (h d δ μ) (Q:=⟨λδ1=>OkI (b δ1 μ) (Q:=⟨wU (I r) QS⟩)⟩)) (fin:∀δ μ,I [] δ μ->QS.run (.nx,δ,μ)):
  ∀(its:List D)(δ:En)(μ:Mu),I its δ μ->OkI (forL ⟨all,none⟩ h b its δ μ) (Q:=QS)
 | [],δ,μ,hI=>by unfold forL;rw[if_pos ql,HJ];exact fin δ μ hI
 |d::r,δ,μ,hI=>by
  unfold forL
  rw[if_pos ql,fW]
  refine(turn d r δ μ hI).mono λδ1 h1=>?_
  rw[Ej]at h1 ⊢
  rw[fW]
  refine h1.mono λq h2=>?_
  rw[Ej]at h2 ⊢
  obtain⟨fl,δ',μ'⟩:=q
  cases fl with
  |nx=>exact mQ (all:=all) I turn fin r δ' μ' h2
  |ct=>exact mQ (all:=all) I turn fin r δ' μ' h2
  |bk=>exact⟨_,rfl,h2⟩
  |rt d=>exact⟨_,rfl,h2⟩
def retS(R:Post (D×Mu))(r:Fl×En×Mu):Prop:=match r.1 with
 | .rt d=>R.run (d,r.2.2)
 | .nx=>R.run (.non,r.2.2)
 |_=>False
@[simp] theorem Tj{R:Post (D×Mu)}{d:D}{δ:En}{μ:Mu}:retS R (.rt d,δ,μ)=R.run (d,μ):=rfl
@[simp] theorem Tn{R:Post (D×Mu)}{δ:En}{μ:Mu}:retS R (.nx,δ,μ)=R.run (.non,μ):=rfl
theorem pD{m:Nat}{g:SF}{ds:List D}{μ:Mu}{R:Post (D×Mu)}(h:OkI (g (ds.map some++List.replicate (m-ds.length) none) μ) (Q:=⟨retS R⟩)):OkI (aJ m g ds μ) (Q:=R):=by
 unfold aJ
 rw[fW]
 refine h.mono λr hr=>?_
 obtain⟨fl,δ,μ'⟩:=r
 cases fl with
 |rt d=>exact⟨_,rfl,hr⟩
 |nx=>exact⟨_,rfl,hr⟩
 |bk=>exact hr.elim
 |ct=>exact hr.elim
theorem Eh{φ:FF}{ds:List D}{μ:Mu}{R:Post (D×Mu)}(h:OkI (φ ds μ) (Q:=⟨λr=>r.2.length=μ.length/\R.run r⟩)):OkI (trunc φ ds μ) (Q:=R):=by
 obtain⟨⟨d,μ'⟩,e,hl,hr⟩:=h
 exact⟨_,mD e hl,hr⟩
end L3
namespace LG
open PySem PySem.Spec PyProof.Rows L2 L3
theorem ul{α:Type}{o:Option α}{x:α}(h:Ok o (λr=>r=x)):o=some x:=by
 obtain⟨r,e,h⟩:=h
 have h:r=x:=h
 rw[e,h]
theorem bW{m:Nat}{g:SF}{ds:List D}{μ:Mu}{d:D}(h:OkI (g (ds.map some++List.replicate (m-ds.length) none) μ) (Q:=⟨retS ⟨λr=>r=(d,μ)⟩⟩)):trunc (aJ m g) ds μ=some (d,μ):=
 kW (ul (pD h))
@[simp] theorem sz{n:Nat}(h:n<=1000):(n<=sizeLine)=True:=eq_true (Zl h (by decide))
abbrev nc(d:D):Prop:=cLt 0 d=true
theorem qH:∀{ds:List D},lN 0 ds=true↔∀d∈ds,nc d
 | []=>by unfold lN;simp
 |d::ds=>by unfold lN;simp[qH (ds:=ds)]
theorem fJ{ds:List D}:nc (.tup ds)↔∀d∈ds,nc d:=by
 have e:cLt 0 (.tup ds)=lN 0 ds:=by rw[cLt]
 unfold nc
 rw[e]
 exact qH
theorem ph{ds:List D}:nc (.lst ds)↔∀d∈ds,nc d:=by
 have e:cLt 0 (.lst ds)=lN 0 ds:=by rw[cLt]
 unfold nc
 rw[e]
 exact qH
theorem sU{i:Int}:nc (.int i):=by unfold nc cLt;rfl
theorem jc{ns:List Int}:∀d∈ns.map D.int,nc d:=λd h=>by
 obtain⟨n,_,rfl⟩:=Zq.mp h
 exact sU
def isInt:D->Bool
 | .int _=>true
 |_=>false
def intOf:D->Int
 | .int i=>i
 |_=>0
@[simp] theorem Py{i:Int}:isInt (.int i)=true:=rfl
@[simp] theorem Pj{i:Int}:intOf (.int i)=i:=rfl
theorem ints_of:∀{ds:List D},ds.all isInt=true->ds=(ds.map intOf).map D.int
 | [],_=>rfl
 |d::ds,h=>by
  rw[List.all_cons,Zo]at h
  cases d with
  |int i=>rw[Zj,Zj,<-ints_of h.2];rfl
  |_=>exact absurd h.1 (by simp[isInt])
theorem ints_map(ns:List Int):(ns.map D.int).map intOf=ns:=by simp[Function.comp_def]
theorem GC(ns:List Int):(ns.map D.int).all isInt=true:=by simp
theorem Ge(d:D)(μ:Mu)(h:nc d):trunc (aJ 1 dY) [d] μ=some (.bl (isInt d),μ):=by
 apply bW
 cases d with
 |cell n=>simp[nc,cLt]at h
 |ro ds=>simp[dY,isInt,iW,zg]
 |_=>simp[dY,isInt]
theorem Ef(d:D)(μ:Mu)(h:nc d):trunc (aJ 1 my) [d] μ=some (.bl (isInt d),μ):=Ge d μ h
theorem oN{th:D->cR}{p:D->Bool}{μ:Mu}:∀(ds:List D),(∀d∈ds,th d μ=some (.bl (p d),μ))->tB (ds.map th) μ=some (ds.all p,μ)
 | [],_=>rfl
 |d::ds,h=>by
  rw[Zj]
  unfold tB
  rw[h d (by simp)]
  have ih:=oN ds λx hx=>h x (by simp[hx])
  cases hp:p d<;>simp[hp,qK,ih]
theorem yL{th:D->cR}{p:D->Bool}{μ:Mu}:∀(ds:List D),(∀d∈ds,th d μ=some (.bl (p d),μ))->nO (ds.map th) μ=some (ds.any p,μ)
 | [],_=>rfl
 |d::ds,h=>by
  rw[Zj]
  unfold nO
  rw[h d (by simp)]
  have ih:=yL ds λx hx=>h x (by simp[hx])
  cases hp:p d<;>simp[hp,qK,ih]
def uo:D->Bool
 | .tup ds=>ds.all isInt
 |_=>false
def xR(φ:FF):Prop:=∀d μ,nc d->φ [d] μ=some (.bl (isInt d),μ)
theorem zb{φ:FF}(hφ:xR φ)(d:D)(μ:Mu)(h:nc d):trunc (aJ 1 (dq φ)) [d] μ=some (.bl (uo d),μ):=by
 apply bW
 cases d with
 |cell n=>simp[nc,cLt]at h
 |ro ds=>simp[dq,uo,iW,zg]
 |tup ds=>
  have e:=oN (th:=thG (hName 0) (MC (aa (ao 0) au) φ) (bU ["part"] [some (D.tup ds)] [])) (p:=isInt) (μ:=μ) ds λx hx=>by
   simp[thG,bU,hφ x μ (fJ.mp h x hx)]
  simp[dq,uo,e]
 |_=>simp[dq,uo]
theorem yj{ds:List D}(h:ds≠[]):atI ds (-1)=some (ds.getLast h):=by
 have hl:0<ds.length:=List.length_pos_iff.mpr h
 unfold atI ixN
 rw[if_neg (by omega),if_pos (by omega)]
 have:((-1:Int)+ds.length).toNat=ds.length-1:=by omega
 simp only[Option.bind_some,this]
 rw[List.getLast_eq_getElem]
 simp[hl]
theorem uM{ns:List Int}(h:ns≠[]):atI (ns.map D.int) (-1)=some (.int (ns.getLastD 0)):=by
 rw[yj (by simpa using h)]
 simp[List.getLastD_eq_getLast?,List.getLast?_eq_some_getLast h]
def Dh(φ:FF):Prop:=∀d μ,nc d->φ [d] μ=some (.bl (uo d),μ)
theorem JR(k l:Bool)(μ:Mu):trunc (aJ 2 mH) [.bl k,.bl l] μ=some (.bl (k==l),μ):=by
 apply bW
 simp[mH]
theorem Bg{n d:Nat}{i:Int}(h:0<=i):HT.sIx n d (some i)=min i.toNat n:=if_neg (by omega)
theorem Bp{ds:List D}{i:Int}{μ:Mu}(h0:0<=i)(h1:i<ds.length):oSl (.tup ds) none (some i) μ=some (.tup (ds.take i.toNat),μ):=by
 have h0':0<=i:=by omega
 have e:HT.sIx ds.length ds.length (some i)=i.toNat:=by rw[Bg h0'];omega
 have e0:HT.sIx ds.length 0 none=0:=rfl
 unfold oSl L3.cutD
 simp only[e,e0]
 simp
theorem Bu{ds:List D}{i:Int}{μ:Mu}(h0:0<i)(h1:i<=ds.length):oSl (.tup ds) (some i) none μ=some (.tup (ds.drop i.toNat),μ):=by
 have h0':0<=i:=by omega
 have e:HT.sIx ds.length 0 (some i)=i.toNat:=by rw[Bg h0'];omega
 have e0:HT.sIx ds.length ds.length none=ds.length:=rfl
 unfold oSl L3.cutD
 simp only[e,e0]
 simp[List.take_of_length_le]
theorem Bb{ds:List D}{μ:Mu}(h:ds≠[]):oSl (.tup ds) none (some (-1)) μ=some (.tup ds.dropLast,μ):=by
 have hl:0<ds.length:=List.length_pos_iff.mpr h
 have e:HT.sIx ds.length ds.length (some (-1))=ds.length-1:=by show(if(-1:Int)<0 then((-1:Int)+ds.length).toNat else min (-1:Int).toNat ds.length)=_;rw[if_pos (by decide)];omega
 have e0:HT.sIx ds.length 0 none=0:=rfl
 unfold oSl L3.cutD
 simp only[e,e0]
 simp[List.dropLast_eq_take]
def muD(L:List Int):Mu:=[some (L.map .int)]
def DlD(L:List Int):Prop:=∀x∈L,Dr x
theorem Ft{a:Nat}{x y:Int}(hx:Sm a x)(hy:0<y):Sm a (x.fdiv y):=by
 rw[Int.fdiv_eq_ediv_of_nonneg x (by omega)]
 unfold Sm at *
 have:=Int.natAbs_ediv_le_natAbs x y
 omega
theorem mulL{ds:List D}{k:Int}{μ:Mu}(h0:0<=k)(h1:k<=1000)(hl:ds.length*k.toNat<=1000):cB (.lst ds) (.int k) μ=some (.lst (List.replicate k.toNat ds).flatten,μ):=if_pos ⟨by omega,by omega,Zl hl (by decide)⟩
theorem iw{a:Int}{n:Nat}:(cQ a n).length=n:=by unfold cQ;simp
theorem Hc{φ:FF}(h:vo φ)(ns:List Int)(hn:ns.length<=63):∃L,φ [.ro (ns.map .int)] []=some (.cell 0,muD L)/\DlD L:=h ns hn
theorem JL{φ:FF}{ns:List Int}(h:Ok (φ [.ro (ns.map .int)] []) (λr=>r.1= .bl true)):∃μ',φ [.ro (ns.map .int)] []=some (.bl true,μ'):=by
 obtain⟨⟨d,μ'⟩,e,h⟩:=h
 have h:d= .bl true:=h
 subst h
 exact⟨μ',e⟩
@[simp] theorem Rz{α:Type}{l:List α}{x y:α}:(l++[x]).set l.length y=l++[y]:=by simp[List.set_append]
mutual
theorem sO{m:Nat}:∀{d:D},cLt 0 d=true->cLt m d=true
 | .non,_=>by simp[cLt]
 | .bl _,_=>by simp[cLt]
 | .int _,_=>by simp[cLt]
 | .str _,_=>by simp[cLt]
 | .tup ds,h=>by rw[cLt]at h ⊢;exact jN h
 | .lst ds,h=>by rw[cLt]at h ⊢;exact jN h
 | .ro ds,h=>by rw[cLt]at h ⊢;exact jN h
 | .dic ds,h=>by rw[cLt]at h ⊢;exact uQ h
 | .cell n,h=>by rw[cLt]at h;simp at h
theorem jN{m:Nat}:∀{ds:List D},lN 0 ds=true->lN m ds=true
 | [],_=>by rw[lN]
 |d::ds,h=>by
  rw[lN,Zo]at h ⊢
  exact⟨sO h.1,jN h.2⟩
theorem uQ{m:Nat}:∀{ds:List (Key×D)},xX 0 ds=true->xX m ds=true
 | [],_=>by rw[xX]
 |d::ds,h=>by
  rw[xX,Zo]at h ⊢
  exact⟨sO h.1,uQ h.2⟩
end
def jT(μ:Mu):Prop:=∀ds,some ds∈μ->∀d∈ds,nc d
theorem jT.c{μ:Mu}(h:jT μ)(m:Nat):cOk m μ=true:=by
 unfold cOk
 rw[List.all_eq_true]
 intro o ho
 cases o with
 |none=>rfl
 |some ds=>exact jN (qH.mpr (h ds ho))
theorem jT.nil:jT []:=λds h=>by simp at h
theorem jT.cons{ds:List D}{μ:Mu}(h1:∀d∈ds,nc d)(h2:jT μ):jT (some ds::μ):=λes h=>by
 rcases Zi.mp h with z|z
 .cases z;exact h1
 .exact h2 es z
theorem jT.dr{L:List Int}{μ:Mu}(h:jT μ):jT (some (L.map .int)::μ):=jT.cons jc h
theorem xY{φ:FF}{ds:List D}{μ μ' junk:Mu}{d:D}(h:φ ds μ=some (d,μ'++junk))(hl:μ'.length=μ.length)(hd:nc d)(hm:jT μ'):trunc φ ds μ=some (d,μ'):=by
 unfold trunc
 rw[h]
 simp only[Option.bind_some]
 have e:(μ'++junk).take μ.length=μ':=by rw[<-hl];simp
 rw[e,sO hd,hm.c]
 rfl
theorem Jh{φ:FF}{ds:List D}{μ:Mu}{P:D->Prop}(hm:jT μ)(h:Ok (φ ds μ) (λr=>∃junk,r.2=μ++junk/\nc r.1/\P r.1)):∃d,trunc φ ds μ=some (d,μ)/\P d:=by
 obtain⟨⟨d,μ1⟩,e,junk,h1,h4,h5⟩:=h
 have h1:μ1=μ++junk:=h1
 subst h1
 exact⟨d,xY e rfl h4 hm,h5⟩
def jA(φ:FF):Prop:=∀(L:List Int)(rest:Mu),φ [.cell 0] (some (L.map .int)::rest)=some (.int (L.headD 0),some (L.tail.map .int)::rest)
theorem Gk:jA (trunc (aJ 1 kO)):=λL rest=>by
 have h1:oEq (.cell 0) (.lst []) (some (L.map D.int)::rest)=some (.bl L.isEmpty,some (L.map D.int)::rest):=by
  unfold oEq rsv
  simp[cX,mK,gV,oO,eqD,fH]
  cases L<;>simp[gQ]
 refine mD ?_ (by simp)
 unfold aJ kO
 have hz:0<=sizeLine:=Nat.zero_le _
 cases L with
 |nil=>
  simp at h1
  simp[aW,sIf,toB,M2,ao,MC,au,oLst,hz,h1,bG,mC]
 |cons x t=>
  simp at h1
  simp[aW,sIf,toB,M2,ao,MC,au,oLst,hz,h1,bG,mC,bR,Aj]
theorem jo{φ:FF}(h:jA φ){L:List Int}(hL:DlD L)(rest:Mu):∃x L',φ [.cell 0] (some (L.map .int)::rest)=some (.int x,some (L'.map .int)::rest)/\Dr x/\DlD L':=by
 refine⟨L.headD 0,L.tail,h L rest,?_,λx hx=>hL x (List.mem_of_mem_tail hx)⟩
 cases L with
 |nil=>exact⟨by decide,by decide⟩
 |cons a b=>exact hL a (by simp)
def PtL(d:Nat)(ns:List Int)(b:Int):Prop:=ns.length=d/\(∀n∈ns,n.natAbs<=10000)/\1<=b/\b<=60
def Iw(d:Nat)(p:D):Prop:=∃ns b,p= .tup ((ns++[b]).map .int)/\PtL d ns b/\dg b.natAbs ns=1
theorem Iw.nc{d:Nat}{p:D}(h:Iw d p):nc p:=by
 obtain⟨ns,b,rfl,_⟩:=h
 exact fJ.mpr jc
theorem gJ{x y:Int}(hy:0<y):(x.fdiv y).natAbs<=x.natAbs:=by
 rw[Int.fdiv_eq_ediv_of_nonneg x (by omega)]
 exact Int.natAbs_ediv_le_natAbs x y
theorem Jj{ns:List Int}{b:Int}(hb:0<b):dg (b.fdiv (dg b.natAbs ns:Nat)).natAbs (ns.map λn=>n.fdiv (dg b.natAbs ns:Nat))=1:=by
 have h:=(xO ns b.natAbs _).mp (Nat.dvd_refl _)
 have g0:dg b.natAbs ns≠0:=oH (.inl (by omega))
 obtain⟨g,hg⟩:∃g,dg b.natAbs ns=g:=⟨_,rfl⟩
 rw[hg]at h g0 ⊢
 have hm:∀n:Int,g ∣ n.natAbs->(g:Int)*n.fdiv (g:Nat)=n:=λn hn=>by
  rw[Int.fdiv_eq_ediv_of_nonneg n (by omega)]
  exact Int.mul_ediv_cancel' (Int.ofNat_dvd_left.mpr hn)
 have hs:=sH (g:Int) (ns.map λn=>n.fdiv (g:Nat)) (b.fdiv (g:Nat)).natAbs
 have e1:((g:Int)).natAbs*(b.fdiv (g:Nat)).natAbs=b.natAbs:=by rw[<-Int.natAbs_mul,hm b h.1]
 have e2:(ns.map λn=>n.fdiv (g:Nat)).map ((g:Int) * ·)=ns:=by
  rw[List.map_map]
  conv=>rhs;rw[<-List.map_id ns]
  apply List.map_congr_left
  intro n hn
  exact hm n (h.2 n hn)
 rw[e1,e2,hg,Int.natAbs_natCast]at hs
 exact Nat.eq_of_mul_eq_mul_left (show 0<g by omega) (by rw[Nat.mul_one];exact hs.symm)
theorem Oh{φ:FF}(h:qe φ){d:Nat}{ns:List Int}{b:Int}(μ:Mu)(hd:1<=d)(hd3:d<=3)(hp:PtL d ns b):∃p,φ [.lst (ns.map .int),.int b] μ=some (p,μ)/\Iw d p:=by
 obtain⟨hl,hn,b0,b1⟩:=hp
 have e:=h ns b μ (by omega) (by unfold Sm;have:(2:Nat) ^ 4000>=2 ^ 7:=Nat.pow_le_pow_right (by decide) (by decide);omega) (by omega) (λz=>by rw[z]at hl;simp at hl;omega)
 have e1:sgn b=1:=if_pos (by omega)
 rw[e1,Int.one_mul]at e
 have g0:dg b.natAbs ns≠0:=oH (.inl (by omega))
 have gd:=(jM ns b.natAbs).2
 have gle:=Nat.le_of_dvd (by omega) gd
 refine⟨_,e,ns.map (λn=>n.fdiv (dg b.natAbs ns:Nat)),b.fdiv (dg b.natAbs ns:Nat),by simp[List.map_append],⟨by simp[hl],λm hm=>?_,?_,?_⟩,Jj (by omega)⟩
 .obtain⟨n,hn',rfl⟩:=Zq.mp hm
  have:=gJ (x:=n) (y:=(dg b.natAbs ns:Nat)) (by omega)
  have:=hn n hn'
  omega
 .rw[Int.fdiv_eq_ediv_of_nonneg b (by omega)]
  exact(Int.le_ediv_iff_mul_le (by omega)).mpr (by omega)
 .have:=gJ (x:=b) (y:=(dg b.natAbs ns:Nat)) (by omega)
  omega
def isPlace(φ:FF):Prop:=∀(x k b:Int)(μ:Mu),Dr x->0<=k->k<=4->0<=b->b<=500->∃t u:Int,φ [.int x,.int k,.int b] μ=some (.tup [.int t,.int u],μ)/\t.natAbs<=10000/\1<=u/\u<=60
theorem DG:isPlace (trunc (aJ 3 fY)):=λx k b μ hx k0 k4 b0 b5=>by
 have q1:=bF (x:=x) (m:=20001) (by decide)
 have q2:=bF (x:=x.fdiv 20001) (m:=60) (by decide)
 have q3:=bF (x:=x) (m:=5) (by decide)
 have q4:=bF (x:=x) (m:=11) (by decide)
 have q5:=bF (x:=x.fdiv 11) (m:=3) (by decide)
 have q6:=bF (x:=x) (m:=4) (by decide)
 have q7:=bF (x:=x) (m:=2) (by decide)
 have q8:=bF (x:=b) (m:=7) (by decide)
 have d1:=yF (i:=x) (j:=20001) (μ:=μ) (by decide) (by decide)
 have d2:=yF (i:=x) (j:=11) (μ:=μ) (by decide) (by decide)
 have hk:k=0∨k=1∨k=2∨k=3∨k=4:=by omega
 rcases hk with rfl|rfl|rfl|rfl|rfl
 .refine⟨x.fmod 20001-10000,1+(x.fdiv 20001).fmod 60,bW ?_,by omega,by omega,by omega⟩
  simp[fY,d1]
 .refine⟨x.fmod 5-2,1,bW ?_,by omega,by omega,by omega⟩
  simp[fY]
 .refine⟨x.fmod 11-5,1+(x.fdiv 11).fmod 3,bW ?_,by omega,by omega,by omega⟩
  simp[fY,d2]
 .obtain⟨y,hy,e⟩:=wg (ds:=[D.int 0,.int 0,.int 1,.int 40]) q6.1 q6.2
  have hy:∃z:Int,y= .int z/\0<=z/\z<=40:=by
   simp only[Zi,List.not_mem_nil,or_false]at hy
   rcases hy with rfl|rfl|rfl|rfl<;>exact⟨_,rfl,by decide,by decide⟩
  obtain⟨z,rfl,z0,z1⟩:=hy
  refine⟨b+z,1,bW ?_,by omega,by omega,by omega⟩
  simp[fY,e]
 .have s1:Sm 10 (x.fmod 2):=by
   unfold Sm
   have:(2:Nat) ^ 10=1024:=by decide
   omega
  have s2:Sm 10 (1+b.fmod 7):=by
   unfold Sm
   have:(2:Nat) ^ 10=1024:=by decide
   omega
  have m:=Qk (μ:=μ) (FT s1 s2 (by decide))
  have hb:(x.fmod 2*(1+b.fmod 7)).natAbs<=10000:=by
   have h2:x.fmod 2=0∨x.fmod 2=1:=by omega
   rcases h2 with h2|h2<;>rw[h2]<;>omega
  refine⟨x.fmod 2*(1+b.fmod 7),1,bW ?_,hb,by omega,by omega⟩
  simp[fY,m]
theorem vp{a:Int}{n:Nat}{d:D}(h:d∈cQ a n):∃k:Int,d= .int k/\a<=k/\k<a+n:=by
 unfold cQ at h
 obtain⟨k,hk,rfl⟩:=Zq.mp h
 have:=List.mem_range.mp hk
 exact⟨_,rfl,by omega,by omega⟩
def oE(φ:FF):Prop:=∀(x d k b:Int)(μ:Mu),jT μ->Dr x->1<=d->d<=3->0<=k->k<=4->0<=b->b<=400->∃p,φ [.int x,.int d,.int k,.int b] μ=some (p,μ)/\Iw d.toNat p
theorem Et{φ1 φ2 φ3:FF}(h1:lA φ1)(h2:isPlace φ2)(h3:qe φ3):oE (trunc (aJ 9 (jQ φ1 φ2 φ3))):=λx d k b μ hm hx d1 d3 k0 k4 b0 b4=>by
 apply Jh hm
 apply pD
 unfold jQ
 simp[rO (j:=d) (by omega) (by omega)]
 refine mQ (λits δ μ'=>∃(acc:List Int)(bot:Int)(o6 o7 o8:Option D),μ'=μ++[some (acc.map .int)]/\acc.length+its.length=d.toNat/\(∀n∈acc,n.natAbs<=10000)/\(1<=bot/\bot<=60)/\(∀i∈its,∃k:Int,i= .int k/\0<=k/\k<3)/\
  δ=[some (.int x),some (.int d),some (.int k),some (.int b),some (.cell μ.length),some (.int bot),o6,o7,o8]) ?_ ?_ _ _ _ ⟨[],1,none,none,none,rfl,by simp[iw],by simp,by omega,λi hi=>by
   obtain⟨k,rfl,h0,h1⟩:=vp hi
   exact⟨k,rfl,by omega,by omega⟩,rfl⟩
 .rintro i rest δ μ' ⟨acc,bot,o6,o7,o8,rfl,hl,ha,hb,hi,rfl⟩
  obtain⟨j,rfl,j0,j1⟩:=hi i (by simp)
  obtain⟨y,ey,hy⟩:=h1 x (j+1) (μ++[some (acc.map .int)]) (by omega) (by omega)
  obtain⟨t,u,et,ht,u0,u1⟩:=h2 y k (b+j) (μ++[some (acc.map .int)]) hy k0 k4 (by omega) (by omega)
  have hz:acc.length<sizeLine:=Zc (by omega:acc.length<1000) (by decide)
  have fin:∀bot',1<=bot'->bot'<=60->∃(acc':List Int)(bot:Int)(o6 o7 o8:Option D),μ++[some (acc.map D.int++[.int t])]=μ++[some (acc'.map .int)]/\acc'.length+rest.length=d.toNat/\(∀n∈acc',n.natAbs<=10000)/\(1<=bot/\bot<=60)/\(∀i∈rest,∃k:Int,i= .int k/\0<=k/\k<3)/\
    ([some (.int x),some (.int d),some (.int k),some (.int b),some (.cell μ.length),some (.int bot'),some (.int j),some (.int t),some (.int u)]:En)=[some (.int x),some (.int d),some (.int k),some (.int b),some (.cell μ.length),some (.int bot),o6,o7,o8]:=λbot' q1 q2=>
   ⟨acc++[t],bot',_,_,_,by simp,by simp at hl ⊢;omega,λn hn=>by
    rcases Zm.mp hn with z|z
    .exact ha n z
    .rw[List.mem_singleton.mp z];exact ht,⟨q1,q2⟩,λi h=>hi i (by simp[h]),rfl⟩
  by_cases hj:j=0
  .subst hj
   rw[show(0:Int)+1=1 from rfl]at ey
   rw[show b+(0:Int)=b by omega]at et
   simp[ey,et,fU,gZ,hz]
   simpa using fin u u0 u1
  .have hjb:(j==0)=false:=by simpa using hj
   simp[ey,et,hjb,fU,gZ,hz]
   simpa using fin bot hb.1 hb.2
 .rintro δ μ' ⟨acc,bot,o6,o7,o8,rfl,hl,ha,hb,hi,rfl⟩
  obtain⟨p,ep,hp⟩:=Oh h3 (d:=d.toNat) (ns:=acc) (b:=bot) (μ++[none]) (by omega) (by omega) ⟨by simpa using hl,ha,hb⟩
  simp[ep]
  exact⟨hp.nc,hp⟩
section
variable {α:Type} {r j:List α} {x y z:α}
@[simp] theorem Tc:(r++x::j)[r.length]? =some x:=by simp
@[simp] theorem RV:(r++x::j).set r.length y=r++y::j:=by simp[List.set_append]
@[simp] theorem SX:(r++x::(j++[y]))[r.length+(j.length+1)]? =some y:=by
 rw[List.getElem?_append_right (by omega)]
 have:r.length+(j.length+1)-r.length=j.length+1:=by omega
 rw[this]
 simp
@[simp] theorem Sw:(r++x::(j++[y])).set (r.length+(j.length+1)) z=r++x::(j++[z]):=by
 rw[List.set_append_right _ _ (by omega)]
 have:r.length+(j.length+1)-r.length=j.length+1:=by omega
 rw[this]
 simp
end
theorem iu{ys:List Int}{k:Int}(h0:0<=k)(h1:k<ys.length):atI (ys.map D.int) k=some (.int (ys.getD k.toNat 0))/\ys.getD k.toNat 0∈ys:=by
 have hk:k.toNat<ys.length:=by omega
 have e:ys.getD k.toNat 0=ys[k.toNat]:=by simp[List.getD,hk]
 refine⟨?_,by rw[e];exact List.getElem_mem hk⟩
 unfold atI ixN
 rw[if_pos h0,if_pos (by simpa using h1),e]
 simp[hk]
theorem Nm{n:Nat}{ps:List D}{μ:Mu}(h:μ[n]? =some (some ps))(h1:fH ps=true)(h2:iV ps<90):vJ (.cell n) (.lst []) μ=some (.bl (!ps.isEmpty),μ):=by
 show oNe (.cell n) (.lst []) μ=_
 have e1:rsv (.cell n) μ= .lst ps:=by
  show(match μ[n]? with|some (some ds)=>D.lst ds|_=>D.cell n)=_
  rw[h]
 have e2:rsv (.lst []) μ= .lst []:=rfl
 unfold oNe
 rw[e1,e2]
 have e3:cX (.lst ps)=true:=by rw[cX];exact h1
 have e4:cX (.lst [])=true:=by rw[cX,fH]
 have e5:gV (.lst ps)<100:=by rw[gV];omega
 have e6:eqD (.lst ps) (.lst [])=ps.isEmpty:=by cases ps<;>rw[eqD]<;>simp[gQ]
 rw[e3,e4,e6,if_pos ⟨rfl,e5⟩]
theorem pL{b:Nat}{x:Int}(n:Nat)(h:x.natAbs<n)(hn:n<=2 ^ b):Sm b x:=Zc h hn
def aC(r:List Int):D:=.tup (r.map .int)
@[simp] theorem Pn{r:List Int}{μ:Mu}:bM (aC r) μ=some (r.map .int):=rfl
@[simp] theorem HW{r:List Int}{μ:Mu}:dO (aC r) μ=some (.int r.length,μ):=by simp[aC]
theorem jz{α:Type}{F:α->D}{l:List α}{k:Int}{z:α}(h0:0<=k)(h1:k<l.length):atI (l.map F) k=some (F (l.getD k.toNat z))/\l.getD k.toNat z∈l:=by
 have hk:k.toNat<l.length:=by omega
 have e:l.getD k.toNat z=l[k.toNat]:=by simp[List.getD,hk]
 refine⟨?_,by rw[e];exact List.getElem_mem hk⟩
 unfold atI ixN
 rw[if_pos h0,if_pos (by simpa using h1),e]
 simp[hk]
theorem iy{α β:Type}{F:α->D}{G:β->D}:∀(a:List α)(b:List β),jf (a.map F) (b.map G)=(a.zip b).map λp=>.tup [F p.1,G p.2]
 | [],_=>by simp[jf]
 |a::as,[]=>by simp[jf]
 |a::as,b::bs=>by simp[jf,iy as bs]
theorem sX{α:Type}{th:D->cR}{F:α->D}{g:α->Int}{μ:Mu}:∀(l:List α)(a:Int),(∀x∈l,th (F x) μ=some (.int (g x),μ))->pN a ((l.map F).map th) μ=some (a+(l.map g).sum,μ)
 | [],a,_=>by simp[pN]
 |x::l,a,h=>by
  have h1:=h x (by simp)
  have ih:=sX l (a+g x) λy hy=>h y (by simp[hy])
  rw[Zj,Zj]
  unfold pN
  rw[h1]
  simp only[Option.bind_some]
  rw[ih]
  simp
  omega
theorem bK{α:Type}{all:List D}{h:GF}{fe:EF}{δb:En}{F:α->D}{f:α->D}{μ:Mu}:∀(l:List α),(∀x∈l,∃δ1,h (F x) δb μ=some δ1/\fe δ1 μ=some (f x,μ))->lcL ⟨all,none⟩ h aR fe δb (l.map F) μ=some (l.map f,μ)
 | [],_=>by simp only[List.map_nil];unfold lcL;simp[bL]
 |d::r,hd=>by
  obtain⟨δ1,h1,h2⟩:=hd d (by simp)
  have h3:=bK (all:=all) r λx hx=>hd x (by simp[hx])
  rw[Zj]
  unfold lcL
  simp[bL,h1,aR,h2,h3]
def dot(ws cs:List Int):Int:=((ws.zip cs).map λp=>p.1*p.2).sum
def Dk(φ:FF):Prop:=∀(ws cs:List Int)(μ:Mu),(∀w∈ws,Sm 9000 w)->(∀c∈cs,Sm 9000 c)->φ [.lst (ws.map .int),.lst (cs.map .int)] μ=some (.int (dot ws cs),μ)
theorem Mq:Dk (trunc (aJ 2 bD)):=λws cs μ hw hc=>by
 apply bW
 have e:=sX (th:=thG (gn 2 (aY (hName 0) (aY (hName 1) gq))) (M2 (ao 0) (ao 1) cB) (bU ["one","other"] [some (.lst (ws.map .int)),some (.lst (cs.map .int))] [])) (F:=λp:Int×Int=>.tup [D.int p.1,.int p.2]) (g:=λp=>p.1*p.2) (μ:=μ) (ws.zip cs) 0 λp hp=>by
  obtain⟨p1,p2⟩:=p
  have hm:=List.of_mem_zip hp
  have:=cG (x:=p1) (y:=p2) μ (hw _ hm.1) (hc _ hm.2) (by decide)
  simp[thG,bU,this]
 have ez:=iy (F:=D.int) (G:=D.int) ws cs
 unfold dot
 simp[bD,ez]
 rw[List.map_map]at e
 rw[e]
 simp
def aX(r:List Int):Int:=r.getLastD 0
def col(rs:List (List Int))(i:Nat):List Int:=rs.map λr=>r.getD i 0
structure QB(d1:Nat)(r:List Int):Prop where
 len:r.length=d1
 sm:∀n∈r,n.natAbs<=10000
 b1:1<=aX r
 b2:aX r<64
theorem PtL.row{d:Nat}{ns:List Int}{b:Int}(h:PtL d ns b):QB (d+1) (ns++[b]):=⟨by simp[h.1],λn hn=>by
 rcases Zm.mp hn with z|z
 .exact h.2.1 n z
 .rw[List.mem_singleton.mp z];have:=h.2.2;omega,by unfold aX;simp;exact h.2.2.1,by unfold aX;simp;have:=h.2.2.2;omega⟩
theorem Ph{F:EF}{δ:En}{μ:Mu}{k:Int}(h0:0<=k)(h1:k<=100000)(a:F δ μ=some (.int k,μ)):bV (aa F au) δ μ=some (⟨cQ 0 k.toNat,none⟩,μ):=by
 have rr:=rO (j:=k) (μ:=μ) (by omega) (by omega)
 rw[MF,zU,a]
 simp only[Option.bind_some,Fi]
 exact rr
theorem NB{F:EF}{δ:En}{μ:Mu}{r:List Int}{d1:Nat}(hl:r.length=d1)(a:F δ μ=some (aC r,μ)):MC (aa F au) (bh dO) δ μ=some (.int d1,μ):=by
 rw[Ru,zU,a]
 simp only[Option.bind_some,Fi,PK,HW,hl]
def ShOk(n:Nat)(sh:List (Int×Int)):Prop:=∀x∈sh,0<=x.1/\x.1<n/\1<=x.2/\Sm 2000 x.2
theorem jl{w c:Int}{ws cs:List Int}:dot (w::ws) (c::cs)=w*c+dot ws cs:=by unfold dot;simp
@[simp] theorem Pu{μ:Mu}{ds:List D}:bM (.cell μ.length) (μ++[some ds])=some ds:=by unfold bM;simp
theorem ug:∀(a b:List Int),gQ (a.map D.int) (b.map D.int)=(a==b)
 | [],[]=>by simp[gQ]
 | [],b::bs=>by simp[gQ]
 |a::as,[]=>by simp[gQ]
 |a::as,b::bs=>by simp[gQ,eqD,ug as bs]
def pairOf:D->Int×Int
 | .tup [.int k,.int s]=>(k,s)
 |_=>(0,0)
def Qp:List (Int×Int)->Bool
 | []=>true
 |a::l=>match l with
  | []=>true
  |b::_=>decide (a.1<b.1)&&Qp l
def cW(gs:List Int):D:=.tup (gs.map .int)
def shOf:D->List (Int×Int)
 | .tup ds=>ds.map pairOf
 |_=>[]
def yO(n:Int):D->Bool
 | .tup ds=>((ds.length:Int)==n)
 |_=>false
theorem Ga(n:Int)(d:D)(μ:Mu)(h:nc d):trunc (aJ 2 iJ) [.int n,d] μ=some (.bl (yO n d),μ):=by
 apply bW
 cases d with
 |cell n=>simp[nc,cLt]at h
 |ro ds=>simp[iJ,iW,zg,yO]
 |_=>simp[iJ,yO]
def Fz(φ:FF):Prop:=∀(n:Int)(d:D)(μ:Mu),nc d->φ [.int n,d] μ=some (.bl (yO n d),μ)
theorem any_ints(μ:Mu):∀ns:List Int,nO ((ns.map D.int).map thE) μ=some (ns.any (λn=>n != 0),μ)
 | []=>rfl
 |n::ns=>by
  have ih:=any_ints μ ns
  rw[Zj,Zj]
  unfold nO
  show((qK (D.int n)).bind λk=>if k=true then some (true,μ)else nO ((ns.map D.int).map thE) μ)=_
  cases h:(n != 0)with
  |true=>simp[qK,h]
  |false=>
   rw[List.map_map]at ih
   simp[qK,h,ih]
theorem sum_ints(μ:Mu):∀(ns:List Int)(a:Int),pN a ((ns.map D.int).map thE) μ=some (a+ns.sum,μ)
 | [],a=>by simp[pN]
 |n::ns,a=>by
  have ih:=sum_ints μ ns (a+n)
  rw[Zj,Zj]
  unfold pN
  show pN (a+n) ((ns.map D.int).map thE) μ=_
  rw[ih,List.sum_cons,Int.add_assoc]
theorem szl{n:Nat}(h:n<=1000):n<=sizeLine:=Zl h (by decide)
theorem wW{α:Type}{c:Nat}{all:List D}{h:GF}{fe:EF}{δb:En}{F:α->D}{f:α->D}{μ:Mu}(hc:μ[c]? =some (some all)):∀(l:List α),(∀x∈l,∃δ1,h (F x) δb μ=some δ1/\fe δ1 μ=some (f x,μ))->lcL ⟨all,some c⟩ h aR fe δb (l.map F) μ=some (l.map f,μ)
 | [],_=>by
  have ok:Src.ok ⟨all,some c⟩ μ:=λn e=>by cases e;exact hc
  simp only[List.map_nil];unfold lcL;simp[ok]
 |d::r,hd=>by
  have ok:Src.ok ⟨all,some c⟩ μ:=λn e=>by cases e;exact hc
  obtain⟨δ1,h1,h2⟩:=hd d (by simp)
  have h3:=wW hc r λx hx=>hd x (by simp[hx])
  rw[Zj]
  unfold lcL
  simp[ok,h1,aR,h2,h3]
theorem Br{b:Nat}:∀(l:List Int),(∀z∈l,Sm b z)->l.sum.natAbs<=l.length*2 ^ b
 | [],_=>by simp
 |z::l,h=>by
  have ih:=Br l λy hy=>h y (by simp[hy])
  have hz:z.natAbs<2 ^ b:=h z (by simp)
  rw[List.sum_cons,List.length_cons,Nat.succ_mul]
  have:=Int.natAbs_add_le z l.sum
  omega
theorem Eo{a b:Nat}{ws cs:List Int}(hw:∀w∈ws,Sm a w)(hc:∀c∈cs,Sm b c)(hl:ws.length<=60):Sm (a+b+10) (dot ws cs):=by
 have h:=Br (b:=a+b) ((ws.zip cs).map λp=>p.1*p.2) λz hz=>by
  obtain⟨⟨w,c⟩,hp,rfl⟩:=Zq.mp hz
  have hm:=List.of_mem_zip hp
  exact kh (hw w hm.1) (hc c hm.2)
 unfold dot
 generalize ((ws.zip cs).map λp=>p.1*p.2).sum=z at *
 rw[Zu,List.length_zip]at h
 unfold Sm
 have:min ws.length cs.length*2 ^ (a+b)<2 ^ 10*2 ^ (a+b):=Nat.mul_lt_mul_of_pos_right (by omega) (Nat.two_pow_pos _)
 rw[<-Nat.pow_add]at this
 rw[Nat.add_comm (a+b) 10]
 omega
theorem LK(ps:List (List Int))(μ:Mu):oNe (.lst (ps.map aC)) (.lst (ps.map aC)) μ=some (.bl false,μ):=by
 have hp:∀qs:List (List Int),fH (qs.map aC)=true/\iV (qs.map aC)<=1/\gQ (qs.map aC) (qs.map aC)=true:=λqs=>by
  induction qs with
  |nil=>exact⟨by simp[fH],by simp[iV],by simp[gQ]⟩
  |cons q qs ih=>
   obtain⟨a,b,c⟩:=ih
   refine⟨?_,?_,?_⟩
   .rw[Zj,fH,a];unfold aC;rw[cX,mK];rfl
   .rw[Zj,iV];unfold aC at *;rw[gV,oO];omega
   .rw[Zj,gQ,c];unfold aC;rw[eqD,ug];simp
 obtain⟨a,b,c⟩:=hp ps
 unfold oNe
 have e1:rsv (.lst (ps.map aC)) μ= .lst (ps.map aC):=rfl
 have e2:cX (.lst (ps.map aC))=true:=by rw[cX];exact a
 have e3:gV (.lst (ps.map aC))<100:=by rw[gV];omega
 have e4:eqD (.lst (ps.map aC)) (.lst (ps.map aC))=true:=by rw[eqD];exact c
 rw[e1,e2,e4,if_pos ⟨rfl,e3⟩]
 rfl
structure VS(n:Nat)(f:List (Int×Int)):Prop where
 ne:f≠[]
 len:f.length<=60
 ok:ShOk n f
 ris:Qp f=true
theorem uB:∀qs:List (List Int),fH (qs.map aC)=true/\iV (qs.map aC)<=1
 | []=>⟨by simp[fH],by simp[iV]⟩
 |q::qs=>by
  obtain⟨a,b⟩:=uB qs
  refine⟨?_,?_⟩
  .rw[Zj,fH,a];unfold aC;rw[cX,mK];rfl
  .rw[Zj,iV];unfold aC at *;rw[gV,oO];omega
def Hd(φ:FF):Prop:=∀(ws cs:List Int)(μ:Mu),(∀w∈ws,Sm 9000 w)->(∀c∈cs,Sm 9000 c)->φ [aC ws,aC cs] μ=some (.int (dot ws cs),μ)
theorem Jm:Hd (trunc (aJ 2 bD)):=λws cs μ hw hc=>by
 apply bW
 have e:=sX (th:=thG (gn 2 (aY (hName 0) (aY (hName 1) gq))) (M2 (ao 0) (ao 1) cB) (bU ["one","other"] [some (aC ws),some (aC cs)] [])) (F:=λp:Int×Int=>.tup [D.int p.1,.int p.2]) (g:=λp=>p.1*p.2) (μ:=μ) (ws.zip cs) 0 λp hp=>by
  obtain⟨p1,p2⟩:=p
  have hm:=List.of_mem_zip hp
  have:=cG (x:=p1) (y:=p2) μ (hw _ hm.1) (hc _ hm.2) (by decide)
  simp[thG,bU,this]
 have ez:=iy (F:=D.int) (G:=D.int) ws cs
 unfold dot aC
 unfold aC at e
 simp[bD,ez]
 rw[List.map_map]at e
 rw[e]
 simp
structure SpR(d:Nat)(r:List Int):Prop where
 len:r.length=d+1
 sm:∀x∈r,Sm 9000 x
theorem SpR.ne{d:Nat}{r:List Int}(h:SpR d r):r≠[]:=λz=>by
 have:=h.len
 rw[z]at this
 simp at this
theorem SpR.last{d:Nat}{r:List Int}(h:SpR d r):atI (r.map D.int) (-1)=some (.int (aX r)):=uM h.ne
theorem SpR.GJ{d:Nat}{r:List Int}(h:SpR d r):Sm 9000 (aX r):=by
 apply h.sm
 unfold aX
 cases r with
 |nil=>exact absurd rfl h.ne
 |cons a b=>simp[List.getLastD]
def bey(ns:List Int)(m:Int)(r:List Int):Bool:=decide (m*aX r<dot ns r.dropLast)
theorem qN:∀(ns r:List Int),r.length=ns.length+1->dot ns r=dot ns r.dropLast
 | [],r,_=>by simp[dot]
 |n::ns,[],h=>by simp at h
 |n::ns,[x],h=>by simp at h
 |n::ns,x::y::r,h=>by
  have:=qN ns (y::r) (by simpa using h)
  rw[jl,List.dropLast_cons₂,jl,this]
def yg(φ:FF):Prop:=∀(d:Nat)(ns:List Int)(m:Int)(r:List Int)(μ:Mu),ns.length=d->(∀n∈ns,Sm 2000 n)->Sm 2000 m->SpR d r->φ [.tup [aC ns,.int m],aC r] μ=some (.bl (bey ns m r),μ)
theorem Dd{φ:FF}(hφ:Hd φ):yg (trunc (aJ 4 (gD φ))):=λd ns m r μ hl hn hm hr=>by
 apply bW
 have e1:=hφ ns r.dropLast μ (λw h=>aZ (hn w h) (by decide)) λc h=>hr.sm c ((List.dropLast_sublist _).mem h)
 have e2:oSl (aC r) none (some (-1)) μ=some (aC r.dropLast,μ):=by
  have:=Bb (ds:=r.map D.int) (μ:=μ) (λz=>hr.ne (by simpa using z))
  rw[<-List.map_dropLast]at this
  exact this
 have e3:oIx (aC r) (.int (-1)) μ=some (.int (aX r),μ):=by
  unfold aC
  rw[tL]
  simp[hr.last]
 have e4:=cG (x:=m) (y:=aX r) μ hm hr.GJ (by decide)
 unfold bey
 generalize aC r.dropLast=RD at *
 generalize aC r=R at *
 generalize aC ns=N at *
 generalize aX r=b at *
 generalize dot ns r.dropLast=S at *
 simp[gD,e1,e2,e3,e4,-tL]
def wallB(d:Nat):D->Bool
 | .tup [.tup ds,.int _]=>ds.all isInt&&(ds.length==d&&(ds.map intOf).any (λn=>n != 0))
 |_=>false
def ThW(t:D):Prop:=nc t/\∀ds m,t= .tup [.tup ds,.int m]->(∀i,D.int i∈ds->Sm 2000 i)/\Sm 2000 m
def dh(d:Nat):D->Bool
 | .tup [.tup ds,.int _]=>ds.all isInt&&ds.length==d
 |_=>false
theorem wN{d:Nat}{t:D}(h:¬ ∃a b,t= .tup [a,b]):dh d t=false:=by
 unfold dh
 split
 .exact absurd ⟨_,_,rfl⟩ h
 .rfl
theorem JB{d:Nat}{t:D}(h:dh d t=true):∃(ns:List Int)(m:Int),t= .tup [aC ns,.int m]/\ns.length=d:=by
 unfold dh at h
 split at h
 .rename_i ds m
  simp only[Zo,beq_iff_eq]at h
  refine⟨ds.map intOf,m,?_,by simpa using h.2⟩
  unfold aC
  rw[<-ints_of h.1]
 .cases h
theorem Jg{φ1 φ2 φ3:FF}(h1:Fz φ1)(h2:Dh φ2)(h3:xR φ3)(d:Nat)(t:D)(μ:Mu)(hn:nc t):trunc (aJ 4 (jd φ1 φ2 φ3)) [.int d,t] μ=some (.bl (dh d t),μ):=by
 apply bW
 unfold jd
 have e1:=h1 2 t μ hn
 by_cases hp:∃a b,t= .tup [a,b]
 .obtain⟨a,b,rfl⟩:=hp
  have na:nc a:=fJ.mp hn a (by simp)
  have nb:nc b:=fJ.mp hn b (by simp)
  have e2:=h2 a μ na
  have e3:=h3 b μ nb
  have e1:φ1 [.int 2,.tup [a,b]] μ=some (.bl true,μ):=e1
  cases a with
  |tup ds=>
   have ei:uo (.tup ds)=ds.all isInt:=rfl
   rw[ei]at e2
   have el:((ds.length:Int)==(d:Int))=(ds.length==d):=by
    by_cases h:ds.length=d
    .simp[h]
    .have:¬(ds.length:Int)=d:=by omega
     rw[beq_eq_false_iff_ne.mpr this,beq_eq_false_iff_ne.mpr h]
   have ev:dh d (.tup [.tup ds,b])=(ds.all isInt&&((ds.length==d)&&isInt b)):=by
    cases b<;>simp[dh,isInt]
   rw[ev]
   generalize (ds.length==d)=B at *
   generalize hl:(ds.length:Int)=l at *
   generalize ds.all isInt=A at *
   generalize isInt b=C at *
   cases A<;>cases B<;>simp[e1,e2,e3,hl,el]
  |_=>
   have e2:φ2 [_] μ=some (.bl false,μ):=e2
   simp[e1,e2,dh]
 .have e1:φ1 [.int 2,t] μ=some (.bl false,μ):=by
   rw[e1]
   congr 3
   cases t with
   |tup ds=>
    match ds,hp with
    | [],_=>rfl
    | [a],_=>rfl
    | [a,b],hp=>exact absurd ⟨a,b,rfl⟩ hp
    |a::b::c::r,_=>
     unfold yO
     simp
     omega
   |_=>rfl
  rw[wN hp]
  simp[e1]
def vD(φ:FF):Prop:=∀(d:Nat)(ns r:List Int)(μ:Mu),d<=9->ns.length=d->(∀n∈ns,Sm 2000 n)->SpR d r->φ [aC ns,aC r] μ=some (.tup [.int (dot ns r.dropLast),.int (aX r)],μ)
theorem Jp:vD (trunc (aJ 2 pK)):=λd ns r μ d9 hl hn hr=>by
 apply bW
 have ez:=iy (F:=D.int) (G:=D.int) ns r
 have ec:=bK (all:=jf (ns.map D.int) (r.map D.int)) (h:=gn 2 (aY (hName 0) (aY (hName 1) (gq)))) (fe:=M2 (ao 0) (ao 1) cB) (δb:=[none,none]) (F:=λp:Int×Int=>D.tup [.int p.1,.int p.2]) (f:=λp=>D.int (p.1*p.2)) (μ:=μ) (ns.zip r) λp hp=>by
  obtain⟨p1,p2⟩:=p
  have hm:=List.of_mem_zip hp
  have:=cG (x:=p1) (y:=p2) μ (hn _ hm.1) (hr.sm _ hm.2) (by decide)
  exact⟨[some (.int p1),some (.int p2)],by simp,by simp[this]⟩
 rw[<-ez]at ec
 have es:=sum_ints μ ((ns.zip r).map λp=>p.1*p.2) 0
 have ed:((ns.zip r).map λp=>p.1*p.2).sum=dot ns r.dropLast:=qN ns r (by rw[hr.len,hl])
 rw[ed,Int.zero_add]at es
 have e3:oIx (aC r) (.int (-1)) μ=some (.int (aX r),μ):=by
  unfold aC
  rw[tL]
  simp[hr.last]
 have f1:cO (aC ns)=some (ns.map D.int):=rfl
 have f2:cO (aC r)=some (r.map D.int):=rfl
 have fm:(ns.zip r).map (λp=>D.int (p.1*p.2))=((ns.zip r).map λp=>p.1*p.2).map D.int:=by simp
 rw[fm]at ec
 have zz:(jf (ns.map D.int) (r.map D.int)).length<=1000:=by rw[ez];simp;omega
 generalize ((ns.zip r).map λp=>p.1*p.2).map D.int=M at *
 generalize aC ns=N at *
 generalize aC r=R at *
 generalize dot ns r.dropLast=S at *
 generalize aX r=b at *
 unfold pK
 simp[f1,f2,zz,bU,ec,es,e3,-tL]
def Ae(φ:FF):Prop:=∀(m S b:Int)(μ:Mu),Sm 2000 m->Sm 9000 b->Sm 20000 S->φ [.tup [.int m,.int 1],.tup [.int S,.int b]] μ=some (.bl (decide (m*b<S)),μ)
theorem Ds:Ae (trunc (aJ 2 jO)):=λm S b μ hm hb hS=>by
 apply bW
 have e1:=cG (x:=m) (y:=b) μ hm hb (by decide)
 have e2:=cG (x:=S) (y:=1) (b:=1) μ hS (by unfold Sm;decide) (by decide)
 rw[Int.mul_one]at e2
 have a0:∀x y:D,atI [x,y] 0=some x:=λ_ _=>rfl
 have a1:∀x y:D,atI [x,y] 1=some y:=λ_ _=>rfl
 unfold jO
 simp[e1,e2,a0,a1]
theorem vC:∀(ns:List Int)(k:Nat),(∀n∈ns,Sm k n)->Sm (k+ns.length) ns.sum
 | [],k,_=>by unfold Sm;exact Nat.pos_of_ne_zero (by simp)
 |n::ns,k,h=>by
  have h1:=vC ns k λx hx=>h x (by simp[hx])
  rw[List.sum_cons,List.length_cons]
  exact wC (aZ (h n (by simp)) (Nat.le_add_right _ _)) h1
theorem Il{ns r:List Int}{d:Nat}(hl:ns.length=d)(hn:∀n∈ns,Sm 2000 n)(hr:SpR d r)(hd:d<=9):Sm 20000 (dot ns r.dropLast):=by
 unfold dot
 have:=vC ((ns.zip r.dropLast).map λp=>p.1*p.2) 11000 λx hx=>by
  obtain⟨p,hp,rfl⟩:=Zq.mp hx
  have hm:=List.of_mem_zip (a:=p.1) (b:=p.2) hp
  exact kh (a:=2000) (b:=9000) (hn _ hm.1) (hr.sm _ ((List.dropLast_sublist _).mem hm.2))
 refine aZ this ?_
 simp
 omega
def qQ(φ:FF):Prop:=∀(d:Nat)(ns:List Int)(m:Int)(ps:List (List Int))(μ:Mu),d<=9->ns.length=d->(∀n∈ns,Sm 2000 n)->Sm 2000 m->(∀p∈ps,SpR d p)->ps.length<=60->φ [.tup [aC ns,.int m],.lst (ps.map aC)] μ=some (.bl (!ps.any (bey ns m)),μ)
theorem behind_of{φ1 φ2:FF}(h1:vD φ1)(h2:Ae φ2):qQ (trunc (aJ 2 (jJ φ1 φ2))):=λd ns m ps μ d9 hl hn hm hp hpl=>by
 apply bW
 have a0:∀x y:D,atI [x,y] 0=some x:=λ_ _=>rfl
 have a1:∀x y:D,atI [x,y] 1=some y:=λ_ _=>rfl
 have ec:=bK (all:=ps.map aC) (h:=hName 0) (fe:=MC (aa (MC (aa (M2 (ao 1) (mC (.int 1)) oIx) (aa (mC (.int 1)) (au))) oTup) (aa (MC (aa (M2 (ao 1) (mC (.int 0)) oIx) (aa (ao 0) (au))) φ1) (au))) φ2) (δb:=[none,some (.tup [aC ns,.int m])]) (F:=aC) (f:=λp=>D.bl (bey ns m p)) (μ:=μ) ps λp hpm=>by
  have hr:=hp p hpm
  have e1:=h1 d ns p μ d9 hl hn hr
  have e2:=h2 m (dot ns p.dropLast) (aX p) μ hm hr.GJ (Il hl hn hr d9)
  refine⟨[some (aC p),some (.tup [aC ns,.int m])],by simp,?_⟩
  unfold bey
  generalize aC p=P at *
  generalize aC ns=N at *
  simp[e1,e2,a0,a1]
 have ea:nO ((ps.map λp=>D.bl (bey ns m p)).map thE) μ=some (ps.any (bey ns m),μ):=by
  have:=yL (th:=thE) (p:=λd=>match d with| .bl k=>k|_=>false) (μ:=μ) (ps.map λp=>D.bl (bey ns m p)) λd hd=>by
   obtain⟨q,hq,rfl⟩:=Zq.mp hd
   rfl
  rw[this,List.any_map]
  rfl
 have zz:(ps.map aC).length<=1000:=by simp;omega
 generalize ps.any (bey ns m)=A at *
 generalize (ps.map λp=>D.bl (bey ns m p))=M at *
 generalize D.tup [aC ns,.int m]=W at *
 generalize ps.map aC=PD at *
 unfold jJ
 simp[zz,bU,ec,ea]
theorem Fv{μ:Mu}(ds:List D)(f:D->Bool):tB ((ds.map λd=>D.bl (f d)).map thE) μ=some (ds.all f,μ):=by
 have:=oN (th:=thE) (p:=λd=>match d with| .bl k=>k|_=>false) (μ:=μ) (ds.map λp=>D.bl (f p)) λd hd=>by
  obtain⟨q,hq,rfl⟩:=Zq.mp hd
  rfl
 rw[this,List.all_map]
 rfl
theorem HN{φ:FF}(hφ:xR φ)(d:Nat)(t:D)(μ:Mu)(hn:nc t)(hl:∀a b,t= .tup [.tup a,b]->a.length<=1000):trunc (aJ 2 (ie φ)) [.int d,t] μ=some (.bl (dh d t),μ):=by
 apply bW
 unfold ie
 by_cases hp:∃a b,t= .tup [a,b]
 .obtain⟨a,b,rfl⟩:=hp
  have na:nc a:=fJ.mp hn a (by simp)
  have nb:nc b:=fJ.mp hn b (by simp)
  have e3:=hφ b μ nb
  have a0:∀x y:D,atI [x,y] 0=some x:=λ_ _=>rfl
  have a1:∀x y:D,atI [x,y] 1=some y:=λ_ _=>rfl
  have ev:dh d (.tup [a,b])=(isInt b&&dh d (.tup [a,.int 0])):=by
   cases b<;>simp[dh,isInt]
   cases a<;>simp[dh]
  rw[ev]
  generalize isInt b=C at *
  cases C with
  |false=>simp[e3,a0,a1]
  |true=>
   cases a with
   |tup ds=>
    have ea:=Fv (μ:=μ) ds isInt
    have ec:=qG (all:=ds) (h:=hName 0) (fe:=MC (aa (ao 0) (au)) φ) (δb:=[none]) (f:=λd=>D.bl (isInt d)) (μ:=μ) ds λx hx=>⟨[some x],by simp,by simp[hφ x μ (fJ.mp na x hx)]⟩
    have zz:=hl ds b rfl
    have el:((ds.length:Int)==(d:Int))=(ds.length==d):=by
     by_cases h:ds.length=d
     .simp[h]
     .have:¬(ds.length:Int)=d:=by omega
      rw[beq_eq_false_iff_ne.mpr this,beq_eq_false_iff_ne.mpr h]
    have ev:dh d (.tup [.tup ds,.int 0])=(ds.all isInt&&(ds.length==d)):=rfl
    rw[ev]
    generalize (ds.length==d)=B at *
    generalize hlen:(ds.length:Int)=l at *
    generalize ds.all isInt=A at *
    generalize (ds.map λd=>D.bl (isInt d))=BM at *
    cases B with
    |false=>simp[e3,a0,a1,hlen,el]
    |true=>simp[e3,a0,a1,hlen,el,zz,bU,ec,ea]
   |cell n=>exact absurd na (by simp[nc,cLt])
   |ro ds=>simp[e3,a0,a1,dh,iW,zg]
   |_=>simp[e3,a0,a1,dh]
 .rw[wN hp]
  cases t with
  |tup ds=>
   have hl2:¬(ds.length:Int)=2:=λz=>by
    match ds,hp,z with
    | [a,b],hp,_=>exact hp ⟨a,b,rfl⟩
    | [],_,z=>simp at z
    | [a],_,z=>simp at z
    |a::b::c::r,_,z=>simp at z;omega
   have hl3:((ds.length:Int)==2)=false:=beq_eq_false_iff_ne.mpr hl2
   generalize hlen:(ds.length:Int)=l at *
   simp[hlen,hl3]
  |cell n=>exact absurd hn (by simp[nc,cLt])
  |ro ds=>simp[iW,zg]
  |_=>simp
def JV(φ:FF):Prop:=∀(d:Int)(L:List Int),1<=d->d<=3->DlD L->∃(ns L':List Int),φ [.cell 0,.int d] [some (L.map .int)]=some (aC ns,[some (L'.map .int)])/\DlD L'/\ns.length=d.toNat/\∀n∈ns,Sm 21 n
theorem Dq{φ:FF}(hφ:lA φ)(x z:Int)(z1:1<=z)(z2:z<=1000000)(all:List D)(μ:Mu):∀(its:List D),(∀i∈its,∃k:Int,i= .int k/\0<=k/\k<100)->∃ns:List Int,
  lcL ⟨all,none⟩ (hName 0) aR (M2 (M2 (MC (aa (M2 (ao 1) (mC (.int 4)) oDiv) (aa (M2 (ao 0) (mC (.int 1)) bc) (au))) φ) (M2 (M2 (mC (.int 2)) (ao 2) cB) (mC (.int 1)) bc) oMod) (ao 2) dU) [none,some (.int x),some (.int z)] its μ=some (ns.map .int,μ)/\ns.length=its.length/\∀n∈ns,Sm 21 n
 | [],_=>⟨[],by unfold lcL;simp[bL],rfl,λn h=>by cases h⟩
 |i::its,h=>by
  obtain⟨k,rfl,k0,k1⟩:=h i (by simp)
  obtain⟨ns,e,hl,hs⟩:=Dq hφ x z z1 z2 all μ its λj hj=>h j (by simp[hj])
  have v4:=yF (i:=x) (j:=4) (μ:=μ) (by decide) (by decide)
  obtain⟨r,er,hr⟩:=hφ (x.fdiv 4) (k+1) μ (by omega) (by omega)
  have em:=cG (x:=2) (y:=z) (a:=2) (b:=20) μ (pL 3 (by decide) (by decide)) (pL 1000001 (by omega) (by decide)) (by decide)
  obtain⟨m0,m1⟩:=bF (x:=r) (m:=2*z+1) (by omega)
  have wm:=iK (x:=r) (y:=2*z+1) μ (by omega)
  generalize hq:r.fmod (2*z+1)=q at *
  refine⟨(q-z)::ns,?_,by simp[hl],λn hn=>?_⟩
  .unfold lcL
   simp[bL,aR,v4,er,em,wm,e]
  .rcases Zi.mp hn with w|w
   .rw[w];exact pL 1000001 (by omega) (by decide)
   .exact hs n w
theorem Qi{φ1 φ2:FF}(h1:jA φ1)(h2:lA φ2):JV (trunc (aJ 4 (Ab φ1 φ2))):=λd L d1 d3 hL=>by
 obtain⟨x,L1,e1,hx,hL1⟩:=jo h1 hL []
 obtain⟨i0,i1⟩:=bF (x:=x) (m:=4) (by decide)
 obtain⟨sz,hsz,esz⟩:=wg (ds:=[D.int 2,.int 5,.int 1000,.int 1000000]) i0 i1
 have hsz:∃z:Int,sz= .int z/\1<=z/\z<=1000000:=by
  simp only[Zi,List.not_mem_nil,or_false]at hsz
  rcases hsz with rfl|rfl|rfl|rfl<;>exact⟨_,rfl,by decide,by decide⟩
 obtain⟨z,rfl,z1,z2⟩:=hsz
 obtain⟨ns,e2,hl,hs⟩:=Dq h2 x z z1 z2 (cQ 0 d.toNat) [some (L1.map .int)] (cQ 0 d.toNat) λi hi=>by
  obtain⟨k,e,k0,k1⟩:=vp hi
  exact⟨k,e,k0,by omega⟩
 rw[iw]at hl
 refine⟨ns,L1,?_,hL1,hl,hs⟩
 have rd:=rO (j:=d) (μ:=[some (L1.map .int)]) (by omega) (by omega)
 have zd:(cQ 0 d.toNat).length<=1000:=by rw[iw];omega
 generalize cQ 0 d.toNat=RG at *
 have key:Ok (aJ 4 (Ab φ1 φ2) [.cell 0,.int d] [some (L.map .int)]) (λr=>r=(aC ns,[some (L1.map .int)])):=by
  apply pD
  unfold Ab
  have rt:D.tup (ns.map .int)=aC ns:=rfl
  generalize ns.map D.int=ND at *
  generalize aC ns=R at *
  simp[e1,esz,rd,zd,bU,e2,rt]
 exact mD (ul key) rfl
def ThV(t:D):Prop:=ThW t/\∀a b,t= .tup [.tup a,b]->a.length<=1000
theorem QC{a:List D}{b:D}(h1:∀x∈a,nc x)(h2:nc b)(h3:∀i,D.int i∈a->Sm 2000 i)(h4:∀m,b= .int m->Sm 2000 m)(h5:a.length<=1000):ThV (.tup [.tup a,b]):=by
 refine⟨⟨fJ.mpr λx hx=>?_,λds m e=>?_⟩,λa' b' e=>?_⟩
 .simp only[Zi,List.not_mem_nil,or_false]at hx
  rcases hx with rfl|rfl
  .exact fJ.mpr h1
  .exact h2
 .cases e;exact⟨h3,h4 m rfl⟩
 .cases e;exact h5
theorem QL{t:D}(h:nc t)(k:∀a b,t≠ .tup [.tup a,b]):ThV t:=⟨⟨h,λds m e=>absurd e (k _ _)⟩,λa b e=>absurd e (k _ _)⟩
theorem vQ{ns:List Int}{t:Int}(h1:∀n∈ns,Sm 2000 n)(h2:Sm 2000 t)(h3:ns.length<=1000):ThV (.tup [.tup (ns.map .int),.int t]):=QC jc sU (λi hi=>by
 obtain⟨j,hj,e⟩:=Zq.mp hi
 cases e
 exact h1 i hj) (λm e=>by cases e;exact h2) (by simpa using h3)
theorem Qd(ns:List Int)(hs:∀n∈ns,Sm 21 n)(all:List D)(μ:Mu):lcL ⟨all,none⟩ (hName 0) aR (M2 (ao 0) (ao 0) cB) [none] (ns.map D.int) μ=some ((ns.map λn=>n*n).map D.int,μ):=by
 rw[List.map_map]
 refine bK (F:=D.int) ns λn hn=>?_
 have em:=cG (x:=n) (y:=n) (a:=21) (b:=21) μ (hs n hn) (hs n hn) (by decide)
 exact⟨[some (.int n)],by simp,by simp[em]⟩
theorem zq:∀(ns:List Int),0<=(ns.map λn=>n*n).sum
 | []=>by simp
 |n::ns=>by
  have:=zq ns
  have h2:0<=n*n:=by
   rcases Int.le_total 0 n with h|h
   .exact Int.mul_nonneg h h
   .exact Int.mul_nonneg_of_nonpos_of_nonpos h h
  simp only[Zj,List.sum_cons]
  omega
theorem oU:∀(l:List Int),l≠[]->jr l∈l
 | [],h=>absurd rfl h
 | [a],_=>by simp[jr]
 |a::b::l,_=>by
  unfold jr
  have:=oU (b::l) (by simp)
  by_cases hab:a<=jr (b::l)
  .rw[Int.max_eq_right hab];exact List.mem_cons_of_mem _ this
  .rw[Int.max_eq_left (by omega)];simp
def tr1F(r:List D×Mu):Option (D×Mu):=match r.1 with
 | [.int j]=>if -(2 ^ 62)<=j/\j<2 ^ 62/\j.toNat<=sizeLine then some (.tup (cQ 0 j.toNat),r.2)else none
 |_=>none
def Qe(r:List D×Mu):Option (D×Mu):=match r.1 with
 | [.int i,.int j]=>if(-(2 ^ 62)<=i/\i<2 ^ 62/\ -(2 ^ 62)<=j/\j<2 ^ 62)/\(j-i).toNat<=sizeLine then some (.tup (cQ i (j-i).toNat),r.2)else none
 |_=>none
theorem Jo{fs:AF}{δ:En}{μ:Mu}:qY fs δ μ=(fs δ μ).bind Qe:=rfl
def qt(i:Int)(n:Nat):List Int:=(List.range n).map λ(k:Nat)=>i+(k:Int)
theorem Nh{i j:Int}{μ:Mu}(h0:0<=i)(h1:i<=j)(h2:j<=1000):Qe ([.int i,.int j],μ)=some (cW (qt i (j-i).toNat),μ):=by
 show(if(-(2 ^ 62)<=i/\i<2 ^ 62/\ -(2 ^ 62)<=j/\j<2 ^ 62)/\(j-i).toNat<=sizeLine then some (D.tup (cQ i (j-i).toNat),μ)else none)=_
 rw[if_pos ⟨⟨by omega,by omega,by omega,by omega⟩,szl (by omega)⟩]
 unfold cW cQ qt
 rw[List.map_map];rfl
theorem uL{α:Type}{th:D->cR}{F:α->D}{p:α->Bool}{μ:Mu}:∀(l:List α),(∀x∈l,th (F x) μ=some (.bl (p x),μ))->tB ((l.map F).map th) μ=some (l.all p,μ)
 | [],_=>rfl
 |d::ds,h=>by
  rw[Zj,Zj]
  unfold tB
  rw[h d (by simp)]
  have ih:=uL ds λx hx=>h x (by simp[hx])
  rw[List.map_map]at ih
  cases hp:p d<;>simp[hp,qK,ih]
theorem ut{α:Type}{F:α->D}{P:α->Bool}{μ:Mu}{h:GF}{fe:EF}{δ1:En}:∀(l:List α),(∀x∈l,∃δ2,h (F x) δ1 μ=some δ2/\fe δ2 μ=some (.bl (P x),μ))->∃ts,jH μ h aR fe δ1 (l.map F)=some ts/\∀us,nO (ts++us) μ=if l.any P=true then some (true,μ)else nO us μ
 | [],_=>⟨[],rfl,λus=>by simp⟩
 |x::l,hx=>by
  obtain⟨δ2,e1,e2⟩:=hx x (by simp)
  obtain⟨ts,e3,h3⟩:=ut l λy hy=>hx y (by simp[hy])
  refine⟨thP μ fe δ2::ts,?_,λus=>?_⟩
  .rw[Zj]
   unfold jH
   rw[e1]
   simp[aR,e3]
  .have et:thP μ fe δ2 μ=some (.bl (P x),μ):=by
    unfold thP
    simp[e2]
   rw[List.cons_append]
   conv=>lhs;unfold nO
   rw[et]
   cases hp:P x with
   |true=>simp[qK,hp]
   |false=>simp[qK,hp,h3]
theorem tU{α β:Type}{G:β->D}{F:α->D}{xs:β->List α}{P:β->α->Bool}{μ:Mu}{h1 h2:GF}{fi2:IF}{fe:EF}{δb:En}:∀(l:List β),(∀y∈l,∃δ1,h1 (G y) δb μ=some δ1/\fi2 δ1 μ=some (⟨(xs y).map F,none⟩,μ)/\∀x∈xs y,∃δ2,h2 (F x) δ1 μ=some δ2/\fe δ2 μ=some (.bl (P y x),μ))->∃ts,iG μ h1 aR fi2 h2 aR fe δb (l.map G)=some ts/\nO ts μ=some (l.any λy=>(xs y).any (P y),μ)
 | [],_=>⟨[],rfl,rfl⟩
 |y::l,hy=>by
  obtain⟨δ1,e1,e2,e3⟩:=hy y (by simp)
  obtain⟨ts,e4,h4⟩:=ut (xs y) e3
  obtain⟨us,e5,h5⟩:=tU l λz hz=>hy z (by simp[hz])
  refine⟨ts++us,?_,?_⟩
  .rw[Zj]
   unfold iG
   rw[e1]
   simp[aR,e2,e4,e5]
  .rw[h4,h5,List.any_cons]
   cases (xs y).any (P y)<;>simp
def aN(w:List Int×Int):D:=.tup [aC w.1,.int w.2]
def cH:D->List Int×Int
 | .tup [.tup ds,.int m]=>(ds.map intOf,m)
 |_=>([],0)
def CG(d:Nat)(w:List Int×Int):Prop:=w.1.length=d/\(∀n∈w.1,Sm 2000 n)/\Sm 2000 w.2
def oA(t:D):Prop:=nc t/\∀ds,t= .tup ds->ds.length<=60/\∀d∈ds,ThV d
def lX(ws:List (List Int×Int))(k:Nat):Int:=(ws.map λw=>w.1.getD k 0).sum
def dR(ws:List (List Int×Int)):Int:=(ws.map λw=>w.2).sum
def czB(d:Nat)(ws:List (List Int×Int)):Bool:=(List.range d).all λk=>lX ws k==0
def atP(ps:List (List Int))(g:List Int):List (List Int):=g.map λk=>ps.getD k.toNat []
def mU(ps:List (List Int))(p:List Int×(List Int×Int)):Bool:=!(atP ps p.1).any (bey p.2.1 p.2.2)
def apB(d:Nat)(ps gs:List (List Int)):D->Bool
 | .tup ds=>ds.length==gs.length&&(ds.all (dh d)&&(czB d (ds.map cH)&&(decide (dR (ds.map cH)<0)&&(gs.zip (ds.map cH)).all (mU ps))))
 |_=>false
structure Dj(d:Nat)(ps gs:List (List Int)):Prop where
 d1:1<=d
 d9:d<=9
 ne:ps≠[]
 rows:∀p∈ps,SpR d p
 gne:gs≠[]
 gl:gs.length<=60
 grp:∀g∈gs,g.length<=60/\∀k∈g,0<=k/\k<ps.length
theorem tV{d:Nat}{ds:List D}(h:ds.all (dh d)=true)(hv:∀t∈ds,ThV t):ds=(ds.map cH).map aN/\∀w∈ds.map cH,CG d w:=by
 have key:∀t∈ds,aN (cH t)=t/\CG d (cH t):=λt ht=>by
  obtain⟨ns,m,rfl,hl⟩:=JB (List.all_eq_true.mp h t ht)
  obtain⟨q1,q2⟩:=(hv _ ht).1.2 _ _ rfl
  have e:cH (.tup [aC ns,.int m])=(ns,m):=by
   show((ns.map D.int).map intOf,m)=_
   rw[ints_map]
  rw[e]
  exact⟨rfl,hl,λn hn=>q1 n (Zq.mpr ⟨n,hn,rfl⟩),q2⟩
 refine⟨?_,λw hw=>?_⟩
 .rw[List.map_map]
  conv=>lhs;rw[<-List.map_id ds]
  exact List.map_congr_left λt ht=>((key t ht).1).symm
 .obtain⟨t,ht,rfl⟩:=Zq.mp hw
  exact(key t ht).2
theorem Ir{d:Nat}{rs:List (List Int)}(h:∀r∈rs,SpR d r){i:Nat}(hi:i<d+1):∀c∈col rs i,Sm 9000 c:=λc hc=>by
 unfold col at hc
 obtain⟨r,hr,rfl⟩:=Zq.mp hc
 apply (h r hr).sm
 have:=(h r hr).len
 rw[List.getD_eq_getElem?_getD,List.getElem?_eq_getElem (by omega)]
 exact List.getElem_mem _
def xN(φ:FF):Prop:=∀(d:Nat)(rs:List (List Int))(ws:List Int)(μ:Mu),d<=9->rs≠[]->rs.length<=60->(∀r∈rs,SpR d r)->(∀w∈ws,Sm 9000 w)->φ [.lst (rs.map aC),.lst (ws.map .int)] μ=some (.lst (((List.range (d+1)).map λi=>dot ws (col rs i)).map .int),μ)
theorem xU{φ:FF}(hφ:Dk φ){d:Nat}{rs:List (List Int)}{ws:List Int}{μ:Mu}(hr:∀r∈rs,SpR d r)(hz1:rs.length<=1000)(hw:∀w∈ws,Sm 9000 w)(i:Nat)(hi:i<d+1):
  MC (aa (ao 1) (aa (mFz (lLC ["row"] [0] (cV (ao 2)) (hName 0) (aR) (M2 (ao 0) (ao 1) oIx))) (au))) φ [some (.int (0+(i:Int))),some (.lst (ws.map .int)),some (.lst (rs.map aC))] μ=some (.int (dot ws (col rs i)),μ):=by
 have e1:=bK (all:=rs.map aC) (h:=hName 0) (fe:=M2 (ao 0) (ao 1) oIx) (δb:=[none,some (.int (0+(i:Int)))]) (F:=aC) (f:=λr=>.int (r.getD i 0)) (μ:=μ) rs λr h=>⟨_,rfl,by
  have hk:((0:Int)+i)<r.length:=by have:=(hr r h).len;omega
  obtain⟨a1,_⟩:=iu (ys:=r) (k:=0+(i:Int)) (by omega) hk
  have:(0+(i:Int)).toNat=i:=by omega
  rw[this]at a1
  generalize r.getD i 0=z at *
  generalize (0+(i:Int))=j at *
  simp[a1]⟩
 have e1':rs.map (λr=>D.int (r.getD i 0))=(col rs i).map D.int:=by unfold col;simp
 rw[e1']at e1
 have e2:=hφ ws (col rs i) μ hw (Ir hr hi)
 generalize (col rs i).map D.int=cD at *
 generalize dot ws (col rs i)=z at *
 generalize (0+(i:Int))=j at *
 simp[hz1,bU,e1,e2]
theorem BX{φ:FF}(hφ:Dk φ):xN (trunc (aJ 2 (je φ))):=λd rs ws μ hd hne hl hr hw=>by
 apply bW
 have hz1:rs.length<=1000:=by omega
 have e3:=bK (all:=cQ 0 (d+1)) (h:=hName 0) (fe:=MC (aa (ao 1) (aa (mFz (lLC ["row"] [0] (cV (ao 2)) (hName 0) (aR) (M2 (ao 0) (ao 1) oIx))) (au))) φ) (δb:=bU ["at"] [some (.lst (rs.map aC)),some (.lst (ws.map .int))] [1,0]) (F:=λi:Nat=>D.int (0+(i:Int))) (f:=λi=>.int (dot ws (col rs i))) (μ:=μ) (List.range (d+1)) λi hi=>
  ⟨[some (.int (0+(i:Int))),some (.lst (ws.map .int)),some (.lst (rs.map aC))],by simp[bU],xU hφ hr hz1 hw i (List.mem_range.mp hi)⟩
 have e3':(List.range (d+1)).map (λi=>D.int (dot ws (col rs i)))=((List.range (d+1)).map λi=>dot ws (col rs i)).map D.int:=by simp
 rw[e3']at e3
 have er:(List.range (d+1)).map (λi:Nat=>D.int (0+(i:Int)))=cQ 0 (d+1):=rfl
 rw[er]at e3
 have h0:∃r0,atI (rs.map aC) 0=some (aC r0)/\r0∈rs:=by
  obtain⟨a,b⟩:=jz (F:=aC) (l:=rs) (k:=0) (z:=[]) (by decide) (by have:=List.length_pos_iff.mpr hne;omega)
  exact⟨_,a,b⟩
 obtain⟨r0,a0,hr0⟩:=h0
 have hlen0:=(hr r0 hr0).len
 generalize ((List.range (d+1)).map λi=>dot ws (col rs i)).map D.int=wD at *
 have it:bV (aa (MC (aa (M2 (ao 0) (mC (.int 0)) oIx) (au)) (bh dO)) (au)) [some (.lst (rs.map aC)),some (.lst (ws.map .int))] μ=some (⟨cQ 0 (d+1),none⟩,μ):=by
  have:=Ph (k:=((d+1:Nat):Int)) (by omega) (by omega) (NB (F:=M2 (ao 0) (mC (.int 0)) oIx) (δ:=[some (.lst (rs.map aC)),some (.lst (ws.map .int))]) (μ:=μ) hlen0 (by simp[a0]))
  rwa[show(((d+1:Nat):Int)).toNat=d+1 by omega]at this
 have hz2:(cQ 0 (d+1)).length<=sizeLine:=by rw[iw];exact Zl (by omega:_<=1000) (by decide)
 unfold je
 generalize bV (aa (MC (aa (M2 (ao 0) (mC (.int 0)) oIx) (au)) (bh dO)) (au))=IT at it ⊢
 simp[it,hz2,e3]
def oM(w:List Int×Int):List Int:=w.1++[w.2]
theorem xq:∀(xs:List Int),dot (List.replicate xs.length 1) xs=xs.sum
 | []=>rfl
 |x::xs=>by
  rw[List.length_cons,List.replicate_succ,jl,xq xs,List.sum_cons,Int.one_mul]
theorem Ox{d:Nat}{ws:List (List Int×Int)}(h:∀w∈ws,CG d w):(List.range (d+1)).map (λi=>dot (List.replicate ws.length 1) (col (ws.map oM) i))=(List.range d).map (lX ws)++[dR ws]:=by
 have e:∀i,dot (List.replicate ws.length 1) (col (ws.map oM) i)=(col (ws.map oM) i).sum:=λi=>by
  have:=xq (col (ws.map oM) i)
  rwa[show(col (ws.map oM) i).length=ws.length by unfold col;simp]at this
 rw[List.range_succ,List.map_append]
 congr 1
 .refine List.map_congr_left λi hi=>?_
  rw[e]
  unfold lX col
  rw[List.map_map]
  congr 1
  refine List.map_congr_left λw hw=>?_
  have:=(h w hw).1
  have hi:=List.mem_range.mp hi
  show(w.1++[w.2]).getD i 0=_
  rw[List.getD_eq_getElem?_getD,List.getD_eq_getElem?_getD,Zs (by omega)]
 .show [dot (List.replicate ws.length 1) (col (ws.map oM) d)]=_
  rw[e]
  unfold dR col
  rw[List.map_map]
  congr 2
  refine List.map_congr_left λw hw=>?_
  have:=(h w hw).1
  show(w.1++[w.2]).getD d 0=_
  rw[List.getD_eq_getElem?_getD,List.getElem?_append_right (by omega),this]
  simp
theorem Ju{d:Nat}{w:List Int×Int}(h:CG d w):SpR d (oM w):=⟨by unfold oM;simp[h.1],λx hx=>by
 rcases Zm.mp hx with z|z
 .exact aZ (h.2.1 x z) (by decide)
 .rw[List.mem_singleton.mp z];exact aZ h.2.2 (by decide)⟩
theorem Cg{ds:List D}{μ:Mu}(h:ds≠[]):oSl (.lst ds) none (some (-1)) μ=some (.lst ds.dropLast,μ):=by
 have h:=Bb (μ:=μ) h
 have e:L3.cutD ds none (some (-1))=ds.dropLast:=by injection h with h;injection h with h _;injection h
 show some (D.lst (L3.cutD ds none (some (-1))),μ)=_
 rw[e]
def Dv(φ:FF):Prop:=∀(d:Nat)(ws:List (List Int×Int))(μ:Mu),d<=9->ws≠[]->ws.length<=60->(∀w∈ws,CG d w)->φ [.tup (ws.map aN)] μ=some (.bl (czB d ws&&decide (dR ws<0)),μ)
theorem part_of{φ:FF}(hφ:xN φ):Dv (trunc (aJ 2 (ik φ))):=λd ws μ hd hne hl hw=>by
 apply bW
 have e1:=bK (all:=ws.map aN) (h:=gn 2 (aY (hName 0) (aY (hName 1) (gq)))) (fe:=MC (ym (ao 0) (aa (ao 1) (au))) oTup) (δb:=[none,none]) (F:=aN) (f:=λw=>aC (oM w)) (μ:=μ) ws λw hwm=>by
  refine⟨[some (aC w.1),some (.int w.2)],by simp[aN],?_⟩
  have hz:w.1.length+1<=sizeLine:=szl (by have:=(hw w hwm).1;omega)
  unfold oM aC
  simp[ym,bM,hz]
 have e1':ws.map (λw=>aC (oM w))=(ws.map oM).map aC:=by simp
 rw[e1']at e1
 obtain⟨wl,hwl⟩:∃z:Int,z=ws.length:=⟨_,rfl⟩
 have e2:=mulL (ds:=[.int 1]) (k:=wl) (μ:=μ) (by omega) (by omega) (by
  show 1*wl.toNat<=1000
  omega)
 have e2':(List.replicate wl.toNat [D.int 1]).flatten=(List.replicate ws.length (1:Int)).map D.int:=by
  rw[show wl.toNat=ws.length by omega]
  simp
 rw[e2']at e2
 have e3:=hφ d (ws.map oM) (List.replicate ws.length 1) μ hd (by simpa using hne) (by simpa using hl) (λr hr=>by
  obtain⟨w,hwm,rfl⟩:=Zq.mp hr
  exact Ju (hw w hwm)) (λx hx=>by rw[List.eq_of_mem_replicate hx];unfold Sm;decide)
 rw[Ox hw]at e3
 have e4:oSl (.lst (((List.range d).map (lX ws)++[dR ws]).map D.int)) none (some (-1)) μ=some (.lst (((List.range d).map (lX ws)).map D.int),μ):=by
  have:=Cg (ds:=((List.range d).map (lX ws)++[dR ws]).map D.int) (μ:=μ) (by simp)
  rw[this,<-List.map_dropLast,List.dropLast_concat]
 have e5:=any_ints μ ((List.range d).map (lX ws))
 have e5':((List.range d).map (lX ws)).any (λn=>n != 0)= !czB d ws:=by
  unfold czB
  rw[List.any_map,List.not_all_eq_any_not]
  rfl
 rw[e5']at e5
 have e6:atI (((List.range d).map (lX ws)++[dR ws]).map D.int) (-1)=some (.int (dR ws)):=by
  have:=uM (ns:=(List.range d).map (lX ws)++[dR ws]) (by simp)
  rw[this]
  simp
 have zz:(ws.map aN).length<=1000:=by simp;omega
 have elen:(((ws.map aN).length:Nat):Int)=wl:=by rw[Zu,hwl]
 generalize ((List.range d).map (lX ws)++[dR ws]).map D.int=TG at *
 generalize ((List.range d).map (lX ws)).map D.int=TI at *
 generalize (List.replicate ws.length (1:Int)).map D.int=ON at *
 generalize (ws.map oM).map aC=RW at *
 generalize ws.map aN=WD at *
 generalize dR ws=la at *
 generalize czB d ws=cz at *
 unfold ik
 cases cz<;>simp[zz,bU,e1,e2,elen,e3,e4,e5,e6]
theorem MP{own:List Str}{capI:List Nat}{fi1:IF}{h1:GF}{tt1:TF}{fi2:IF}{h2:GF}{tt2:TF}{fe:EF}{δ:En}{μ:Mu}:vX own capI fi1 h1 tt1 fi2 h2 tt2 fe δ μ=(fi1 δ μ).bind λr=>match r.1.cel with
 |none=>(iG r.2 h1 tt1 fi2 h2 tt2 fe (bU own δ capI) r.1.items).bind λts=>some (ts,r.2)
 |some _=>none:=rfl
def qD(φ:FF):Prop:=∀(d:Nat)(ps gs:List (List Int))(t:D)(μ:Mu),Dj d ps gs->oA t->φ [.lst (ps.map aC),.lst (gs.map cW),t] μ=some (.bl (apB d ps gs t),μ)
def HD(φ:FF):Prop:=∀(d:Nat)(t:D)(μ:Mu),nc t->φ [.int d,t] μ=some (.bl (dh d t),μ)
def Kh(φ:FF):Prop:=∀(d:Nat)(t:D)(μ:Mu),nc t->(∀a b,t= .tup [.tup a,b]->a.length<=1000)->φ [.int d,t] μ=some (.bl (dh d t),μ)
theorem BZ(ps:List (List Int))(l:List (List Int×(List Int×Int))):(!l.any λp=>p.1.any λk=>bey p.2.1 p.2.2 (ps.getD k.toNat []))=l.all (mU ps):=by
 rw[List.not_any_eq_all_not]
 congr 1
 funext p
 unfold mU atP
 rw[List.any_map]
 rfl
theorem sI{d:Nat}{ps gs:List (List Int)}(G:Dj d ps gs):∃p0,atI (ps.map aC) 0=some (aC p0)/\∀μ,dO (aC p0) μ=some (.int ((d:Int)+1),μ):=by
 obtain⟨a,b⟩:=jz (F:=aC) (l:=ps) (k:=0) (z:=[]) (by decide) (by have:=List.length_pos_iff.mpr G.ne;omega)
 refine⟨_,a,λμ=>?_⟩
 have h:=(G.rows _ b).len
 generalize ps.getD (0:Int).toNat []=r at *
 show some (D.int ((r.map D.int).length:Int),μ)=_
 rw[show((r.map D.int).length:Int)=(d:Int)+1 by rw[Zu,h];omega]
theorem Fb{φ1 φ2 φ3 φ4:FF}(h1:Fz φ1)(h2:HD φ2)(h3:Dv φ3)(h4:yg φ4):qD (trunc (aJ 4 (fD φ1 φ2 φ3 φ4))):=λd ps gs t μ G ht=>by
 apply bW
 obtain⟨gl,hgl⟩:∃z:Int,z=gs.length:=⟨_,rfl⟩
 have e1:=h1 gl t μ ht.1
 obtain⟨p0,a0,el0⟩:=sI G
 have eg:(((gs.map cW).length:Nat):Int)=gl:=by rw[Zu,hgl]
 have hpl:(((ps.map aC).length:Nat))=ps.length:=Zu _
 obtain⟨dd,hdd⟩:∃z:Int,z=d:=⟨_,rfl⟩
 rw[<-hdd]at el0
 have ez:=λws:List (List Int×Int)=>iy (F:=cW) (G:=aN) gs ws
 have e5:=λ(ws:List (List Int×Int))(hw:∀w∈ws,CG d w)=>tU (G:=λp:List Int×(List Int×Int)=>D.tup [cW p.1,aN p.2]) (F:=D.int) (xs:=λp=>p.1) (P:=λp k=>bey p.2.1 p.2.2 (ps.getD k.toNat [])) (μ:=μ) (h1:=gn 2 (aY (hName 0) (aY (hName 1) (gq)))) (h2:=hName 2) (fi2:=cV (ao 0)) (fe:=MC (aa (ao 1) (aa (M2 (ao 3) (ao 2) oIx) (au))) φ4) (δb:=[none,none,none,some (.lst (ps.map aC))]) (gs.zip ws) λp hp=>by
  obtain⟨g,w⟩:=p
  have hm:=List.of_mem_zip hp
  have src:srcOf (cW g) μ=some ⟨g.map .int,none⟩:=rfl
  refine⟨[some (cW g),some (aN w),none,some (.lst (ps.map aC))],by simp,by simp[src],λk hk=>⟨[some (cW g),some (aN w),some (.int k),some (.lst (ps.map aC))],by simp,?_⟩⟩
  obtain⟨k0,k1⟩:=(G.grp g hm.1).2 k hk
  obtain⟨ak,mk⟩:=jz (F:=aC) (l:=ps) (k:=k) (z:=[]) k0 k1
  have hw':=hw w hm.2
  have e4:=h4 d w.1 w.2 (ps.getD k.toNat []) μ hw'.1 hw'.2.1 hw'.2.2 (G.rows _ mk)
  have e4:φ4 [aN w,aC (ps.getD k.toNat [])] μ=_:=e4
  generalize aC (ps.getD k.toNat [])=R at *
  generalize bey w.1 w.2 (ps.getD k.toNat [])=B at *
  generalize aN w=WD at *
  generalize cW g=GD at *
  generalize ps.map aC=PD at *
  simp[ak,e4]
 unfold fD
 cases t with
 |tup ds=>
  have eV:apB d ps gs (.tup ds)=(ds.length==gs.length&&(ds.all (dh d)&&(czB d (ds.map cH)&&(decide (dR (ds.map cH)<0)&&(gs.zip (ds.map cH)).all (mU ps))))):=rfl
  obtain⟨hl60,hv⟩:=ht.2 ds rfl
  by_cases hl:ds.length=gs.length
  .have e1':φ1 [.int gl,.tup ds] μ=some (.bl true,μ):=by
    rw[e1]
    simp[yO,hl,hgl]
   have e2:=oN (th:=thG (hName 0) (MC (aa (ao 1) (aa (ao 0) (au))) φ2) [none,some (.int dd)]) (p:=dh d) (μ:=μ) ds λt htm=>by
    have:=h2 d t μ (hv t htm).1.1
    rw[<-hdd]at this
    simp[thG,this]
   cases hs:ds.all (dh d)with
   |false=>
    rw[eV,hs]
    rw[hs]at e2
    generalize hTH:ds.map (thG (hName 0) (MC (aa (ao 1) (aa (ao 0) (au))) φ2) [none,some (.int dd)])=TH at *
    generalize gs.map cW=GD at *
    generalize ps.map aC=PD at *
    simp[a0,el0,eg,e1',bU,hTH,e2]
   |true=>
    rw[hs]at e2
    obtain⟨hds,hw⟩:=tV hs hv
    have eV:apB d ps gs (.tup ds)=(czB d (ds.map cH)&&(decide (dR (ds.map cH)<0)&&(gs.zip (ds.map cH)).all (mU ps))):=by
     rw[eV,hs,beq_iff_eq.mpr hl]
     rfl
    rw[eV]
    have hwl:(ds.map cH).length=ds.length:=Zu _
    generalize ds.map cH=ws at *
    have hwne:ws≠[]:=λz=>G.gne (List.eq_nil_of_length_eq_zero (by rw[z]at hwl;simp at hwl;omega))
    have e3:=h3 d ws μ G.d9 hwne (by omega) hw
    rw[<-hds]at e3
    obtain⟨ts,q1,q2⟩:=e5 ws hw
    have ez:=ez ws
    rw[<-hds]at ez
    rw[<-ez]at q1
    have q3:=BZ ps (gs.zip ws)
    generalize ((gs.zip ws).any λp=>p.1.any λk=>bey p.2.1 p.2.2 (ps.getD k.toNat []))=A at *
    rw[<-q3]
    clear q3
    have f1:cO (.lst (gs.map cW))=some (gs.map cW):=rfl
    have f2:cO (.tup ds)=some ds:=rfl
    generalize hTH:ds.map (thG (hName 0) (MC (aa (ao 1) (aa (ao 0) (au))) φ2) [none,some (.int dd)])=TH at *
    generalize gs.map cW=GD at *
    generalize ps.map aC=PD at *
    generalize dR ws=la at *
    generalize czB d ws=cz at *
    by_cases hla:la<0
    .cases cz<;>simp[a0,el0,eg,e1',bU,hTH,e2,e3,hla,MP,f1,f2,q1,q2]
    .cases cz<;>simp[a0,el0,eg,e1',bU,hTH,e2,e3,hla]
  .have e1':φ1 [.int gl,.tup ds] μ=some (.bl false,μ):=by
    rw[e1]
    have:¬(ds.length:Int)=gl:=by omega
    simp[yO,this]
   rw[eV,beq_eq_false_iff_ne.mpr hl]
   generalize gs.map cW=GD at *
   generalize ps.map aC=PD at *
   simp[a0,el0,eg,e1']
 |_=>
  have e1':φ1 [.int gl,_] μ=some (.bl false,μ):=e1
  have eV:∀t,(∀ds,t≠ .tup ds)->apB d ps gs t=false:=λt h=>by
   unfold apB
   split
   .exact absurd rfl (h _)
   .rfl
  rw[eV _ (λds z=>by cases z)]
  generalize gs.map cW=GD at *
  generalize ps.map aC=PD at *
  simp[a0,el0,eg,e1']
theorem Dt{φ1 φ2:FF}(h1:Kh φ1)(h2:qQ φ2):qD (trunc (aJ 5 (jn φ1 φ2))):=λd ps gs t μ G ht=>by
 apply bW
 obtain⟨gl,hgl⟩:∃z:Int,z=gs.length:=⟨_,rfl⟩
 obtain⟨p0,a0,el0⟩:=sI G
 have eg:(((gs.map cW).length:Nat):Int)=gl:=by rw[Zu,hgl]
 obtain⟨dd,hdd⟩:∃z:Int,z=d:=⟨_,rfl⟩
 rw[<-hdd]at el0
 have d1:=G.d1
 have d9:=G.d9
 have rd:=rO (j:=dd) (μ:=μ) (by omega) (by omega)
 unfold jn
 cases t with
 |tup ds=>
  have eV:apB d ps gs (.tup ds)=(ds.length==gs.length&&(ds.all (dh d)&&(czB d (ds.map cH)&&(decide (dR (ds.map cH)<0)&&(gs.zip (ds.map cH)).all (mU ps))))):=rfl
  obtain⟨hl60,hv⟩:=ht.2 ds rfl
  by_cases hl:ds.length=gs.length
  .have hlen:((ds.length:Nat):Int)=gl:=by omega
   have ec:=qG (all:=ds) (h:=hName 0) (fe:=MC (aa (ao 1) (aa (ao 0) (au))) φ1) (δb:=[none,some (.int dd)]) (f:=λt=>D.bl (dh d t)) (μ:=μ) ds λt htm=>by
    have:=h1 d t μ (hv t htm).1.1 (λa b e=>(hv t htm).2 a b e)
    rw[<-hdd]at this
    exact⟨[some t,some (.int dd)],by simp,by simp[this]⟩
   have ea:=Fv (μ:=μ) ds (dh d)
   have zz:ds.length<=1000:=by omega
   cases hs:ds.all (dh d)with
   |false=>
    rw[eV,hs]
    rw[hs]at ea
    generalize (ds.map λt=>D.bl (dh d t))=BM at *
    generalize gs.map cW=GD at *
    generalize ps.map aC=PD at *
    simp[a0,el0,eg,hlen,zz,bU,ec,ea]
   |true=>
    rw[hs]at ea
    obtain⟨hds,hw⟩:=tV hs hv
    have eV:apB d ps gs (.tup ds)=(czB d (ds.map cH)&&(decide (dR (ds.map cH)<0)&&(gs.zip (ds.map cH)).all (mU ps))):=by
     rw[eV,hs,beq_iff_eq.mpr hl]
     rfl
    rw[eV]
    have hwl:(ds.map cH).length=ds.length:=Zu _
    generalize ds.map cH=ws at *
    have e2:=bK (all:=ds) (h:=hName 0) (fe:=M2 (ao 0) (mC (.int 1)) oIx) (δb:=[none]) (F:=aN) (f:=λw=>.int w.2) (μ:=μ) ws λw hwm=>by
     have a1:atI [aC w.1,D.int w.2] 1=some (.int w.2):=rfl
     exact⟨[some (aN w)],by simp,by simp[aN,a1]⟩
    rw[<-hds]at e2
    have e2':ws.map (λw=>D.int w.2)=(ws.map λw=>w.2).map D.int:=by simp
    rw[e2']at e2
    have e3:=sum_ints μ (ws.map λw=>w.2) 0
    rw[Int.zero_add]at e3
    have e3:_=some (dR ws,μ):=e3
    have e4:=λ(k:Nat)(hk:k<d)=>bK (all:=ds) (h:=hName 0) (fe:=M2 (M2 (ao 0) (mC (.int 0)) oIx) (ao 1) oIx) (δb:=[none,some (.int (0+(k:Int)))]) (F:=aN) (f:=λw=>.int (w.1.getD k 0)) (μ:=μ) ws λw hwm=>by
     have a1:atI [aC w.1,D.int w.2] 0=some (aC w.1):=rfl
     obtain⟨a2,_⟩:=iu (ys:=w.1) (k:=0+(k:Int)) (by omega) (by have:=(hw w hwm).1;omega)
     rw[show(0+(k:Int)).toNat=k by omega]at a2
     generalize w.1.getD k 0=z at *
     generalize (0+(k:Int))=j at *
     have a2:atI (w.1.map D.int) j=some (.int z):=a2
     exact⟨[some (aN w),some (.int j)],by simp,by
      unfold aN
      simp[a1]
      exact a2⟩
    have e4':∀k:Nat,ws.map (λw=>D.int (w.1.getD k 0))=(ws.map λw=>w.1.getD k 0).map D.int:=λk=>by simp
    have e5:=λk:Nat=>sum_ints μ (ws.map λw=>w.1.getD k 0) 0
    simp only[Int.zero_add]at e5
    have e5:∀k:Nat,pN 0 (((ws.map λw=>w.1.getD k 0).map D.int).map thE) μ=some (lX ws k,μ):=e5
    have e6:=bK (all:=jf (gs.map cW) ds) (h:=gn 2 (aY (hName 0) (aY (hName 1) (gq)))) (fe:=MC (aa (ao 1) (aa (mFz (lLC ["_law_k"] [2] (cV (ao 0)) (hName 0) (aR) (M2 (ao 1) (ao 0) oIx))) (au))) φ2) (δb:=[none,none,some (.lst (ps.map aC))]) (F:=λp:List Int×(List Int×Int)=>D.tup [cW p.1,aN p.2]) (f:=λp=>D.bl (mU ps p)) (μ:=μ) (gs.zip ws) λp hp=>by
     obtain⟨g,w⟩:=p
     have hm:=List.of_mem_zip hp
     obtain⟨hgl2,hg⟩:=G.grp g hm.1
     have hw':=hw w hm.2
     refine⟨[some (cW g),some (aN w),some (.lst (ps.map aC))],by simp,?_⟩
     have src:srcOf (cW g) μ=some ⟨g.map .int,none⟩:=rfl
     have q1:=bK (all:=g.map D.int) (h:=hName 0) (fe:=M2 (ao 1) (ao 0) oIx) (δb:=[none,some (.lst (ps.map aC))]) (F:=D.int) (f:=λk=>aC (ps.getD k.toNat [])) (μ:=μ) g λk hk=>by
      obtain⟨k0,k1⟩:=hg k hk
      obtain⟨ak,mk⟩:=jz (F:=aC) (l:=ps) (k:=k) (z:=[]) k0 k1
      generalize aC (ps.getD k.toNat [])=R at *
      generalize ps.map aC=PD at *
      exact⟨[some (.int k),some (.lst PD)],by simp,by simp[ak]⟩
     have q1':g.map (λk=>aC (ps.getD k.toNat []))=(atP ps g).map aC:=by unfold atP;simp
     rw[q1']at q1
     have q2:=h2 d w.1 w.2 (atP ps g) μ d9 hw'.1 hw'.2.1 hw'.2.2 (λp hp=>by
      obtain⟨k,hk,rfl⟩:=Zq.mp hp
      obtain⟨k0,k1⟩:=hg k hk
      exact G.rows _ (jz (F:=aC) (l:=ps) (k:=k) (z:=[]) k0 k1).2) (by unfold atP;simp;omega)
     have q2:φ2 [aN w,.lst ((atP ps g).map aC)] μ=some (.bl (mU ps (g,w)),μ):=q2
     have z2:(g.map D.int).length<=1000:=by simp;omega
     generalize mU ps (g,w)=B at *
     generalize (atP ps g).map aC=AD at *
     generalize aN w=WD at *
     generalize g.map D.int=GI at *
     generalize cW g=GD at *
     generalize ps.map aC=PD at *
     simp[src,z2,bU,q1,q2]
    rw[<-iy,<-hds]at e6
    have e7:=uL (th:=thE) (F:=λp=>D.bl (mU ps p)) (p:=mU ps) (μ:=μ) (gs.zip ws) λp hp=>rfl
    have f1:cO (.lst (gs.map cW))=some (gs.map cW):=rfl
    have f2:cO (.tup ds)=some ds:=rfl
    have z3:(jf (gs.map cW) ds).length<=1000:=by
     rw[hds,iy]
     simp
     omega
    have hcz:(List.range d).all (λk=>lX ws k==0)=czB d ws:=rfl
    have hrd:cQ 0 dd.toNat=(List.range d).map λk:Nat=>D.int (0+(k:Int)):=by
     rw[show dd.toNat=d by omega]
     rfl
    rw[hrd]at rd
    generalize (gs.zip ws).map (λp=>D.bl (mU ps p))=BM2 at *
    generalize (gs.zip ws).all (mU ps)=A at *
    generalize (ds.map λt=>D.bl (dh d t))=BM at *
    generalize gs.map cW=GD at *
    generalize ps.map aC=PD at *
    generalize dR ws=la at *
    generalize (ws.map λw=>w.2).map D.int=LD at *
    by_cases hla:la<0
    .have hla':¬0<=la:=by omega
     generalize czB d ws=cz at *
     simp[a0,el0,eg,hlen,zz,bU,ec,ea,e2,e3,hla',rd]
     refine mQ (λits δ μ'=>∃(ks:List Nat)(o:Option D),its=ks.map (λk:Nat=>D.int (0+(k:Int)))/\(∀k∈ks,k<d)/\ks.all (λk=>lX ws k==0)=cz/\μ'=μ/\δ=[some (.lst PD),some (.lst GD),some (.tup ds),some (.int dd),o]) ?_ ?_ _ _ _ ⟨List.range d,none,by simp,λk hk=>List.mem_range.mp hk,hcz,rfl,rfl⟩
     .rintro x rest δ μ' ⟨ks,o,hi,hk,hc,rfl,rfl⟩
      cases ks with
      |nil=>cases hi
      |cons k ks=>
       rw[Zj]at hi
       injection hi with hi1 hi2
       subst hi1 hi2
       have q4:=e4 k (hk k (by simp))
       rw[<-hds,e4']at q4
       have q5:=e5 k
       generalize (ws.map λw=>w.1.getD k 0).map D.int=CD at *
       rw[List.all_cons]at hc
       generalize lX ws k=ck at *
       generalize hj:(0+(k:Int))=j at *
       by_cases h0:ck=0
       .rw[h0]at hc q5
        simp[zz,bU,q4,q5]
        exact⟨ks,rfl,λx hx=>hk x (by simp[hx]),by simpa using hc⟩
       .have hcf:cz=false:=by
         rw[<-hc,beq_eq_false_iff_ne.mpr h0]
         rfl
        have h0':(ck==0)=false:=beq_eq_false_iff_ne.mpr h0
        simp[zz,bU,q4,q5,h0',hcf]
     .rintro δ μ' ⟨ks,o,hi,hk,hc,rfl,rfl⟩
      cases ks with
      |cons k ks=>cases hi
      |nil=>
       have hct:cz=true:=hc.symm
       simp[f1,f2,z3,bU,e6,e7,hct,hla]
    .have hla':0<=la:=by omega
     simp[a0,el0,eg,hlen,zz,bU,ec,ea,e2,e3,hla',hla]
  .have hlen:((ds.length:Nat):Int)≠gl:=by omega
   rw[eV,beq_eq_false_iff_ne.mpr hl]
   have hl3:(((ds.length:Nat):Int)==gl)=false:=beq_eq_false_iff_ne.mpr hlen
   generalize gs.map cW=GD at *
   generalize ps.map aC=PD at *
   simp[a0,el0,eg,hl3,hlen]
 |cell n=>exact absurd ht.1 (by simp[nc,cLt])
 |ro ds=>
  have eV:apB d ps gs (.ro ds)=false:=rfl
  rw[eV]
  generalize gs.map cW=GD at *
  generalize ps.map aC=PD at *
  simp[a0,el0,eg,iW,zg]
 |_=>
  have eV:∀t,(∀ds,t≠ .tup ds)->apB d ps gs t=false:=λt h=>by
   unfold apB
   split
   .exact absurd rfl (h _)
   .rfl
  rw[eV _ (λds z=>by cases z)]
  generalize gs.map cW=GD at *
  generalize ps.map aC=PD at *
  simp[a0,el0,eg]
def di(ns:List Int)(ps:List (List Int)):Int:=jr (ps.map λp=>-((-(dot ns p.dropLast)).fdiv (aX p)))
def sqV(ns:List Int):Int:=(ns.map λn=>n*n).sum
structure PtB(d b:Nat)(p:List Int):Prop where
 len:p.length=d+1
 sm:∀n∈p,Sm b n
 b1:1<=aX p
 b2:aX p<64
theorem PtB.sp{d b:Nat}{p:List Int}(h:PtB d b p)(hb:b<=9000):SpR d p:=⟨h.len,λx hx=>aZ (h.sm x hx) hb⟩
def mvQ(d:Nat)(far:Int)(row p:List Int):List Int:=(List.range d).map λk=>p.getD k 0-far*row.getD k 0*aX p
def mvG(d:Nat)(far:Int)(row p:List Int):Nat:=dg (aX p).natAbs (mvQ d far row p)
def mv(d:Nat)(far:Int)(row p:List Int):List Int:=(mvQ d far row p++[aX p]).map λn=>n.fdiv (mvG d far row p:Nat)
theorem Oj{d:Nat}{far:Int}{row p:List Int}:(mv d far row p).length=d+1:=by unfold mv mvQ;simp
theorem Am{d:Nat}{far:Int}{row p:List Int}:aX (mv d far row p)=(aX p).fdiv (mvG d far row p:Nat):=by
 unfold mv aX
 rw[List.map_append]
 simp
theorem Hx{d:Nat}{far:Int}{row p:List Int}:(mv d far row p).dropLast=(mvQ d far row p).map λn=>n.fdiv (mvG d far row p:Nat):=by
 unfold mv
 rw[List.map_append]
 show(_++[_]).dropLast=_
 rw[List.dropLast_concat]
theorem vd{n:Int}{g:Nat}(h:g ∣ n.natAbs):(g:Int)*n.fdiv (g:Nat)=n:=by
 rw[Int.fdiv_eq_ediv_of_nonneg n (by omega)]
 exact Int.mul_ediv_cancel' (Int.ofNat_dvd_left.mpr h)
theorem uW(g:Int):∀(ns xs:List Int),g*dot ns xs=dot ns (xs.map (g * ·))
 | [],xs=>by unfold dot;simp
 |n::ns,[]=>by unfold dot;simp
 |n::ns,x::xs=>by
  rw[Zj,jl,jl,<-uW g ns xs,Int.mul_add]
  congr 1
  rw[<-Int.mul_assoc,<-Int.mul_assoc,Int.mul_comm g n]
theorem mL:∀(ns p:List Int),ns.length<=p.length->dot ns p=((List.range ns.length).map λk=>ns.getD k 0*p.getD k 0).sum
 | [],p,_=>by unfold dot;simp
 |n::ns,[],h=>by simp at h
 |n::ns,x::p,h=>by
  rw[jl,mL ns p (by simpa using h),List.length_cons,List.range_succ_eq_map,Zj,List.sum_cons,List.map_map]
  rfl
theorem Ai(f g:Nat->Int)(a:Int):∀(l:List Nat),(l.map λk=>f k-a*g k).sum=(l.map f).sum-a*(l.map g).sum
 | []=>by simp
 |k::l=>by
  rw[Zj,Zj,Zj,List.sum_cons,List.sum_cons,List.sum_cons,Ai f g a l,Int.mul_add]
  omega
theorem Dl:∀(ns:List Int),sqV ns=dot ns ns
 | []=>rfl
 |n::ns=>by
  rw[jl,<-Dl ns]
  unfold sqV
  rw[Zj,List.sum_cons]
theorem Fq(ns:List Int):sqV ns=((List.range ns.length).map λk=>ns.getD k 0*ns.getD k 0).sum:=by
 rw[Dl]
 exact mL ns ns (Zg _)
theorem JH{d:Nat}{far:Int}{row p:List Int}{k:Nat}(hk:k<d):(mvQ d far row p).getD k 0=p.getD k 0-far*row.getD k 0*aX p:=by
 unfold mvQ
 rw[List.getD_eq_getElem?_getD,List.getElem?_map,List.getElem?_range hk]
 rfl
theorem wH{d:Nat}{far:Int}{row p:List Int}(hb:1<=aX p):0<mvG d far row p:=Nat.pos_of_ne_zero (oH (.inl (by omega)))
theorem oV{d:Nat}{far:Int}{row p:List Int}:(mvG d far row p:Int)*aX (mv d far row p)=aX p:=by
 rw[Am]
 exact vd (jM (mvQ d far row p) (aX p).natAbs).2
theorem qj{d:Nat}{far:Int}{row p:List Int}(hb:1<=aX p):1<=aX (mv d far row p):=by
 have e:=oV (d:=d) (far:=far) (row:=row) (p:=p)
 have g0:=wH (d:=d) (far:=far) (row:=row) hb
 apply Classical.byContradiction
 intro h
 have:(mvG d far row p:Int)*aX (mv d far row p)<=0:=Int.mul_nonpos_of_nonneg_of_nonpos (by omega) (by omega)
 omega
theorem Oe{d:Nat}{far:Int}{row p:List Int}(hr:row.length=d)(hp:p.length=d+1):(mvG d far row p:Int)*dot row (mv d far row p).dropLast=dot row p.dropLast-far*sqV row*aX p:=by
 have eq:((mvQ d far row p).map λn=>n.fdiv (mvG d far row p:Nat)).map ((mvG d far row p:Int) * ·)=mvQ d far row p:=by
  rw[List.map_map]
  conv=>rhs;rw[<-List.map_id (mvQ d far row p)]
  refine List.map_congr_left λn hn=>?_
  exact vd (Int.ofNat_dvd_left.mp ((jM (mvQ d far row p) (aX p).natAbs).1 n hn))
 rw[Hx,uW,eq,<-qN row p (by omega),mL row p (by omega),mL row _ (by unfold mvQ;simp[hr]),Fq,hr]
 have e:(List.range d).map (λk=>row.getD k 0*(mvQ d far row p).getD k 0)=(List.range d).map λk=>row.getD k 0*p.getD k 0-far*aX p*(row.getD k 0*row.getD k 0):=List.map_congr_left λk hk=>by
  rw[JH (List.mem_range.mp hk)]
  generalize row.getD k 0=r
  generalize p.getD k 0=y
  generalize aX p=b
  rw[Int.mul_sub]
  congr 1
  rw[Int.mul_assoc far r b,Int.mul_left_comm r far,Int.mul_assoc far b,Int.mul_left_comm b r r,Int.mul_comm b r]
 rw[e,Ai]
 congr 1
 rw[Int.mul_assoc,Int.mul_assoc,Int.mul_comm (aX p)]
theorem Qn{T b T' b' m g:Int}(hg:0<g)(hb:0<b)(hT:g*T'=T-m*b)(hb':g*b'=b): -((-T').fdiv b')= -((-T).fdiv b)-m:=by
 have b0:0<b':=by
  apply Classical.byContradiction
  intro h
  have:g*b'<=0:=Int.mul_nonpos_of_nonneg_of_nonpos (by omega) (by omega)
  omega
 rw[Int.fdiv_eq_ediv_of_nonneg _ (by omega),Int.fdiv_eq_ediv_of_nonneg _ (by omega),<-Int.mul_ediv_mul_of_pos (-T') b' hg,hb']
 have e:g * -T'= -T+m*b:=by rw[Int.mul_neg,hT];omega
 rw[e,Int.add_mul_ediv_right _ _ (by omega)]
 omega
theorem sy(m:Int):∀(l:List Int),l≠[]->jr (l.map λx=>x-m)=jr l-m
 | [],h=>absurd rfl h
 | [a],_=>rfl
 |a::b::l,_=>by
  have ih:=sy m (b::l) (by simp)
  rw[Zj,Zj]
  unfold jr
  rw[<-Zj (f:=λx=>x-m),ih]
  omega
theorem vz:∀(l:List Int)(x:Int),x∈l->x<=jr l
 | [],x,h=>by cases h
 | [a],x,h=>by rw[List.mem_singleton.mp h];exact Int.le_refl _
 |a::b::l,x,h=>by
  unfold jr
  rcases Zi.mp h with z|z
  .omega
  .have:=vz (b::l) x z
   omega
theorem HF{d b:Nat}{far:Int}{row:List Int}{lot:List (List Int)}(hr:row.length=d)(hne:lot≠[])(hl:∀p∈lot,PtB d b p):di row (lot.map (mv d far row))=di row lot-far*sqV row:=by
 unfold di
 rw[List.map_map,<-sy _ _ (by simpa using hne),List.map_map]
 congr 1
 refine List.map_congr_left λp hp=>?_
 have h:=hl p hp
 exact Qn (by have:=wH (d:=d) (far:=far) (row:=row) h.b1;omega) (by have:=h.b1;omega) (Oe hr h.len) oV
theorem Ei{row:List Int}{lot:List (List Int)}(hb:∀p∈lot,1<=aX p):lot.any (bey row (di row lot))=false:=by
 rw[List.any_eq_false]
 intro p hp
 unfold bey
 have h1:=hb p hp
 have h2: -((-(dot row p.dropLast)).fdiv (aX p))<=di row lot:=vz _ _ (Zq.mpr ⟨p,hp,rfl⟩)
 have h3:(-(dot row p.dropLast)).fdiv (aX p)*aX p<= -(dot row p.dropLast):=by
  rw[Int.fdiv_eq_ediv_of_nonneg _ (by omega)]
  exact Int.ediv_mul_le _ (by omega)
 have h4:=Int.mul_le_mul_of_nonneg_right h2 (show 0<=aX p by omega)
 rw[Int.neg_mul]at h4
 simp only[decide_eq_true_eq]
 omega
def fX:Nat->List (List (List Int))->List (List Int)
 |_,[]=>[]
 |a,l::ls=>qt (a:Int) l.length::fX (a+l.length) ls
theorem uX:∀(ls:List (List (List Int)))(a:Nat)(l:List (List Int)),fX a (ls++[l])=fX a ls++[qt ((a+ls.flatten.length:Nat):Int) l.length]
 | [],a,l=>by simp[fX]
 |x::ls,a,l=>by
  rw[List.cons_append]
  unfold fX
  rw[uX ls]
  simp[Nat.add_assoc]
theorem lH:∀(ls:List (List (List Int)))(a:Nat),(fX a ls).length=ls.length
 | [],_=>rfl
 |x::ls,a=>by
  unfold fX
  rw[List.length_cons,List.length_cons,lH ls]
theorem Ii(pre l post:List (List Int)):atP (pre++(l++post)) (qt (pre.length:Int) l.length)=l:=by
 unfold atP qt
 rw[List.map_map]
 apply List.ext_getElem?
 intro i
 rw[List.getElem?_map]
 by_cases hi:i<l.length
 .rw[List.getElem?_range hi]
  show some ((pre++(l++post)).getD ((pre.length:Int)+(i:Int)).toNat [])=_
  rw[show((pre.length:Int)+(i:Int)).toNat=pre.length+i by omega,List.getD_eq_getElem?_getD,List.getElem?_append_right (by omega),Nat.add_sub_cancel_left,Zs hi,List.getElem?_eq_getElem hi]
  rfl
 .rw[List.getElem?_eq_none (by simp;omega),List.getElem?_eq_none (by omega)]
  rfl
theorem Bo:∀(ls:List (List (List Int)))(pre:List (List Int))(p:List Int×List (List Int)),p∈(fX pre.length ls).zip ls->atP (pre++ls.flatten) p.1=p.2
 | [],pre,p,h=>by cases h
 |l::ls,pre,p,h=>by
  unfold fX at h
  rw[List.zip_cons_cons]at h
  rw[List.flatten_cons]
  rcases Zi.mp h with z|z
  .rw[z]
   exact Ii pre l ls.flatten
  .have:=Bo ls (pre++l) p (by rw[List.length_append];exact z)
   rwa[List.append_assoc]at this
theorem yu:∀(ls:List (List (List Int)))(a:Nat)(g:List Int),g∈fX a ls->(∃l∈ls,g.length=l.length)/\∀k∈g,(a:Int)<=k/\k<((a+ls.flatten.length:Nat):Int)
 | [],a,g,h=>by cases h
 |l::ls,a,g,h=>by
  unfold fX at h
  rcases Zi.mp h with z|z
  .rw[z]
   refine⟨⟨l,by simp,by unfold qt;simp⟩,λk hk=>?_⟩
   unfold qt at hk
   obtain⟨i,hi,rfl⟩:=Zq.mp hk
   have:=List.mem_range.mp hi
   simp only[List.flatten_cons,List.length_append]
   omega
  .obtain⟨⟨x,hx,e⟩,h2⟩:=yu ls (a+l.length) g z
   refine⟨⟨x,by simp[hx],e⟩,λk hk=>?_⟩
   have:=h2 k hk
   simp only[List.flatten_cons,List.length_append]
   omega
abbrev RL:=List Int×List (List Int)
def dH(d:Nat)(far:Int)(x:RL):List (List Int):=x.2.map (mv d far x.1)
def jy(d:Nat)(far:Int)(x:RL):List Int×Int:=(x.1,di x.1 (dH d far x))
structure RLs(d b:Nat)(xs:List RL):Prop where
 len:∀x∈xs,x.1.length=d
 ne:∀x∈xs,x.2≠[]
 pts:∀x∈xs,∀p∈x.2,PtB d b p
theorem vA(w:List Int×Int):cH (aN w)=w:=by
 show((w.1.map D.int).map intOf,w.2)=w
 rw[ints_map]
theorem HH{least square δ far:Int}(hs:1<=square)(hδ:0<=δ)(hf:far=(max 0 least).fdiv square+1+δ):least-far*square<0:=by
 rw[Int.fdiv_eq_ediv_of_nonneg _ (by omega)]at hf
 have h1:=Int.lt_ediv_add_one_mul_self (max 0 least) (show 0<square by omega)
 have h2:((max 0 least) / square+1)*square<=far*square:=Int.mul_le_mul_of_nonneg_right (by omega) (by omega)
 omega
theorem Gb{d b:Nat}{far:Int}:∀(xs:List RL),RLs d b xs->(xs.map λx=>di x.1 (dH d far x)).sum=(xs.map λx=>di x.1 x.2).sum-far*(xs.map λx=>sqV x.1).sum
 | [],_=>by simp
 |x::xs,h=>by
  have ih:=Gb (far:=far) xs ⟨λy hy=>h.len y (by simp[hy]),λy hy=>h.ne y (by simp[hy]),λy hy=>h.pts y (by simp[hy])⟩
  have e:=HF (far:=far) (h.len x (by simp)) (h.ne x (by simp)) (h.pts x (by simp))
  rw[Zj,Zj,Zj,List.sum_cons,List.sum_cons,List.sum_cons,ih,Int.mul_add]
  unfold dH
  rw[e]
  omega
theorem yC{α β γ:Type}(f:α->β)(g:α->γ):∀(gs:List (List Int))(xs:List α)(P:List Int×γ->Bool),(∀y∈gs.zip xs,P (y.1,g y.2)=true)->(gs.zip (xs.map g)).all P=true
 | [],xs,P,h=>by simp
 |a::gs,[],P,h=>by simp
 |a::gs,x::xs,P,h=>by
  rw[Zj,List.zip_cons_cons,List.all_cons,h (a,x) (by simp),yC f g gs xs P λy hy=>h y (by simp[hy])]
  rfl
theorem zT{d b:Nat}{far:Int}{xs:List RL}(h:RLs d b xs)(hc:∀k<d,(xs.map λx=>x.1.getD k 0).sum=0)(hl:(xs.map λx=>di x.1 x.2).sum-far*(xs.map λx=>sqV x.1).sum<0):
  apB d (xs.map (dH d far)).flatten (fX 0 (xs.map (dH d far))) (.tup ((xs.map (jy d far)).map aN))=true:=by
 have ew:((xs.map (jy d far)).map aN).map cH=xs.map (jy d far):=by
  rw[List.map_map]
  conv=>rhs;rw[<-List.map_id (xs.map (jy d far))]
  exact List.map_congr_left λw _=>vA w
 unfold apB
 simp only
 rw[ew]
 have q1:((xs.map (jy d far)).map aN).length=(fX 0 (xs.map (dH d far))).length:=by rw[lH];simp
 have q2:((xs.map (jy d far)).map aN).all (dh d)=true:=by
  rw[List.all_eq_true]
  intro t ht
  obtain⟨w,hw,rfl⟩:=Zq.mp ht
  obtain⟨x,hx,rfl⟩:=Zq.mp hw
  show((x.1.map D.int).all isInt&&((x.1.map D.int).length==d))=true
  rw[GC]
  simp[h.len x hx]
 have q3:czB d (xs.map (jy d far))=true:=by
  unfold czB
  rw[List.all_eq_true]
  intro k hk
  have:=hc k (List.mem_range.mp hk)
  unfold lX
  rw[List.map_map,beq_iff_eq]
  exact this
 have q4:dR (xs.map (jy d far))<0:=by
  unfold dR
  rw[List.map_map]
  have:=Gb (far:=far) xs h
  show(xs.map λx=>di x.1 (dH d far x)).sum<0
  omega
 have q5:((fX 0 (xs.map (dH d far))).zip (xs.map (jy d far))).all (mU (xs.map (dH d far)).flatten)=true:=by
  refine yC (dH d far) (jy d far) _ _ _ λy hy=>?_
  have hm:(y.1,dH d far y.2)∈(fX ([]:List (List Int)).length (xs.map (dH d far))).zip (xs.map (dH d far)):=by
   rw[List.zip_map_right]
   exact Zq.mpr ⟨y,hy,rfl⟩
  have ha:=Bo _ _ _ hm
  rw[List.nil_append]at ha
  have hx:=(List.of_mem_zip (a:=y.1) (b:=y.2) hy).2
  unfold mU
  show(!(atP (xs.map (dH d far)).flatten y.1).any (bey y.2.1 (di y.2.1 (dH d far y.2))))=true
  rw[ha]
  show(!(dH d far y.2).any (bey y.2.1 (di y.2.1 (dH d far y.2))))=true
  rw[Ei]
  .rfl
  .intro p hp
   obtain⟨q,hq,rfl⟩:=Zq.mp hp
   exact qj (h.pts _ hx q hq).b1
 rw[beq_iff_eq.mpr q1,q2,q3,q5]
 simpa using q4
theorem Ak{φ:FF}(hφ:jA φ)(all:List D)(rest:Mu):∀(its:List D)(L:List Int),DlD L->∃(ns L':List Int),lcL ⟨all,none⟩ (hName 0) aR (M2 (M2 (MC (aa (ao 1) (au)) φ) (mC (.int 5)) oMod) (mC (.int 2)) dU) [none,some (.cell 0)] its (some (L.map .int)::rest)=some (ns.map .int,some (L'.map .int)::rest)/\DlD L'/\ns.length=its.length/\∀n∈ns,n.natAbs<=2
 | [],L,hL=>⟨[],L,by unfold lcL;simp[bL],hL,rfl,λn h=>by cases h⟩
 |i::its,L,hL=>by
  obtain⟨x,L1,e1,hx,hL1⟩:=jo hφ hL rest
  obtain⟨ns,L2,e2,hL2,hl,hs⟩:=Ak hφ all rest its L1 hL1
  obtain⟨m0,m1⟩:=bF (x:=x) (m:=5) (by decide)
  generalize hq:x.fmod 5=q at *
  refine⟨(q-2)::ns,L2,?_,hL2,by simp[hl],λn hn=>?_⟩
  .unfold lcL
   simp[bL,aR,e1,hq,e2]
  .rcases Zi.mp hn with z|z
   .rw[z];omega
   .exact hs n z
def pG(rs:List (List Int))(d:Nat):List Int:=(List.range d).map λk=>0-(col rs k).sum
theorem Jb{c d:Nat}{rs:List (List Int)}{μ:Mu}(hc:μ[c]? =some (some (rs.map aC)))(hl:rs.length<=1000)(hr:∀r∈rs,r.length=d)(all:List D):
  lcL ⟨all,none⟩ (hName 0) aR (M2 (mC (.int 0)) (nW (gH (mFz (lLC ["_law_row"] [0] (cV (ao 1)) (hName 0) (aR) (M2 (ao 0) (ao 1) oIx))))) dU) [none,some (.cell c)] ((List.range d).map λk:Nat=>D.int (0+(k:Int))) μ=some ((pG rs d).map .int,μ):=by
 have e:=bK (all:=all) (h:=hName 0) (fe:=M2 (mC (.int 0)) (nW (gH (mFz (lLC ["_law_row"] [0] (cV (ao 1)) (hName 0) (aR) (M2 (ao 0) (ao 1) oIx))))) dU) (δb:=[none,some (.cell c)]) (F:=λk:Nat=>D.int (0+(k:Int))) (f:=λk=>.int (0-(col rs k).sum)) (μ:=μ) (List.range d) λk hk=>by
  have hk:=List.mem_range.mp hk
  refine⟨[some (.int (0+(k:Int))),some (.cell c)],by simp,?_⟩
  have q1:=wW (h:=hName 0) (fe:=M2 (ao 0) (ao 1) oIx) (δb:=[none,some (.int (0+(k:Int)))]) (F:=aC) (f:=λr=>.int (r.getD k 0)) hc rs λr hrm=>by
   obtain⟨a2,_⟩:=iu (ys:=r) (k:=0+(k:Int)) (by omega) (by have:=hr r hrm;omega)
   rw[show(0+(k:Int)).toNat=k by omega]at a2
   generalize r.getD k 0=z at *
   generalize (0+(k:Int))=j at *
   have a2:atI (r.map D.int) j=some (.int z):=a2
   exact⟨[some (aC r),some (.int j)],by simp,by simp[a2]⟩
  have q1':rs.map (λr=>D.int (r.getD k 0))=(col rs k).map D.int:=by unfold col;simp
  rw[q1']at q1
  have q2:=sum_ints μ (col rs k) 0
  rw[Int.zero_add]at q2
  have src:srcOf (.cell c) μ=some ⟨rs.map aC,some c⟩:=by
   unfold srcOf
   simp only[hc]
  have zz:(rs.map aC).length<=1000:=by simpa using hl
  generalize (col rs k).map D.int=CD at *
  generalize (col rs k).sum=cs at *
  generalize rs.map aC=RD at *
  generalize (0+(k:Int))=j at *
  simp[src,zz,bU,q1,q2]
 rw[e]
 unfold pG
 simp
theorem Ha:trunc (aJ 2 nY)=trunc (aJ 2 pK):=rfl
theorem xF(φ1 φ2:FF):trunc (aJ 2 (jD φ1 φ2))=trunc (aJ 2 (jJ φ1 φ2)):=rfl
def vV(φ:FF):Prop:=∀(d:Nat)(ns:List Int)(ps:List (List Int))(μ:Mu),d<=3->ns.length=d->(∀n∈ns,Sm 21 n)->ps≠[]->ps.length<=40->(∀p∈ps,PtB d 400 p)->φ [aC ns,.lst (ps.map aC)] μ=some (.int (di ns ps),μ)
theorem FJ{φ:FF}(h1:vD φ):vV (trunc (aJ 3 (gR φ))):=λd ns ps μ d3 hl hs hne hpl hp=>by
 have e1:=bK (all:=ps.map aC) (h:=hName 0) (fe:=MC (aa (ao 1) (aa (ao 0) (au))) φ) (δb:=[none,some (aC ns)]) (F:=aC) (f:=λp=>D.tup [.int (dot ns p.dropLast),.int (aX p)]) (μ:=μ) ps λp hpm=>by
  have:=h1 d ns p μ (by omega) hl (λn hn=>aZ (hs n hn) (by decide)) ((hp p hpm).sp (by decide))
  generalize aC p=P at *
  generalize aC ns=N at *
  exact⟨[some P,some N],by simp,by simp[this]⟩
 have e2:=bK (all:=ps.map λp=>D.tup [.int (dot ns p.dropLast),.int (aX p)]) (h:=gn 2 (aY (hName 0) (aY (hName 1) (gq)))) (fe:=M2 (mC (.int 0)) (M2 (M2 (mC (.int 0)) (ao 0) dU) (ao 1) oDiv) dU) (δb:=[none,none]) (F:=λp:List Int=>D.tup [.int (dot ns p.dropLast),.int (aX p)]) (f:=λp=>D.int (-((-(dot ns p.dropLast)).fdiv (aX p)))) (μ:=μ) ps λp hpm=>by
  have hb1:=(hp p hpm).b1
  have hb2:=(hp p hpm).b2
  generalize dot ns p.dropLast=S at *
  generalize aX p=b at *
  have:=jV (x:=-S) (y:=b) (b:=6) μ (by omega) (pL 64 (by omega) (by decide)) (by decide)
  exact⟨[some (.int S),some (.int b)],by simp,by simp[this]⟩
 have hm:ps.map (λp=>D.int (-((-(dot ns p.dropLast)).fdiv (aX p))))=(ps.map λp=>-((-(dot ns p.dropLast)).fdiv (aX p))).map D.int:=by simp
 rw[hm]at e2
 have hne2:(ps.map λp=>-((-(dot ns p.dropLast)).fdiv (aX p)))≠[]:=by simpa using hne
 have e3:=yh (μ:=μ) hne2
 apply bW
 have z1:(ps.map aC).length<=1000:=by simp;omega
 have z2:(ps.map λp=>D.tup [.int (dot ns p.dropLast),.int (aX p)]).length<=1000:=by simp;omega
 unfold di
 generalize jr (ps.map λp=>-((-(dot ns p.dropLast)).fdiv (aX p)))=M at *
 generalize (ps.map λp=>-((-(dot ns p.dropLast)).fdiv (aX p))).map D.int=QD at *
 generalize (ps.map λp=>D.tup [.int (dot ns p.dropLast),.int (aX p)])=TD at *
 generalize ps.map aC=PD at *
 generalize aC ns=N at *
 unfold gR
 simp[z1,bU,e1,z2,e2,e3]
theorem JK{d:Nat}{ns:List Int}{ps:List (List Int)}(d3:d<=3)(hl:ns.length=d)(hs:∀n∈ns,Sm 21 n)(hne:ps≠[])(hp:∀p∈ps,PtB d 400 p):Sm 440 (di ns ps):=by
 unfold di
 have hne2:(ps.map λp=>-((-(dot ns p.dropLast)).fdiv (aX p)))≠[]:=by simpa using hne
 obtain⟨p,hpm,e⟩:=Zq.mp (oU _ hne2)
 rw[<-e]
 have hb1:=(hp p hpm).b1
 have sd:Sm 440 (dot ns p.dropLast):=aZ (Eo (a:=21) (b:=400) hs (λc hc=>(hp p hpm).sm c ((List.dropLast_sublist _).mem hc)) (by omega)) (by decide)
 have:=gJ (x:=-(dot ns p.dropLast)) (y:=aX p) (by omega)
 unfold Sm at *
 rw[Int.natAbs_neg]at *
 omega
theorem Hn{φ1 φ2:FF}(h1:lA φ1)(h2:oE φ2){x d:Int}(d1:1<=d)(d3:d<=3)(all:List D){μ:Mu}(hm:jT μ):∀(its:List D),(∀i∈its,∃k:Int,i= .int k/\0<=k/\k<90)->∃ps:List (List Int),
  lcL ⟨all,none⟩ (hName 0) aR (MC (aa (MC (aa (ao 1) (aa (ao 0) (au))) φ1) (aa (ao 2) (aa (mC (.int 2)) (aa (mC (.int 0)) (au))))) φ2) [none,some (.int x),some (.int d)] its μ=some (ps.map aC,μ)/\ps.length=its.length/\∀p∈ps,PtB d.toNat 14 p
 | [],_=>⟨[],by unfold lcL;simp[bL],rfl,λn h=>by cases h⟩
 |i::its,h=>by
  obtain⟨k,rfl,k0,k1⟩:=h i (by simp)
  obtain⟨ps,e,hl,hs⟩:=Hn h1 h2 d1 d3 all hm its λj hj=>h j (by simp[hj])
  obtain⟨y,ey,hy⟩:=h1 x k μ (by omega) (by omega)
  obtain⟨p,ep,ns,b,rfl,hp,_⟩:=h2 y d 2 0 μ hm hy d1 d3 (by decide) (by decide) (by decide) (by decide)
  have ep:φ2 [.int y,.int d,.int 2,.int 0] μ=some (aC (ns++[b]),μ):=ep
  refine⟨(ns++[b])::ps,?_,by simp[hl],λq hq=>?_⟩
  .rw[Zj]
   generalize aC (ns++[b])=R at *
   unfold lcL
   simp[bL,aR,ey,ep]
   rw[e]
   rfl
  .rcases Zi.mp hq with z|z
   .rw[z]
    have r:=hp.row
    exact⟨r.len,λn hn=>pL 10001 (by have:=r.sm n hn;omega) (by decide),r.b1,r.b2⟩
   .exact hs q z
theorem PL{d:Nat}{far:Int}{row p:List Int}(hr:row.length=d)(sr:∀n∈row,Sm 21 n)(hp:PtB d 14 p)(hf:Sm 100 far)(all:List D)(μ:Mu):
  lcL ⟨all,none⟩ (hName 0) aR (M2 (M2 (ao 1) (ao 0) oIx) (M2 (M2 (ao 2) (M2 (ao 3) (ao 0) oIx) cB) (M2 (ao 1) (M1 (mC (.int 1)) ju) oIx) cB) dU) [none,some (aC p),some (.int far),some (aC row)] ((List.range d).map λk:Nat=>D.int (0+(k:Int))) μ=some ((mvQ d far row p).map .int,μ):=by
 have e:=bK (all:=all) (h:=hName 0) (fe:=M2 (M2 (ao 1) (ao 0) oIx) (M2 (M2 (ao 2) (M2 (ao 3) (ao 0) oIx) cB) (M2 (ao 1) (M1 (mC (.int 1)) ju) oIx) cB) dU) (δb:=[none,some (aC p),some (.int far),some (aC row)]) (F:=λk:Nat=>D.int (0+(k:Int))) (f:=λk=>.int (p.getD k 0-far*row.getD k 0*aX p)) (μ:=μ) (List.range d) λk hk=>by
  have hk:=List.mem_range.mp hk
  refine⟨[some (.int (0+(k:Int))),some (aC p),some (.int far),some (aC row)],by simp,?_⟩
  obtain⟨a1,m1⟩:=iu (ys:=p) (k:=0+(k:Int)) (by omega) (by have:=hp.len;omega)
  obtain⟨a2,m2⟩:=iu (ys:=row) (k:=0+(k:Int)) (by omega) (by omega)
  have a3:=(hp.sp (by decide)).last
  rw[show(0+(k:Int)).toNat=k by omega]at a1 a2 m1 m2
  have s2:=sr _ m2
  have b1:=hp.b1
  have b2:=hp.b2
  generalize p.getD k 0=y at *
  generalize row.getD k 0=r at *
  generalize aX p=b at *
  generalize (0+(k:Int))=j at *
  have x1:oIx (aC p) (.int j) μ=some (.int y,μ):=by unfold aC;rw[tL];simp[a1]
  have x2:oIx (aC row) (.int j) μ=some (.int r,μ):=by unfold aC;rw[tL];simp[a2]
  have x3:oIx (aC p) (.int (-1)) μ=some (.int b,μ):=by unfold aC;rw[tL];simp[a3]
  have k1:=cG (x:=far) (y:=r) μ hf s2 (by decide)
  have k2:=cG (x:=far*r) (y:=b) (b:=6) μ (kh hf s2) (pL 64 (by omega) (by decide)) (by decide)
  generalize aC p=PD at *
  generalize aC row=RD at *
  simp[x1,x2,x3,k1,k2,-tL]
 rw[e]
 unfold mvQ
 rw[List.map_map]
 rfl
theorem Ac{d:Nat}{far:Int}{row p:List Int}(hr:row.length=d)(sr:∀n∈row,Sm 21 n)(hp:PtB d 14 p)(hf:Sm 100 far):PtB d 400 (mv d far row p):=by
 have hb1:=hp.b1
 have hb2:=hp.b2
 have g0:=wH (d:=d) (far:=far) (row:=row) hb1
 refine⟨Oj,λn hn=>?_,qj hb1,?_⟩
 .unfold mv at hn
  obtain⟨m,hm,rfl⟩:=Zq.mp hn
  refine Ft ?_ (by omega)
  rcases Zm.mp hm with z|z
  .unfold mvQ at z
   obtain⟨k,hk,rfl⟩:=Zq.mp z
   have hk:=List.mem_range.mp hk
   obtain⟨_,m1⟩:=iu (ys:=p) (k:=(k:Int)) (by omega) (by have:=hp.len;omega)
   obtain⟨_,m2⟩:=iu (ys:=row) (k:=(k:Int)) (by omega) (by omega)
   rw[show((k:Int)).toNat=k by omega]at m1 m2
   have s3:=kh (kh hf (sr _ m2)) (show Sm 6 (aX p)from pL 64 (by omega) (by decide))
   rw[Int.sub_eq_add_neg]
   have s4:Sm 300 (-(far*row.getD k 0*aX p)):=by
    have:=aZ s3 (by decide:100+21+6<=300)
    unfold Sm at *
    rwa[Int.natAbs_neg]
   exact aZ (wC (aZ (hp.sm _ m1) (by decide:14<=300)) s4) (by decide)
  .rw[List.mem_singleton.mp z]
   exact aZ (pL (b:=6) 64 (by omega) (by decide)) (by decide)
 .rw[Am]
  have:=gJ (x:=aX p) (y:=(mvG d far row p:Nat)) (by omega)
  omega
theorem Lq{φ:FF}(h:qe φ){d:Nat}{far:Int}{row p:List Int}(d1:1<=d)(d3:d<=3)(hr:row.length=d)(sr:∀n∈row,Sm 21 n)(hp:PtB d 14 p)(hf:Sm 100 far)(μ:Mu):φ [.lst ((mvQ d far row p).map .int),.int (aX p)] μ=some (aC (mv d far row p),μ):=by
 have hb1:=hp.b1
 have hb2:=hp.b2
 have hq:(mvQ d far row p).length=d:=by unfold mvQ;simp
 have e:=h (mvQ d far row p) (aX p) μ (by omega) (aZ (pL (b:=6) 64 (by omega) (by decide)) (by decide)) (by omega) (λz=>by rw[z]at hq;simp at hq;omega)
 have e1:sgn (aX p)=1:=if_pos (by omega)
 rw[e1,Int.one_mul]at e
 rw[e]
 unfold mv aC mvG
 rw[List.map_map]
 rfl
def R2(d:Nat)(r:List Int):Prop:=r.length=d/\∀n∈r,n.natAbs<=2
theorem st1{φ:FF}(hφ:jA φ){d:Int}(d1:1<=d)(d3:d<=3)(m:Int)(tl:En)(all:List D):∀(n:Nat)(its:List D),its.length=n->n<=9->∀(L:List Int)(acc:List (List Int))(o4:Option D),DlD L->acc.length+n<=9->(∀r∈acc,R2 d.toNat r)->∃(rows:List (List Int))(L':List Int)(o:Option D),
  forL ⟨all,none⟩ (hName 4) (dB (fU (ao 3) (aa (MC (aa (mFz (lLC ["_law_k"] [0] (bV (aa (ao 1) (au))) (hName 0) (aR) (M2 (M2 (MC (aa (ao 1) (au)) φ) (mC (.int 5)) oMod) (mC (.int 2)) dU))) (au)) dD) (au)))) its (some (.cell 0)::some (.int d)::some (.int m)::some (.cell 1)::o4::tl) [some (L.map .int),some (acc.map aC)]=some (.nx,some (.cell 0)::some (.int d)::some (.int m)::some (.cell 1)::o::tl,[some (L'.map .int),some (rows.map aC)])/\DlD L'/\rows.length=acc.length+n/\∀r∈rows,R2 d.toNat r
 |0,its,h,_,L,acc,o4,hL,ha,hr=>by
  have:=List.eq_nil_of_length_eq_zero h
  subst this
  exact⟨acc,L,o4,by unfold forL;rw[if_pos ql],hL,rfl,hr⟩
 |n+1,i::its,h,hn,L,acc,o4,hL,ha,hr=>by
  obtain⟨ns,L1,e1,hL1,hl,hs⟩:=Ak hφ (cQ 0 d.toNat) [some (acc.map aC)] (cQ 0 d.toNat) L hL
  rw[iw]at hl
  obtain⟨rows,L2,o,e2,hL2,hl2,hr2⟩:=st1 hφ d1 d3 m tl all n its (by simpa using h) (by omega) L1 (acc++[ns]) (some i) hL1 (by simp;omega) (λr hrm=>by
   rcases Zm.mp hrm with z|z
   .exact hr r z
   .rw[List.mem_singleton.mp z];exact⟨hl,hs⟩)
  refine⟨rows,L2,o,?_,hL2,by rw[hl2];simp;omega,hr2⟩
  have rd:=rO (j:=d) (μ:=[some (L.map .int),some (acc.map aC)]) (by omega) (by omega)
  have zd:(cQ 0 d.toNat).length<=1000:=by rw[iw];omega
  have za:(acc.map aC).length<sizeLine:=Zc (by simp;omega:_<1000) (by decide)
  have zns:(ns.map D.int).length<=1000:=by simp;omega
  rw[List.map_append,Zj,List.map_nil]at e2
  have er:aC ns= .tup (ns.map .int):=rfl
  rw[er]at e2
  generalize ns.map D.int=ND at *
  generalize cQ 0 d.toNat=RG at *
  generalize acc.map aC=AD at *
  unfold forL
  rw[if_pos ql]
  simp[rd,zd,bU,e1,fU,gZ,za,e2]
theorem Qt{ds:List D}{k:Int}{μ:Mu}(h0:0<=k)(h1:k<=1000)(hl:ds.length*k.toNat<=1000):cB (.tup ds) (.int k) μ=some (.tup (List.replicate k.toNat ds).flatten,μ):=if_pos ⟨by omega,by omega,Zl hl (by decide)⟩
theorem Ko{d:Int}{μ:Mu}(d1:0<=d)(d3:d<=100):cB (.tup [.int 1]) (.int d) μ=some (aC (List.replicate d.toNat 1),μ):=by
 rw[Qt (ds:=[D.int 1]) d1 (by omega) (by show 1*d.toNat<=1000;omega)]
 unfold aC
 simp
theorem GZ{r:List Int}(h:∃n∈r,n≠0):1<=sqV r:=by
 induction r with
 |nil=>obtain⟨n,hn,_⟩:=h;cases hn
 |cons a r ih=>
  have h0:=zq r
  have e:sqV (a::r)=a*a+sqV r:=by unfold sqV;simp
  have h0:0<=sqV r:=h0
  rw[e]
  by_cases ha:a=0
  .have:=ih (by
    obtain⟨n,hn,hz⟩:=h
    rcases Zi.mp hn with z|z
    .exact absurd (z.trans ha) hz
    .exact⟨n,z,hz⟩)
   rw[ha]
   omega
  .have p:0<a.natAbs*a.natAbs:=Nat.mul_pos (by omega) (by omega)
   have q:((a.natAbs*a.natAbs:Nat):Int)=a*a:=Int.natAbs_mul_self
   omega
theorem Jy{rows:List (List Int)}{r0:List Int}{rest:List (List Int)}(e:rows=r0::rest)(h:1<=sqV r0):1<=(rows.map sqV).sum:=by
 subst e
 have:∀l:List (List Int),0<=(l.map sqV).sum:=λl=>by
  induction l with
  |nil=>simp
  |cons a l ih=>
   rw[Zj,List.sum_cons]
   have:0<=sqV a:=zq a
   omega
 rw[Zj,List.sum_cons]
 have:=this rest
 omega
theorem Ov(ns:List Int)(all:List D)(μ:Mu):lcL ⟨all,none⟩ (hName 0) aR (MC (aa (ao 0) (au)) (bh nM)) [none] (ns.map D.int) μ=some ((ns.map λn=>(n.natAbs:Int)).map D.int,μ):=by
 rw[List.map_map]
 exact bK (F:=D.int) ns λn hn=>⟨[some (.int n)],by simp,by simp⟩
theorem st2{d m:Int}(d1:1<=d)(d3:d<=3){tl:En}{L:List Int}{r0:List Int}{rest:List (List Int)}(hr:∀r∈r0::rest,R2 d.toNat r):∃r1:List Int,(sIf (lK (toB (M2 (ao 3) (MC (au) oLst) vJ)) (toB (M2 (MC (aa (mFz (lLC ["_law_one"] [] (cV (M2 (ao 3) (mC (.int 0)) oIx)) (hName 0) (aR) (MC (aa (ao 0) (au)) (bh nM)))) (au)) (bh tu)) (mC (.int 0)) oEq))) (Hf (M2 (MC (aa (mC (.int 1)) (au)) oTup) (ao 1) cB) (ao 3) (mC (.int 0))) (bR)) (some (.cell 0)::some (.int d)::some (.int m)::some (.cell 1)::tl) [some (L.map .int),some ((r0::rest).map aC)]=some (.nx,some (.cell 0)::some (.int d)::some (.int m)::some (.cell 1)::tl,[some (L.map .int),some ((r1::rest).map aC)])/\R2 d.toNat r1/\1<=sqV r1:=by
 obtain⟨h0l,h0s⟩:=hr r0 (by simp)
 have hne:(r0.map λn=>(n.natAbs:Int))≠[]:=λz=>by
  have:=congrArg List.length z
  simp at this
  rw[this]at h0l
  simp at h0l
  omega
 have e1:=λμ=>yh (μ:=μ) hne
 have ec:=λμ=>Ov r0 (r0.map D.int) μ
 have src:∀μ,srcOf (aC r0) μ=some ⟨r0.map .int,none⟩:=λ_=>rfl
 have zz:(r0.map D.int).length<=1000:=by simp;omega
 have a0:atI (aC r0::rest.map aC) 0=some (aC r0):=by
  have:=(jz (F:=aC) (l:=r0::rest) (k:=0) (z:=[]) (by decide) (by rw[List.length_cons];omega)).1
  exact this
 have en:vJ (.cell 1) (.lst []) [some (L.map D.int),some (aC r0::rest.map aC)]=some (.bl true,[some (L.map D.int),some (aC r0::rest.map aC)]):=by
  obtain⟨p1,p2⟩:=uB (r0::rest)
  exact Nm (n:=1) (ps:=aC r0::rest.map aC) rfl p1 (Nat.lt_of_le_of_lt p2 (by decide))
 have it:∀l:List D,bM (.cell 1) [some (L.map D.int),some l]=some l:=λ_=>rfl
 have ix0:ixN (rest.length+1) 0=some 0:=by
  unfold ixN
  rw[if_pos (by decide),if_pos (by omega)]
  rfl
 obtain⟨M,hM⟩:∃M:Int,jr (r0.map λn=>(n.natAbs:Int))=M:=⟨_,rfl⟩
 have hg:=vz (r0.map λn=>(n.natAbs:Int))
 rw[hM]at e1 hg
 have eo:=λμ=>Ko (d:=d) (μ:=μ) (by omega) (by omega)
 by_cases h0:M=0
 .refine⟨List.replicate d.toNat 1,?_,⟨by simp,λn hn=>by rw[List.eq_of_mem_replicate hn];decide⟩,GZ ⟨1,by rw[List.mem_replicate];exact⟨by omega,rfl⟩,by decide⟩⟩
  subst h0
  rw[Zj,Zj]
  generalize (r0.map λn=>(n.natAbs:Int)).map D.int=AD at *
  generalize r0.map D.int=ND at *
  generalize aC r0=R at *
  generalize aC (List.replicate d.toNat 1)=O at *
  have hlen:(rest.map aC).length=rest.length:=by simp
  generalize rest.map aC=RD at *
  apply ul
  simp[a0,src,zz,bU,ec,e1,eo,L3.Gm,hlen,ix0,en,it]
 .refine⟨r0,?_,⟨h0l,h0s⟩,GZ ?_⟩
  .have h0':(M==0)=false:=beq_eq_false_iff_ne.mpr h0
   rw[Zj]
   generalize (r0.map λn=>(n.natAbs:Int)).map D.int=AD at *
   generalize r0.map D.int=ND at *
   generalize aC r0=R at *
   generalize rest.map aC=RD at *
   apply ul
   simp[a0,src,zz,bU,ec,e1,h0',en,it]
  .have hm:=oU _ hne
   rw[hM]at hm
   obtain⟨n,hn,e⟩:=Zq.mp hm
   exact⟨n,hn,λz=>h0 (by rw[<-e,z];rfl)⟩
def iQ(l:List (List Int)):D:=.lst (l.map aC)
def Lg(d:Nat)(l:List (List Int)):Prop:=l≠[]/\l.length<=3/\∀p∈l,PtB d 14 p
theorem Nj(l:List (List Int)):nc (iQ l):=ph.mpr λd hd=>by
 obtain⟨q,_,rfl⟩:=Zq.mp hd
 exact fJ.mpr jc
theorem yU(r:List Int):nc (aC r):=fJ.mpr jc
theorem st4{φ1 φ2 φ3:FF}(h1:jA φ1)(h2:lA φ2)(h3:oE φ3){d:Int}(d1:1<=d)(d3:d<=3)(m:Int)(o4:Option D)(tl:En)(RS:List D)(hRS:∀t∈RS,nc t):∀(n:Nat)(its:List D),its.length=n->n<=9->∀(L:List Int)(acc:List (List (List Int)))(o6 o7:Option D),DlD L->acc.length+n<=9->∃(lots:List (List (List Int)))(L':List Int)(o6' o7':Option D),
  forL ⟨RS,some 1⟩ (hName 6) (aW (bJ 7 (MC (aa (ao 0) (au)) φ1)) (dB (fU (ao 5) (aa (mFz (lLC ["_law_j"] [7,1] (bV (aa (M2 (mC (.int 1)) (M2 (ao 7) (mC (.int 3)) oMod) bc) (au))) (hName 0) (aR) (MC (aa (MC (aa (ao 1) (aa (ao 0) (au))) φ2) (aa (ao 2) (aa (mC (.int 2)) (aa (mC (.int 0)) (au))))) φ3))) (au))))) its (some (.cell 0)::some (.int d)::some (.int m)::some (.cell 1)::o4::some (.cell 2)::o6::o7::tl) [some (L.map .int),some RS,some (acc.map iQ)]=some (.nx,some (.cell 0)::some (.int d)::some (.int m)::some (.cell 1)::o4::some (.cell 2)::o6'::o7'::tl,[some (L'.map .int),some RS,some ((acc++lots).map iQ)])/\DlD L'/\lots.length=n/\∀l∈lots,Lg d.toNat l
 |0,its,h,_,L,acc,o6,o7,hL,ha=>by
  have:=List.eq_nil_of_length_eq_zero h
  subst this
  have ok:Src.ok ⟨RS,some 1⟩ [some (L.map D.int),some RS,some (acc.map iQ)]:=λn e=>by cases e;rfl
  exact⟨[],L,o6,o7,by unfold forL;rw[if_pos ok,List.append_nil],hL,rfl,λl hl=>by cases hl⟩
 |n+1,i::its,h,hn,L,acc,o6,o7,hL,ha=>by
  have ok:Src.ok ⟨RS,some 1⟩ [some (L.map D.int),some RS,some (acc.map iQ)]:=λn e=>by cases e;rfl
  obtain⟨x,L1,e1,hx,hL1⟩:=jo h1 hL [some RS,some (acc.map iQ)]
  obtain⟨m0,m1⟩:=bF (x:=x) (m:=3) (by decide)
  generalize hmo:x.fmod 3=mo at *
  obtain⟨q,hq⟩:∃q:Int,1+mo=q:=⟨_,rfl⟩
  have hmu:jT [some (L1.map D.int),some RS,some (acc.map iQ)]:=(jT.cons hRS (jT.cons (λt ht=>by
   obtain⟨l,_,rfl⟩:=Zq.mp ht
   exact Nj l) jT.nil)).dr
  obtain⟨lot,e2,hl,hp⟩:=Hn h2 h3 (x:=x) d1 d3 (cQ 0 q.toNat) hmu (cQ 0 q.toNat) λi hi=>by
   obtain⟨k,e,k0,k1⟩:=vp hi
   exact⟨k,e,k0,by omega⟩
  rw[iw]at hl
  obtain⟨lots,L2,o6',o7',e3,hL2,hl2,hr2⟩:=st4 h1 h2 h3 d1 d3 m o4 tl RS hRS n its (by simpa using h) (by omega) L1 (acc++[lot]) (some i) (some (.int x)) hL1 (by simp;omega)
  refine⟨lot::lots,L2,o6',o7',?_,hL2,by simp[hl2],λl hlm=>?_⟩
  .have rd:=rO (j:=q) (μ:=[some (L1.map .int),some RS,some (acc.map iQ)]) (by omega) (by omega)
   have zd:(cQ 0 q.toNat).length<=1000:=by rw[iw];omega
   have za:(acc.map iQ).length<sizeLine:=Zc (by simp;omega:_<1000) (by decide)
   have er:acc++[lot]++lots=acc++lot::lots:=by simp
   rw[er,List.map_append (l₁:=acc) (l₂:=[lot]),Zj,List.map_nil]at e3
   have er2:iQ lot= .lst (lot.map aC):=rfl
   rw[er2]at e3
   generalize lot.map aC=LT at *
   generalize cQ 0 q.toNat=RG at *
   generalize (acc++lot::lots).map iQ=FN at *
   generalize acc.map iQ=AD at *
   unfold forL
   rw[if_pos ok]
   apply ul
   simp[e1,hmo,hq,rd,zd,bU,e2,fU,gZ,za,e3]
  .rcases Zi.mp hlm with z|z
   .rw[z]
    exact⟨λw=>by rw[w]at hl;simp at hl;omega,by omega,hp⟩
   .exact hr2 l z
theorem La{φ:FF}(hφ:qe φ){d:Int}(d1:1<=d)(d3:d<=3){far:Int}{row:List Int}(hr:row.length=d.toNat)(sr:∀n∈row,Sm 21 n)(hf:Sm 100 far)(all:List D)(δh:En)(c:Nat)(μ:Mu)(o0 o2 o3 o4 o5 o7 o8 o9 o11 o12 o13 o14:Option D)(hc:c=μ.length):∀(ps:List (List Int))(acc:List (List Int))(o16:Option D),(∀p∈ps,PtB d.toNat 14 p)->acc.length+ps.length<=100->∃o16',
  forL ⟨all,none⟩ (hName 16) (dB (fU (ao 15) (aa (MC (aa (mFz (lLC ["_law_k"] [16,10,6] (bV (aa (ao 1) (au))) (hName 0) (aR) (M2 (M2 (ao 1) (ao 0) oIx) (M2 (M2 (ao 2) (M2 (ao 3) (ao 0) oIx) cB) (M2 (ao 1) (M1 (mC (.int 1)) ju) oIx) cB) dU))) (aa (M2 (ao 16) (M1 (mC (.int 1)) ju) oIx) (au))) φ) (au)))) (ps.map aC) [o0,some (.int d),o2,o3,o4,o5,some (aC row),o7,o8,o9,some (.int far),o11,o12,o13,o14,some (.cell c),o16] (μ++[some (acc.map aC)])=some (.nx,[o0,some (.int d),o2,o3,o4,o5,some (aC row),o7,o8,o9,some (.int far),o11,o12,o13,o14,some (.cell c),o16'],μ++[some ((acc++ps.map (mv d.toNat far row)).map aC)])
 | [],acc,o16,_,_=>⟨o16,by
  rw[List.map_nil,List.map_nil,List.append_nil]
  unfold forL
  rw[if_pos ql]⟩
 |p::ps,acc,o16,hp,hz=>by
  subst hc
  have hpp:=hp p (by simp)
  obtain⟨o,e3⟩:=La hφ d1 d3 hr sr hf all δh μ.length μ o0 o2 o3 o4 o5 o7 o8 o9 o11 o12 o13 o14 rfl ps (acc++[mv d.toNat far row p]) (some (aC p)) (λq hq=>hp q (by simp[hq])) (by simp at hz ⊢;omega)
  have e1:=PL hr sr hpp hf ((List.range d.toNat).map λk:Nat=>D.int (0+(k:Int))) (μ++[some (acc.map aC)])
  have e2:=Lq hφ (by omega) (by omega) hr sr hpp hf (μ++[some (acc.map aC)])
  have rd:=rO (j:=d) (μ:=μ++[some (acc.map aC)]) (by omega) (by omega)
  have hrd:cQ 0 d.toNat=(List.range d.toNat).map λk:Nat=>D.int (0+(k:Int)):=rfl
  rw[hrd]at rd
  have zd:((List.range d.toNat).map λk:Nat=>D.int (0+(k:Int))).length<=1000:=by simp;omega
  have za:(acc.map aC).length<sizeLine:=Zc (by simp at hz ⊢;omega:_<1000) (by decide)
  have a3:=(hpp.sp (by decide)).last
  have x3:oIx (aC p) (.int (-1)) (μ++[some (acc.map aC)])=some (.int (aX p),μ++[some (acc.map aC)]):=by unfold aC;rw[tL];simp[a3]
  refine⟨o,?_⟩
  rw[Zj,Zj]
  have er:acc++[mv d.toNat far row p]++ps.map (mv d.toNat far row)=acc++mv d.toNat far row p::ps.map (mv d.toNat far row):=by simp
  rw[er,List.map_append (l₁:=acc) (l₂:=[mv d.toNat far row p]),Zj,List.map_nil]at e3
  generalize (acc++mv d.toNat far row p::ps.map (mv d.toNat far row)).map aC=FN at *
  generalize aC (mv d.toNat far row p)=MV at *
  generalize (mvQ d.toNat far row p).map D.int=QD at *
  generalize aX p=b at *
  generalize aC p=PD at *
  generalize aC row=RD at *
  generalize (List.range d.toNat).map (λk:Nat=>D.int (0+(k:Int)))=RG at *
  generalize acc.map aC=AD at *
  generalize ps.map aC=PS at *
  unfold forL
  rw[if_pos ql]
  simp[rd,zd,bU,e1,x3,e2,fU,gZ,za,e3,-tL]
def XOk(d:Nat)(x:RL):Prop:=x.1.length=d/\(∀n∈x.1,Sm 21 n)/\Lg d x.2
def zD(x:RL):D:=.tup [aC x.1,iQ x.2]
def fG(d:Nat)(far:Int)(xs:List RL):List (List Int):=(xs.map (dH d far)).flatten
def gU(d:Nat)(far:Int)(xs:List RL):List (List Int):=fX 0 (xs.map (dH d far))
def gM(d:Nat)(far:Int)(xs:List RL):List (List Int×Int):=xs.map (jy d far)
theorem Hw{d:Nat}{far:Int}{xs:List RL}{x:RL}:fG d far (xs++[x])=fG d far xs++dH d far x:=by unfold fG;simp
theorem Ke{d:Nat}{far:Int}{xs:List RL}{x:RL}:gU d far (xs++[x])=gU d far xs++[qt ((fG d far xs).length:Int) (dH d far x).length]:=by
 unfold gU fG
 rw[List.map_append,Zj,List.map_nil,uX,Nat.zero_add]
theorem Iu{d:Nat}{far:Int}{xs:List RL}{x:RL}:gM d far (xs++[x])=gM d far xs++[jy d far x]:=by unfold gM;simp
theorem vg{d:Nat}{far:Int}:∀{xs:List RL},(∀x∈xs,XOk d x)->(fG d far xs).length<=3*xs.length
 | [],_=>by simp[fG]
 |x::xs,h=>by
  have ih:=vg (far:=far) (xs:=xs) λy hy=>h y (by simp[hy])
  have:=(h x (by simp)).2.2.2.1
  have e:fG d far (x::xs)=dH d far x++fG d far xs:=by unfold fG;simp
  rw[e,List.length_append,List.length_cons]
  unfold dH
  rw[Zu]
  omega
theorem st7{φ1 φ2:FF}(h1:qe φ1)(h2:vV φ2){d:Int}(d1:1<=d)(d3:d<=3){far:Int}(hf:Sm 100 far)(all:List D)(L:List D)(o0 o2 o3 o4 o5 o7 o8 o9:Option D):∀(xs done:List RL)(J:Mu)(o6 o14 o15 o16:Option D),(∀x∈done,XOk d.toNat x)->(∀x∈xs,XOk d.toNat x)->done.length+xs.length<=9->∃(J':Mu)(o6' o14' o15' o16':Option D),
  forL ⟨all,none⟩ (gn 2 (aY (hName 6) (aY (hName 14) (gq)))) (aW (bJ 15 (oG (oR (au)))) (aW (jw (cV (ao 14)) (hName 16) (dB (fU (ao 15) (aa (MC (aa (mFz (lLC ["_law_k"] [16,10,6] (bV (aa (ao 1) (au))) (hName 0) (aR) (M2 (M2 (ao 1) (ao 0) oIx) (M2 (M2 (ao 2) (M2 (ao 3) (ao 0) oIx) cB) (M2 (ao 1) (M1 (mC (.int 1)) ju) oIx) cB) dU))) (aa (M2 (ao 16) (M1 (mC (.int 1)) ju) oIx) (au))) φ1) (au))))) (aW (dB (fU (ao 12) (aa (qY (aa (MC (aa (ao 11) (au)) (bh dO)) (aa (M2 (MC (aa (ao 11) (au)) (bh dO)) (MC (aa (ao 15) (au)) (bh dO)) bc) (au)))) (au)))) (aW (bJ 11 (mFz (EY (ao 11) (ao 15)))) (dB (fU (ao 13) (aa (MC (aa (ao 6) (aa (MC (aa (ao 6) (aa (xM (ao 15)) (au))) φ2) (au))) oTup) (au)))))))) (xs.map zD) [o0,some (.int d),o2,o3,o4,o5,o6,o7,o8,o9,some (.int far),some (.lst ((fG d.toNat far done).map aC)),some (.cell 3),some (.cell 4),o14,o15,o16] (some L::none::none::some ((gU d.toNat far done).map cW)::some ((gM d.toNat far done).map aN)::J)=some (.nx,[o0,some (.int d),o2,o3,o4,o5,o6',o7,o8,o9,some (.int far),some (.lst ((fG d.toNat far (done++xs)).map aC)),some (.cell 3),some (.cell 4),o14',o15',o16'],(some L::none::none::some ((gU d.toNat far (done++xs)).map cW)::some ((gM d.toNat far (done++xs)).map aN)::J'))
 | [],done,J,o6,o14,o15,o16,_,_,_=>⟨J,o6,o14,o15,o16,by
  rw[List.map_nil,List.append_nil]
  unfold forL
  rw[if_pos ql]⟩
 |x::xs,done,J,o6,o14,o15,o16,hd,hx,hl=>by
  obtain⟨xr,xl⟩:=x
  obtain⟨hr,sr,lne,ll3,lp⟩:=hx (xr,xl) (by simp)
  have hr:xr.length=d.toNat:=hr
  have sr:∀n∈xr,Sm 21 n:=sr
  have elot:dH d.toNat far (xr,xl)=xl.map (mv d.toNat far xr):=rfl
  obtain⟨q16,e2⟩:=La h1 d1 d3 hr sr hf (xl.map aC) [] (J.length+1+1+1+1+1) (some L::none::none::some ((gU d.toNat far done).map cW)::some ((gM d.toNat far done).map aN)::J) o0 o2 o3 o4 o5 o7 o8 o9 (some (.lst ((fG d.toNat far done).map aC))) (some (.cell 3)) (some (.cell 4)) (some (iQ xl)) (by simp) xl [] o16 lp (by
   have:xl.length<=3:=ll3
   simp
   omega)
  rw[List.nil_append,<-elot]at e2
  obtain⟨J',p6,p14,p15,p16,e9⟩:=st7 h1 h2 d1 d3 hf all L o0 o2 o3 o4 o5 o7 o8 o9 xs (done++[(xr,xl)]) (J++[none]) (some (aC xr)) (some (iQ xl)) (some (.cell (J.length+1+1+1+1+1))) q16 (λy hy=>by
   rcases Zm.mp hy with z|z
   .exact hd y z
   .rw[List.mem_singleton.mp z];exact hx _ (by simp)) (λy hy=>hx y (by simp[hy])) (by simp at hl ⊢;omega)
  refine⟨J',p6,p14,p15,p16,?_⟩
  have hpl:=vg (d:=d.toNat) (far:=far) hd
  have hlm:(dH d.toNat far (xr,xl)).length<=3:=by rw[elot,Zu];exact ll3
  have hcm:=h2 d.toNat xr (dH d.toNat far (xr,xl)) (some L::none::none::some ((gU d.toNat far done).map cW++[cW (qt ((fG d.toNat far done).length:Int) (dH d.toNat far (xr,xl)).length)])::some ((gM d.toNat far done).map aN)::(J++[none])) (by omega) hr sr (by
   rw[elot]
   simpa using lne) (by omega) (λp hp=>by
   rw[elot]at hp
   obtain⟨q,hq,rfl⟩:=Zq.mp hp
   exact Ac hr sr (lp q hq) hf)
  have ew:jy d.toNat far (xr,xl)=(xr,di xr (dH d.toNat far (xr,xl))):=rfl
  obtain⟨pl,hpl2⟩:∃z:Int,z=(fG d.toNat far done).length:=⟨_,rfl⟩
  obtain⟨ml,hml⟩:∃z:Int,z=(dH d.toNat far (xr,xl)).length:=⟨_,rfl⟩
  simp only[List.length_cons,List.length_nil]at hl
  have et:=λμ=>Nh (i:=pl) (j:=pl+ml) (μ:=μ) (by omega) (by omega) (by omega)
  rw[show(pl+ml-pl).toNat=(dH d.toNat far (xr,xl)).length by omega]at et
  rw[<-hpl2]at hcm
  rw[show done++[(xr,xl)]++xs=done++(xr,xl)::xs by simp,Hw,Ke,Iu,List.map_append (l₂:=dH d.toNat far (xr,xl)),List.map_append (l₂:=[qt _ _]),List.map_append (l₂:=[jy d.toNat far (xr,xl)]),Zj,Zj,List.map_nil,List.map_nil,ew,<-hpl2]at e9
  have zG:((gU d.toNat far done).map cW).length<sizeLine:=Zc (by unfold gU;rw[Zu,lH];simp;omega:_<1000) (by decide)
  have zW:((gM d.toNat far done).map aN).length<sizeLine:=Zc (by unfold gM;simp;omega:_<1000) (by decide)
  have zP:((fG d.toNat far done).map aC).length+((dH d.toNat far (xr,xl)).map aC).length<=sizeLine:=szl (by rw[Zu,Zu];omega)
  have lP:(((fG d.toNat far done).map aC).length:Int)=pl:=by rw[Zu,hpl2]
  have lM:(((dH d.toNat far (xr,xl)).map aC).length:Int)=ml:=by rw[Zu,hml]
  have src:∀μ,srcOf (iQ xl) μ=some ⟨xl.map aC,none⟩:=λ_=>rfl
  have ez:zD (xr,xl)= .tup [aC xr,iQ xl]:=rfl
  rw[Zj,ez]
  have ewd:aN (xr,di xr (dH d.toNat far (xr,xl)))= .tup [aC xr,.int (di xr (dH d.toNat far (xr,xl)))]:=rfl
  rw[ewd]at e9
  rw[List.map_nil]at e2
  simp only[List.cons_append]at e2
  generalize di xr (dH d.toNat far (xr,xl))=CV at *
  generalize (fG d.toNat far (done++(xr,xl)::xs)).map aC=FP at *
  generalize (gU d.toNat far (done++(xr,xl)::xs)).map cW=FG at *
  generalize (gM d.toNat far (done++(xr,xl)::xs)).map aN=FW at *
  generalize cW (qt pl (dH d.toNat far (xr,xl)).length)=GN at *
  generalize (gU d.toNat far done).map cW=GD at *
  generalize (gM d.toNat far done).map aN=WD at *
  generalize (fG d.toNat far done).map aC=PD at *
  generalize (dH d.toNat far (xr,xl)).map aC=LM at *
  generalize iQ xl=LO at *
  generalize xl.map aC=XL at *
  generalize aC xr=RW at *
  generalize xs.map zD=ZS at *
  have eL:∀G W:List D,dO (.cell (J.length+1+1+1+1+1)) (some L::none::none::some G::some W::(J++[some LM]))=some (.int ml,some L::none::none::some G::some W::(J++[some LM])):=λG W=>by simp[dO,bM,lM]
  unfold forL
  rw[if_pos ql]
  apply ul
  simp[src,e2,eL,Jo,fU,gZ,lP,lM,et,zG,rE,zP,hcm,zW,e9]
abbrev Stp:=List Int×List (Int×Int)
theorem qI{a:List Int}{i:Nat}(h:i<a.length):atI (a.map D.int) (0+(i:Int))=some (.int (a.getD i 0)):=by
 have:=(iu (ys:=a) (k:=0+(i:Int)) (by omega) (by omega)).1
 rw[this]
 congr 3
 omega
def GJ(xs:List Stp):Stp:=xs.getLastD ([],[])
theorem Jw{φ:FF}{as:List D}{L:List Int}{P:D->List Int->Prop}(h:Ok (φ as [some (L.map .int)]) (λr=>∃d L' junk,r=(d,some (List.map D.int L')::junk)/\nc d/\P d L')):∃d L',trunc φ as [some (L.map .int)]=some (d,[some (List.map D.int L')])/\P d L':=by
 obtain⟨r,e,d,L',junk,rfl,hn,hp⟩:=h
 exact⟨d,L',xY (μ':=[some (L'.map .int)]) (junk:=junk) e rfl hn jT.nil.dr,hp⟩
set_option maxHeartbeats 2000000
def ApV(d:Nat)(far:Int)(xs:List RL):D:=.tup [.lst ((fG d far xs).map aC),.lst ((gU d far xs).map cW),.tup ((gM d far xs).map aN)]
def Dg(d:Nat)(far:Int)(xs:List RL):Prop:=(∀x∈xs,XOk d x)/\Sm 100 far/\(∀k<d,(xs.map λx=>x.1.getD k 0).sum=0)/\(xs.map λx=>di x.1 x.2).sum-far*(xs.map λx=>sqV x.1).sum<0
def xn(φ:FF):Prop:=∀(L:List Int)(d m:Int),DlD L->1<=d->d<=3->2<=m->m<=5->∃(xs:List RL)(far:Int)(L':List Int),φ [.cell 0,.int d,.int m] [some (L.map .int)]=some (ApV d.toNat far xs,[some (L'.map .int)])/\DlD L'/\Dg d.toNat far xs/\(xs.length:Int)=m
theorem PtB.mono{d a b:Nat}{p:List Int}(h:PtB d a p)(hb:a<=b):PtB d b p:=⟨h.len,λn hn=>aZ (h.sm n hn) hb,h.b1,h.b2⟩
theorem CN{d:Nat}{ns:List Int}{ps:List (List Int)}(d3:d<=3)(hl:ns.length=d)(hs:∀n∈ns,Sm 21 n)(hne:ps≠[])(hp:∀p∈ps,PtB d 14 p):Sm 46 (di ns ps):=by
 unfold di
 have hne2:(ps.map λp=>-((-(dot ns p.dropLast)).fdiv (aX p)))≠[]:=by simpa using hne
 obtain⟨p,hpm,e⟩:=Zq.mp (oU _ hne2)
 rw[<-e]
 have hb1:=(hp p hpm).b1
 have sd:Sm 46 (dot ns p.dropLast):=aZ (Eo (a:=21) (b:=14) hs (λc hc=>(hp p hpm).sm c ((List.dropLast_sublist _).mem hc)) (by omega)) (by decide)
 have:=gJ (x:=-(dot ns p.dropLast)) (y:=aX p) (by omega)
 unfold Sm at *
 rw[Int.natAbs_neg]at *
 omega
theorem Hm{rs:List (List Int)}{d k:Nat}(hk:k<d):(pG rs d).getD k 0=0-(col rs k).sum:=by
 unfold pG
 rw[List.getD_eq_getElem?_getD,List.getElem?_map,List.getElem?_range hk]
 rfl
theorem CK{d:Nat}{rs:List (List Int)}(h:∀r∈rs,R2 d r){k:Nat}(hk:k<d):(col rs k).sum.natAbs<=2*rs.length:=by
 induction rs with
 |nil=>simp[col]
 |cons r rs ih=>
  have:=ih λx hx=>h x (by simp[hx])
  have e:(col (r::rs) k).sum=r.getD k 0+(col rs k).sum:=by unfold col;simp
  obtain⟨hl,hs⟩:=h r (by simp)
  obtain⟨_,m⟩:=iu (ys:=r) (k:=(k:Int)) (by omega) (by omega)
  rw[show((k:Int)).toNat=k by omega]at m
  have:=hs _ m
  rw[e,List.length_cons]
  omega
theorem Ep{d:Nat}{rs:List (List Int)}(h:∀r∈rs,R2 d r)(hl:rs.length<=9):∀r∈rs++[pG rs d],r.length=d/\∀n∈r,Sm 21 n:=λr hr=>by
 rcases Zm.mp hr with z|z
 .exact⟨(h r z).1,λn hn=>pL (b:=5) 3 (by have:=(h r z).2 n hn;omega) (by decide) |> λs=>aZ s (by decide)⟩
 .rw[List.mem_singleton.mp z]
  refine⟨by unfold pG;simp,λn hn=>?_⟩
  unfold pG at hn
  obtain⟨k,hk,rfl⟩:=Zq.mp hn
  have:=CK h (List.mem_range.mp hk)
  exact aZ (pL (b:=5) 19 (by omega) (by decide)) (by decide)
theorem Ca{d:Nat}{rs:List (List Int)}{k:Nat}(hk:k<d):((rs++[pG rs d]).map λr=>r.getD k 0).sum=0:=by
 rw[List.map_append,List.sum_append,Zj,List.map_nil,List.sum_cons,List.sum_nil,Hm hk]
 show(col rs k).sum+_=0
 omega
theorem vq{α β γ:Type}(f:α->γ):∀(a:List α)(b:List β),a.length=b.length->(a.zip b).map (λx=>f x.1)=a.map f
 | [],b,h=>by simp
 |x::a,[],h=>by simp at h
 |x::a,y::b,h=>by
  rw[List.zip_cons_cons,Zj,Zj,vq f a b (by simpa using h)]
theorem Al:∀(l:List Int)(k:Nat),l.length<=9->(∀n∈l,Sm k n)->Sm (k+9) l.sum:=λl k hl h=>aZ (vC l k h) (by omega)
theorem zm{φ1 φ2 φ3 φ4 φ5:FF}(h1:jA φ1)(h2:lA φ2)(h3:oE φ3)(h4:vV φ4)(h5:qe φ5):xn (trunc (aJ 17 (ji φ1 φ2 φ3 φ4 φ5))):=λL d m hL d1 d3 m2 m5=>by
 suffices key:∃D L',trunc (aJ 17 (ji φ1 φ2 φ3 φ4 φ5)) [.cell 0,.int d,.int m] [some (L.map .int)]=some (D,[some (L'.map .int)])/\(∃(xs:List RL)(far:Int),D=ApV d.toNat far xs/\DlD L'/\Dg d.toNat far xs/\(xs.length:Int)=m) by
  obtain⟨D,L',e,xs,far,rfl,a,b,c⟩:=key
  exact⟨xs,far,L',e,a,b,c⟩
 apply Jw (P:=λD L'=>∃(xs:List RL)(far:Int),D=ApV d.toNat far xs/\DlD L'/\Dg d.toNat far xs/\(xs.length:Int)=m)
 obtain⟨rows,L1,o4,e1,hL1,hl1,hr1⟩:=st1 h1 d1 d3 m (List.replicate 12 none) (cQ 0 (m-1).toNat) (m-1).toNat (cQ 0 (m-1).toNat) (iw ..) (by omega) L [] none hL (by simp;omega) (λr hr=>by cases hr)
 rw[List.map_nil]at e1
 rw[List.length_nil,Nat.zero_add]at hl1
 cases rows with
 |nil=>simp at hl1;omega
 |cons r0 rest=>
 obtain⟨r1,e2,hR1,hq1⟩:=st2 (m:=m) (tl:=o4::List.replicate 12 none) (L:=L1) d1 d3 hr1
 obtain⟨rows2,hrows2⟩:∃rows2,r1::rest=rows2:=⟨_,rfl⟩
 have hr2:∀r∈rows2,R2 d.toNat r:=λr hr=>by
  rw[<-hrows2]at hr
  rcases Zi.mp hr with z|z
  .rw[z];exact hR1
  .exact hr1 r (by simp[z])
 have hl2:rows2.length=(m-1).toNat:=by rw[<-hrows2,<-hl1];simp
 rw[hrows2]at e2
 have e3:=Jb (c:=1) (d:=d.toNat) (rs:=rows2) (μ:=[some (L1.map .int),some (rows2.map aC)]) rfl (by omega) (λr hr=>(hr2 r hr).1) (cQ 0 d.toNat)
 have hrd:(List.range d.toNat).map (λk:Nat=>D.int (0+(k:Int)))=cQ 0 d.toNat:=rfl
 rw[hrd]at e3
 have hr3:=Ep hr2 (by omega)
 obtain⟨rows3,hrows3⟩:∃rows3,rows2++[pG rows2 d.toNat]=rows3:=⟨_,rfl⟩
 have hl3:rows3.length=m.toNat:=by rw[<-hrows3];simp;omega
 have hcol:∀k<d.toNat,(rows3.map λr=>r.getD k 0).sum=0:=λk hk=>by rw[<-hrows3];exact Ca hk
 have hsq:1<=(rows3.map sqV).sum:=by rw[<-hrows3,<-hrows2];exact Jy (by rw[List.cons_append]) hq1
 rw[hrows3]at hr3
 have hm3:rows2.map aC++[aC (pG rows2 d.toNat)]=rows3.map aC:=by rw[<-hrows3];simp
 obtain⟨lots,L2,o6,o7,e4,hL2,hl4,hlots⟩:=st4 h1 h2 h3 d1 d3 m o4 (List.replicate 9 none) (rows3.map aC) (λt ht=>by
  obtain⟨r,_,rfl⟩:=Zq.mp ht
  exact yU r) m.toNat (rows3.map aC) (by simp[hl3]) (by omega) L1 [] none none hL1 (by simp;omega)
 rw[List.map_nil,List.nil_append]at e4
 obtain⟨xs,hxs⟩:∃xs:List RL,rows3.zip lots=xs:=⟨_,rfl⟩
 have hxl:xs.length=m.toNat:=by rw[<-hxs,List.length_zip];omega
 have hX:∀x∈xs,XOk d.toNat x:=λx hx=>by
  rw[<-hxs]at hx
  have hm:=List.of_mem_zip (a:=x.1) (b:=x.2) hx
  exact⟨(hr3 _ hm.1).1,(hr3 _ hm.1).2,hlots _ hm.2⟩
 have ez:=iy (F:=aC) (G:=iQ) rows3 lots
 rw[hxs]at ez
 have ez:jf (rows3.map aC) (lots.map iQ)=xs.map zD:=ez
 have e5:=λμ=>bK (all:=xs.map zD) (h:=gn 2 (aY (hName 0) (aY (hName 1) (gq)))) (fe:=MC (aa (ao 0) (aa (ao 1) (au))) φ4) (δb:=[none,none]) (F:=zD) (f:=λx=>.int (di x.1 x.2)) (μ:=μ) xs λx hx=>by
  obtain⟨a,b,c,c2,c3⟩:=hX x hx
  have:=h4 d.toNat x.1 x.2 μ (by omega) a b c (by omega) (λp hp=>(c3 p hp).mono (by decide))
  have:φ4 [aC x.1,iQ x.2] μ=_:=this
  have ezx:zD x= .tup [aC x.1,iQ x.2]:=rfl
  rw[ezx]
  generalize aC x.1=R at *
  generalize iQ x.2=T at *
  exact⟨[some R,some T],by simp,by simp[this]⟩
 have e5':xs.map (λx=>D.int (di x.1 x.2))=(xs.map λx=>di x.1 x.2).map D.int:=by simp
 rw[e5']at e5
 have e6:=λμ=>sum_ints μ (xs.map λx=>di x.1 x.2) 0
 simp only[Int.zero_add]at e6
 have sleast:Sm 55 (xs.map λx=>di x.1 x.2).sum:=Al _ 46 (by simp;omega) λn hn=>by
  obtain⟨x,hx,rfl⟩:=Zq.mp hn
  obtain⟨a,b,c,c2,c3⟩:=hX x hx
  exact CN (by omega) a b c c3
 have e7:=λμ=>bK (all:=rows3.map aC) (h:=hName 0) (fe:=nW (gH (mFz (lLC ["_law_one"] [] (cV (ao 0)) (hName 0) (aR) (M2 (ao 0) (ao 0) cB))))) (δb:=[none]) (F:=aC) (f:=λr=>.int (sqV r)) (μ:=μ) rows3 λr hr=>by
  have q1:=Qd r (hr3 r hr).2 (r.map D.int) μ
  have q2:=sum_ints μ (r.map λn=>n*n) 0
  rw[Int.zero_add]at q2
  have q2:_=some (sqV r,μ):=q2
  have src:srcOf (aC r) μ=some ⟨r.map .int,none⟩:=rfl
  have zz:(r.map D.int).length<=1000:=by have:=(hr3 r hr).1;simp;omega
  generalize (r.map λn=>n*n).map D.int=QD at *
  generalize r.map D.int=ND at *
  generalize aC r=R at *
  exact⟨[some R],by simp,by simp[src,zz,bU,q1,q2]⟩
 have e7':rows3.map (λr=>D.int (sqV r))=(rows3.map sqV).map D.int:=by simp
 rw[e7']at e7
 have e8:=λμ=>sum_ints μ (rows3.map sqV) 0
 simp only[Int.zero_add]at e8
 have ssq:Sm 60 (rows3.map sqV).sum:=aZ (Al _ 45 (by simp;omega) λn hn=>by
  obtain⟨r,hr,rfl⟩:=Zq.mp hn
  have:=(hr3 r hr).1
  refine aZ (vC (r.map λn=>n*n) 42 λy hy=>?_) (by simp;omega)
  obtain⟨n,hn,rfl⟩:=Zq.mp hy
  exact kh ((hr3 r hr).2 n hn) ((hr3 r hr).2 n hn)) (by decide)
 have hsum:(xs.map λx=>sqV x.1).sum=(rows3.map sqV).sum:=by rw[<-hxs,vq sqV rows3 lots (by omega)]
 have hcol2:∀k<d.toNat,(xs.map λx=>x.1.getD k 0).sum=0:=λk hk=>by
  have:=vq (λr=>r.getD k 0) rows3 lots (by omega)
  rw[hxs]at this
  rw[this]
  exact hcol k hk
 obtain⟨least,hleast⟩:∃z,(xs.map λx=>di x.1 x.2).sum=z:=⟨_,rfl⟩
 obtain⟨square,hsquare⟩:∃z,(rows3.map sqV).sum=z:=⟨_,rfl⟩
 rw[hleast]at e6 sleast
 rw[hsquare]at e8 ssq hsq hsum
 obtain⟨x,L3,ex,hx,hL3⟩:=jo h1 hL2 [none,none]
 obtain⟨f0,f1⟩:=bF (x:=x) (m:=2) (by decide)
 obtain⟨far,hfar⟩:∃z,(max 0 least).fdiv square+1+x.fmod 2=z:=⟨_,rfl⟩
 have ediv:=λμ=>jV (x:=max 0 least) (y:=square) (b:=60) μ (by omega) ssq (by decide)
 have sfar:Sm 100 far:=by
  have:=gJ (x:=max 0 least) (y:=square) (by omega)
  have hm:(max 0 least).natAbs<=least.natAbs:=by omega
  have s2:Sm 55 ((max 0 least).fdiv square):=by unfold Sm at *;omega
  have s3:Sm 55 (1+x.fmod 2):=aZ (pL (b:=2) 4 (by omega) (by decide)) (by decide)
  rw[<-hfar,Int.add_assoc]
  exact aZ (wC s2 s3) (by decide)
 have hfit:=HH hsq f0 hfar.symm
 obtain⟨J',p6,p14,p15,p16,e9⟩:=st7 h5 h4 d1 d3 sfar (xs.map zD) (L3.map .int) (some (.cell 0)) (some (.int m)) (some (.lst (rows3.map aC))) o4 (some (.lst (lots.map iQ))) o7 (some (.int least)) (some (.int square)) xs [] [] o6 none none none (λy hy=>by cases hy) hX (by simp;omega)
 rw[List.nil_append]at e9
 have n1:fG d.toNat far []=[]:=rfl
 have n2:gU d.toNat far []=[]:=rfl
 have n3:gM d.toNat far []=[]:=rfl
 rw[n1,n2,n3]at e9
 simp only[List.map_nil]at e9
 have hP:ApV d.toNat far xs= .tup [.lst ((fG d.toNat far xs).map aC),.lst ((gU d.toNat far xs).map cW),.tup ((gM d.toNat far xs).map aN)]:=rfl
 have fin:∃(xs':List RL)(far':Int),ApV d.toNat far xs=ApV d.toNat far' xs'/\DlD L3/\Dg d.toNat far' xs'/\(xs'.length:Int)=m:=⟨xs,far,rfl,hL3,⟨hX,sfar,hcol2,by rw[hleast,hsum];exact hfit⟩,by omega⟩
 have hnc:nc (ApV d.toNat far xs):=by
  rw[hP]
  refine fJ.mpr λt ht=>?_
  simp only[Zi,List.not_mem_nil,or_false]at ht
  rcases ht with rfl|rfl|rfl
  .exact ph.mpr λt ht=>by
    obtain⟨r,_,rfl⟩:=Zq.mp ht
    exact yU r
  .exact ph.mpr λt ht=>by
    obtain⟨r,_,rfl⟩:=Zq.mp ht
    exact fJ.mpr jc
  .exact fJ.mpr λt ht=>by
    obtain⟨w,_,rfl⟩:=Zq.mp ht
    exact fJ.mpr λt ht=>by
     simp only[Zi,List.not_mem_nil,or_false]at ht
     rcases ht with rfl|rfl
     .exact yU _
     .exact sU
 have zW:((gM d.toNat far xs).map aN).length<=sizeLine:=szl (by unfold gM;simp;omega)
 have rm:=rO (j:=m-1) (μ:=[some (L.map .int),some []]) (by omega) (by omega)
 have rdd:=λμ=>rO (j:=d) (μ:=μ) (by omega) (by omega)
 have zd:(cQ 0 d.toNat).length<=1000:=by rw[iw];omega
 have z2:(rows2.map aC).length<sizeLine:=Zc (by simp;omega:_<1000) (by decide)
 have z3:(rows3.map aC).length<=1000:=by simp;omega
 have zx:(xs.map zD).length<=1000:=by simp;omega
 have src3:srcOf (.cell 1) [some (L1.map D.int),some (rows3.map aC),some []]=some ⟨rows3.map aC,some 1⟩:=rfl
 have ern:aC (pG rows2 d.toNat)= .tup ((pG rows2 d.toNat).map .int):=rfl
 rw[ern]at hm3
 rw[hP]at fin hnc
 generalize (fG d.toNat far xs).map aC=FP at *
 generalize (gU d.toNat far xs).map cW=FG at *
 generalize (gM d.toNat far xs).map aN=FW at *
 generalize (pG rows2 d.toNat).map D.int=NS at *
 generalize (xs.map λx=>di x.1 x.2).map D.int=CS at *
 generalize (rows3.map sqV).map D.int=SQ at *
 generalize xs.map zD=ZD at *
 generalize rows3.map aC=RD3 at *
 generalize rows2.map aC=RD2 at *
 generalize (r0::rest).map aC=RD0 at *
 generalize lots.map iQ=LD at *
 generalize cQ 0 d.toNat=RG at *
 generalize cQ 0 (m-1).toNat=RM at *
 simp only[List.replicate]at e1 e2 e4
 apply pD
 unfold ji
 have f1:cO (.lst RD3)=some RD3:=rfl
 have f2:cO (.lst LD)=some LD:=rfl
 simp[rm,e1,e2,rdd,zd,bU,e3,fU,gZ,z2,hm3,src3,e4,f1,f2,ez,e5,zx,e6,z3,e7,e8,ex,ediv,hfar,e9,zW]
 exact⟨_,L3,⟨rfl,rfl⟩,hnc,fin⟩
set_option maxHeartbeats 1000000
theorem eight{Y1 Y2 Y3 Y4 Y5 Y6 Y7 Y8:EF}{δ:En}{μ:Mu}{d1 d2 d3 d4 d5 d6 d7 d8:D}(b1:Y1 δ μ=some (d1,μ))(b2:Y2 δ μ=some (d2,μ))(b3:Y3 δ μ=some (d3,μ))(b4:Y4 δ μ=some (d4,μ))(b5:Y5 δ μ=some (d5,μ))(b6:Y6 δ μ=some (d6,μ))(b7:Y7 δ μ=some (d7,μ))(b8:Y8 δ μ=some (d8,μ)):
 MC (aa Y1 (aa Y2 (aa Y3 (aa Y4 (aa Y5 (aa Y6 (aa Y7 (aa Y8 au)))))))) oLst δ μ=some (.lst [d1,d2,d3,d4,d5,d6,d7,d8],μ):=by
 simp only[Ru,zU,Fi,b1,b2,b3,b4,b5,b6,b7,b8,Option.bind_some]
 exact if_pos (szl (by simp))
theorem iZ{ds:List D}(h:∀d∈ds,ThV d)(hl:ds.length<=60):oA (.tup ds):=⟨fJ.mpr λd hd=>(h d hd).1.1,λes e=>by cases e;exact⟨hl,h⟩⟩
theorem GQ{ds:List D}(h:∀d∈ds,nc d):oA (.lst ds):=⟨ph.mpr h,λes e=>by cases e⟩
def WS(w:List Int×Int):Prop:=w.1≠[]/\w.1.length<=9/\(∀n∈w.1,Sm 500 n)/\Sm 500 w.2
theorem Gi{w:List Int×Int}(h:WS w):ThV (aN w):=vQ (λn hn=>aZ (h.2.2.1 n hn) (by decide)) (aZ h.2.2.2 (by decide)) (by have:=h.2.1;omega)
theorem wj{n:Int}{b:Int}(h:Sm 500 n)(hb:b.natAbs<=1000):Sm 2000 (n+b):=aZ (wC h (aZ (pL (b:=10) 1001 (by omega) (by decide)) (by decide:10<=500))) (by decide)
theorem Ky{ns:List Int}{k z:Int}(hs:∀n∈ns,Sm 500 n)(hz:Sm 2000 z):∀n∈ns.take k.toNat++[z]++ns.drop (k+1).toNat,Sm 2000 n:=λn hn=>by
 rcases Zm.mp hn with h|h
 .rcases Zm.mp h with h|h
  .exact aZ (hs n (List.mem_of_mem_take h)) (by decide)
  .rw[List.mem_singleton.mp h];exact hz
 .exact aZ (hs n (List.mem_of_mem_drop h)) (by decide)
theorem Kw{ns:List Int}{k z:Int}(h:ns.length<=9):(ns.take k.toNat++[z]++ns.drop (k+1).toNat).length<=1000:=by
 rw[List.length_append,List.length_append,List.length_take,List.length_drop]
 show min k.toNat ns.length+1+_<=1000
 omega
def wJ(φ:FF):Prop:=∀(ws:List (List Int×Int))(x:Int)(μ:Mu),2<=ws.length->ws.length<=9->(∀w∈ws,WS w)->∃th,φ [.tup (ws.map aN),.int x] μ=some (th,μ)/\oA th
theorem Dc:wJ (trunc (aJ 10 iB)):=λws x μ h2 hl hw=>by
 suffices h:Ok (trunc (aJ 10 iB) [.tup (ws.map aN),.int x] μ) (λr=>r.2=μ/\oA r.1) by
  obtain⟨⟨t,μ'⟩,e,h1,h2⟩:=h
  have h1:μ'=μ:=h1
  subst h1
  exact⟨t,e,h2⟩
 apply Eh
 apply pD
 have hpos:0<ws.length:=by omega
 obtain⟨n,hn⟩:∃n:Int,n=ws.length:=⟨_,rfl⟩
 have v14:=yF (i:=x) (j:=14) (μ:=μ) (by decide) (by decide)
 have v70:=yF (i:=x) (j:=70) (μ:=μ) (by decide) (by decide)
 obtain⟨a0,a1⟩:=bF (x:=x.fdiv 14) (m:=n) (by omega)
 have wa:=iK (x:=x.fdiv 14) (y:=n) μ (by omega)
 generalize (x.fdiv 14).fmod n=a at *
 obtain⟨eat,hm⟩:=jz (F:=aN) (l:=ws) (k:=a) (z:=([],0)) a0 (by omega)
 generalize ws.getD a.toNat ([],0)=w at *
 obtain⟨r,t⟩:=w
 obtain⟨rne,rl,rs,ts⟩:=hw _ hm
 have rl:r.length<=9:=rl
 have rs:∀n∈r,Sm 500 n:=rs
 have ts:Sm 500 t:=ts
 have rne:r≠[]:=rne
 have rpos:=List.length_pos_iff.mpr rne
 obtain⟨rn,hrn⟩:∃n:Int,n=r.length:=⟨_,rfl⟩
 obtain⟨k0,k1⟩:=bF (x:=x.fdiv 70) (m:=rn) (by omega)
 have wk:=iK (x:=x.fdiv 70) (y:=rn) μ (by omega)
 generalize (x.fdiv 70).fmod rn=k at *
 obtain⟨ek,mk⟩:=iu (ys:=r) (k:=k) k0 (by omega)
 generalize r.getD k.toNat 0=z at *
 have sz:=rs z mk
 have s1:=Bp (ds:=r.map D.int) (i:=k) (μ:=μ) k0 (by simp;omega)
 have s2:=Bu (ds:=r.map D.int) (i:=k+1) (μ:=μ) (by omega) (by simp;omega)
 have s3:=Bp (ds:=ws.map aN) (i:=a) (μ:=μ) a0 (by simp;omega)
 have s4:=Bu (ds:=ws.map aN) (i:=a+1) (μ:=μ) (by omega) (by simp;omega)
 have s5:=Bp (ds:=ws.map aN) (i:=1) (μ:=μ) (by decide) (by simp;omega)
 have tv:∀b:Int,b.natAbs<=1000->Sm 2000 (t+b):=λb hb=>wj ts hb
 have r2:∀n∈r,Sm 2000 n:=λn hn=>aZ (rs n hn) (by decide)
 have t2:Sm 2000 t:=aZ ts (by decide)
 have rl1000:r.length<=1000:=by omega
 have q1:ThV (.tup [.tup ((r.map D.int).take k.toNat++[.int (z+1)]++(r.map D.int).drop (k+1).toNat),.int t]):=by
  have:=vQ (ns:=r.take k.toNat++[z+1]++r.drop (k+1).toNat) (t:=t) (Ky rs (wj sz (by decide))) t2 (Kw rl)
  simpa using this
 have q2:ThV (.tup [.tup ((r.map D.int).take k.toNat++[.int (z-1)]++(r.map D.int).drop (k+1).toNat),.int t]):=by
  have:=vQ (ns:=r.take k.toNat++[z-1]++r.drop (k+1).toNat) (t:=t) (Ky rs (by rw[Int.sub_eq_add_neg];exact wj sz (by decide))) t2 (Kw rl)
  simpa using this
 have q3:ThV (.tup [.tup (r.map .int),.int (t+1)]):=vQ r2 (tv 1 (by decide)) rl1000
 have q4:ThV (.tup [.tup (r.map .int),.int (t-1)]):=vQ r2 (by rw[Int.sub_eq_add_neg];exact tv (-1) (by decide)) rl1000
 have nR:nc (.tup (r.map .int)):=fJ.mpr jc
 have nL:nc (.lst (r.map .int)):=ph.mpr jc
 have q5:ThV (.tup [.lst (r.map .int),.int t]):=QL (fJ.mpr (by simpa using⟨nL,sU⟩)) λa b e=>by simp at e
 have z0:Sm 2000 0:=by unfold Sm;decide
 have q6:ThV (.tup [.tup (r.map .int++[.int 0]),.int t]):=by
  have:=vQ (ns:=r++[0]) (t:=t) (λn hn=>by
   rcases Zm.mp hn with z|z
   .exact r2 n z
   .rw[List.mem_singleton.mp z];exact z0) t2 (by simp;omega)
  simpa using this
 have q7:ThV (.tup [.tup (r.map .int),.bl (t==0)]):=QC jc (by simp[nc,cLt]) (λi hi=>by
  obtain⟨j,hj,e⟩:=Zq.mp hi
  cases e
  exact r2 i hj) (λm e=>by cases e) (by simp;omega)
 have q8:ThV (.lst [.tup (r.map .int),.int t]):=QL (ph.mpr (by simpa using⟨nR,sU⟩)) λa b e=>by cases e
 have hPv:∀d∈ws.map aN,ThV d:=λd hd=>by
  obtain⟨w,hwm,rfl⟩:=Zq.mp hd
  exact Gi (hw w hwm)
 have hPl:(ws.map aN).length<=9:=by simpa using hl
 have hPn:(((ws.map aN).length:Nat):Int)=n:=by rw[Zu,hn]
 have e12:=bK (all:=ws.map aN) (h:=gn 2 (aY (hName 0) (aY (hName 1) (gq)))) (fe:=MC (aa (MC (aa (mFz (lLC ["_law_one"] [] (cV (ao 0)) (hName 0) (aR) (M2 (mC (.int 2)) (ao 0) cB))) (au)) dD) (aa (M2 (mC (.int 2)) (ao 1) cB) (au))) oTup) (δb:=[none,none]) (F:=aN) (f:=λw=>aN (w.1.map (2 * ·),2*w.2)) (μ:=μ) ws λw hwm=>by
  obtain⟨wr,wt⟩:=w
  obtain⟨c1,c2,c3,c4⟩:=hw _ hwm
  have c2:wr.length<=9:=c2
  have c3:∀n∈wr,Sm 500 n:=c3
  have c4:Sm 500 wt:=c4
  have s2':Sm 2 2:=by unfold Sm;decide
  have k1:=bK (all:=wr.map D.int) (h:=hName 0) (fe:=M2 (mC (.int 2)) (ao 0) cB) (δb:=[none]) (F:=D.int) (f:=λn=>D.int (2*n)) (μ:=μ) wr λn hn=>⟨[some (.int n)],by simp,by simp[cG (x:=2) (y:=n) μ s2' (c3 n hn) (by decide)]⟩
  have k2:=cG (x:=2) (y:=wt) μ s2' c4 (by decide)
  have ev:aN (wr.map (2 * ·),2*wt)= .tup [.tup (wr.map λn=>D.int (2*n)),.int (2*wt)]:=by unfold aN aC;rw[List.map_map];rfl
  have zz:(wr.map D.int).length<=1000:=by simp;omega
  have src:srcOf (aC wr) μ=some ⟨wr.map .int,none⟩:=rfl
  refine⟨[some (aC wr),some (.int wt)],by simp[aN],?_⟩
  dsimp only
  rw[ev]
  generalize (wr.map λn=>D.int (2*n))=A at *
  generalize wr.map D.int=B at *
  generalize aC wr=C at *
  simp[src,zz,bU,k1,k2]
 have e13:=bK (all:=ws.map aN) (h:=gn 2 (aY (hName 0) (aY (hName 1) (gq)))) (fe:=MC (aa (ao 0) (aa (M2 (ao 1) (mC (.int 1000)) bc) (au))) oTup) (δb:=[none,none]) (F:=aN) (f:=λw=>aN (w.1,w.2+1000)) (μ:=μ) ws λw hwm=>⟨[some (aC w.1),some (.int w.2)],by simp[aN],by simp[aN]⟩
 have h12:oA (.tup (ws.map λw=>aN (w.1.map (2 * ·),2*w.2))):=iZ (λd hd=>by
  obtain⟨w,hwm,rfl⟩:=Zq.mp hd
  obtain⟨c1,c2,c3,c4⟩:=hw _ hwm
  exact vQ (λn hn=>by
   obtain⟨y,hy,rfl⟩:=Zq.mp hn
   exact aZ (kh (show Sm 2 2 by unfold Sm;decide) (c3 y hy)) (by decide)) (aZ (kh (show Sm 2 2 by unfold Sm;decide) c4) (by decide)) (by simp;omega)) (by simp;omega)
 have h13:oA (.tup (ws.map λw=>aN (w.1,w.2+1000))):=iZ (λd hd=>by
  obtain⟨w,hwm,rfl⟩:=Zq.mp hd
  obtain⟨c1,c2,c3,c4⟩:=hw _ hwm
  exact vQ (λn hn=>aZ (c3 n hn) (by decide)) (wj c4 (by decide)) (show w.1.length<=1000 by omega)) (by simp;omega)
 have l12:(ws.map λw=>aN (w.1.map (2 * ·),2*w.2)).length<=9:=by simpa using hl
 have l13:(ws.map λw=>aN (w.1,w.2+1000)).length<=9:=by simpa using hl
 have ew:aN (r,t)= .tup [.tup (r.map .int),.int t]:=rfl
 rw[ew]at eat
 generalize (ws.map λw=>aN (w.1.map (2 * ·),2*w.2))=P12 at *
 generalize (ws.map λw=>aN (w.1,w.2+1000))=P13 at *
 generalize ws.map aN=P at *
 have hRn:(((r.map D.int).length:Nat):Int)=rn:=by rw[Zu,hrn]
 have hRl:(r.map D.int).length<=9:=by simpa using rl
 have hRT:((r.map D.int).take k.toNat).length<=9:=by rw[List.length_take];omega
 have hRDl:((r.map D.int).drop (k+1).toNat).length<=9:=by rw[List.length_drop];omega
 generalize (r.map D.int).take k.toNat=RT at *
 generalize (r.map D.int).drop (k+1).toNat=RD at *
 generalize r.map D.int=R at *
 have zR:R.length<=1000:=by omega
 have zR1:R.length+1<=sizeLine:=szl (by omega)
 have zA:RT.length+1<=sizeLine:=szl (by omega)
 have zB:RT.length+(RD.length+1)<=sizeLine:=szl (by omega)
 have zB':RT.length+1+RD.length<=sizeLine:=szl (by omega)
 have g6:∀o6 o7 o8 o9,(M2 (M2 (mSl (ao 3) (fNo) (fAt (ao 5))) (MC (aa (M2 (M2 (ao 3) (ao 5) oIx) (mC (.int 1)) bc) (au)) oTup) bc) (mSl (ao 3) (fAt (M2 (ao 5) (mC (.int 1)) bc)) (fNo)) bc) [some (.tup P),some (.int x),some (.int a),some (.tup R),some (.int t),some (.int k),o6,o7,o8,o9] μ=some (.tup (RT++[.int (z+1)]++RD),μ):=λo6 o7 o8 o9=>by simp[s1,s2,ek,zA,zB,zB']
 have g7:∀o6 o7 o8 o9,(M2 (M2 (mSl (ao 3) (fNo) (fAt (ao 5))) (MC (aa (M2 (M2 (ao 3) (ao 5) oIx) (mC (.int 1)) dU) (au)) oTup) bc) (mSl (ao 3) (fAt (M2 (ao 5) (mC (.int 1)) bc)) (fNo)) bc) [some (.tup P),some (.int x),some (.int a),some (.tup R),some (.int t),some (.int k),o6,o7,o8,o9] μ=some (.tup (RT++[.int (z-1)]++RD),μ):=λo6 o7 o8 o9=>by simp[s1,s2,ek,zA,zB,zB']
 generalize RT++[.int (z+1)]++RD=MR at *
 generalize RT++[.int (z-1)]++RD=LR at *
 have b1:∀o8 o9,(MC (aa (ao 6) (aa (ao 4) (au))) oTup) [some (.tup P),some (.int x),some (.int a),some (.tup R),some (.int t),some (.int k),some (.tup MR),some (.tup LR),o8,o9] μ=some (.tup [.tup MR,.int t],μ):=λo8 o9=>by simp[zR,zR1]
 have b2:∀o8 o9,(MC (aa (ao 7) (aa (ao 4) (au))) oTup) [some (.tup P),some (.int x),some (.int a),some (.tup R),some (.int t),some (.int k),some (.tup MR),some (.tup LR),o8,o9] μ=some (.tup [.tup LR,.int t],μ):=λo8 o9=>by simp[zR,zR1]
 have b3:∀o8 o9,(MC (aa (ao 3) (aa (M2 (ao 4) (mC (.int 1)) bc) (au))) oTup) [some (.tup P),some (.int x),some (.int a),some (.tup R),some (.int t),some (.int k),some (.tup MR),some (.tup LR),o8,o9] μ=some (.tup [.tup R,.int (t+1)],μ):=λo8 o9=>by simp[zR,zR1]
 have b4:∀o8 o9,(MC (aa (ao 3) (aa (M2 (ao 4) (mC (.int 1)) dU) (au))) oTup) [some (.tup P),some (.int x),some (.int a),some (.tup R),some (.int t),some (.int k),some (.tup MR),some (.tup LR),o8,o9] μ=some (.tup [.tup R,.int (t-1)],μ):=λo8 o9=>by simp[zR,zR1]
 have b5:∀o8 o9,(MC (aa (mFz (lOf (aa (ao 3) (au)))) (aa (ao 4) (au))) oTup) [some (.tup P),some (.int x),some (.int a),some (.tup R),some (.int t),some (.int k),some (.tup MR),some (.tup LR),o8,o9] μ=some (.tup [.lst R,.int t],μ):=λo8 o9=>by simp[zR,zR1]
 have b6:∀o8 o9,(MC (aa (M2 (ao 3) (MC (aa (mC (.int 0)) (au)) oTup) bc) (aa (ao 4) (au))) oTup) [some (.tup P),some (.int x),some (.int a),some (.tup R),some (.int t),some (.int k),some (.tup MR),some (.tup LR),o8,o9] μ=some (.tup [.tup (R++[.int 0]),.int t],μ):=λo8 o9=>by simp[zR,zR1]
 have b7:∀o8 o9,(MC (aa (ao 3) (aa (M2 (ao 4) (mC (.int 0)) oEq) (au))) oTup) [some (.tup P),some (.int x),some (.int a),some (.tup R),some (.int t),some (.int k),some (.tup MR),some (.tup LR),o8,o9] μ=some (.tup [.tup R,.bl (t==0)],μ):=λo8 o9=>by simp[zR,zR1]
 have b8:∀o8 o9,(MC (aa (ao 3) (aa (ao 4) (au))) oLst) [some (.tup P),some (.int x),some (.int a),some (.tup R),some (.int t),some (.int k),some (.tup MR),some (.tup LR),o8,o9] μ=some (.lst [.tup R,.int t],μ):=λo8 o9=>by simp[zR,zR1]
 have g8:∀o8 o9,(MC (aa (MC (aa (ao 6) (aa (ao 4) (au))) oTup) (aa (MC (aa (ao 7) (aa (ao 4) (au))) oTup) (aa (MC (aa (ao 3) (aa (M2 (ao 4) (mC (.int 1)) bc) (au))) oTup) (aa (MC (aa (ao 3) (aa (M2 (ao 4) (mC (.int 1)) dU) (au))) oTup) (aa (MC (aa (mFz (lOf (aa (ao 3) (au)))) (aa (ao 4) (au))) oTup) (aa (MC (aa (M2 (ao 3) (MC (aa (mC (.int 0)) (au)) oTup) bc) (aa (ao 4) (au))) oTup) (aa (MC (aa (ao 3) (aa (M2 (ao 4) (mC (.int 0)) oEq) (au))) oTup) (aa (MC (aa (ao 3) (aa (ao 4) (au))) oLst) (au))))))))) oLst) [some (.tup P),some (.int x),some (.int a),some (.tup R),some (.int t),some (.int k),some (.tup MR),some (.tup LR),o8,o9] μ=some (.lst [.tup [.tup MR,.int t],.tup [.tup LR,.int t],.tup [.tup R,.int (t+1)],.tup [.tup R,.int (t-1)],.tup [.lst R,.int t],.tup [.tup (R++[.int 0]),.int t],.tup [.tup R,.bl (t==0)],.lst [.tup R,.int t]],μ):=λo8 o9=>eight (b1 o8 o9) (b2 o8 o9) (b3 o8 o9) (b4 o8 o9) (b5 o8 o9) (b6 o8 o9) (b7 o8 o9) (b8 o8 o9)
 clear b1 b2 b3 b4 b5 b6 b7 b8
 unfold iB
 generalize MC (aa (MC (aa (ao 6) (aa (ao 4) (au))) oTup) (aa (MC (aa (ao 7) (aa (ao 4) (au))) oTup) (aa (MC (aa (ao 3) (aa (M2 (ao 4) (mC (.int 1)) bc) (au))) oTup) (aa (MC (aa (ao 3) (aa (M2 (ao 4) (mC (.int 1)) dU) (au))) oTup) (aa (MC (aa (mFz (lOf (aa (ao 3) (au)))) (aa (ao 4) (au))) oTup) (aa (MC (aa (M2 (ao 3) (MC (aa (mC (.int 0)) (au)) oTup) bc) (aa (ao 4) (au))) oTup) (aa (MC (aa (ao 3) (aa (M2 (ao 4) (mC (.int 0)) oEq) (au))) oTup) (aa (MC (aa (ao 3) (aa (ao 4) (au))) oLst) (au))))))))) oLst=X8 at *
 generalize M2 (M2 (mSl (ao 3) (fNo) (fAt (ao 5))) (MC (aa (M2 (M2 (ao 3) (ao 5) oIx) (mC (.int 1)) bc) (au)) oTup) bc) (mSl (ao 3) (fAt (M2 (ao 5) (mC (.int 1)) bc)) (fNo)) bc=X6 at *
 generalize M2 (M2 (mSl (ao 3) (fNo) (fAt (ao 5))) (MC (aa (M2 (M2 (ao 3) (ao 5) oIx) (mC (.int 1)) dU) (au)) oTup) bc) (mSl (ao 3) (fAt (M2 (ao 5) (mC (.int 1)) bc)) (fNo)) bc=X7 at *
 obtain⟨c0,c1⟩:=bF (x:=x) (m:=14) (by decide)
 have hT:∀d∈P.take a.toNat,ThV d:=λd hd=>hPv d (List.mem_of_mem_take hd)
 have hD:∀d∈P.drop (a+1).toNat,ThV d:=λd hd=>hPv d (List.mem_of_mem_drop hd)
 have lT:(P.take a.toNat).length<=9:=by rw[List.length_take];omega
 have lD:(P.drop (a+1).toNat).length<=9:=by rw[List.length_drop];omega
 have l1:(P.take (1:Int).toNat).length<=9:=by rw[List.length_take];omega
 have h1T:∀d∈P.take (1:Int).toNat,ThV d:=λd hd=>hPv d (List.mem_of_mem_take hd)
 generalize P.take a.toNat=PT at *
 generalize P.drop (a+1).toNat=PD at *
 generalize P.take (1:Int).toNat=P1 at *
 have y1:PT.length+1<=sizeLine:=szl (by omega)
 have y2:PT.length+(PD.length+1)<=sizeLine:=szl (by omega)
 have y2':PT.length+1+PD.length<=sizeLine:=szl (by omega)
 have y3:PT.length+PD.length<=sizeLine:=szl (by omega)
 have y4:P.length+P1.length<=sizeLine:=szl (by omega)
 have y5:P.length<=1000:=by omega
 have y6:P12.length<=1000:=by omega
 have y7:P13.length<=1000:=by omega
 generalize hway:x.fmod 14=way at *
 by_cases h8:way<8
 .obtain⟨th,hth,eth⟩:=wg (ds:=[.tup [.tup MR,.int t],.tup [.tup LR,.int t],.tup [.tup R,.int (t+1)],.tup [.tup R,.int (t-1)],.tup [.lst R,.int t],.tup [.tup (R++[.int 0]),.int t],.tup [.tup R,.bl (t==0)],.lst [.tup R,.int t]]) c0 (by simpa using h8)
  have hq:ThV th:=by
   simp only[Zi,List.not_mem_nil,or_false]at hth
   rcases hth with rfl|rfl|rfl|rfl|rfl|rfl|rfl|rfl<;>assumption
  have hfin:oA (.tup (PT++th::PD)):=iZ (λd hd=>by
   rcases Zm.mp hd with z|z
   .exact hT d z
   .rcases Zi.mp z with z|z
    .rw[z];exact hq
    .exact hD d z) (by simp;omega)
  generalize [D.tup [.tup MR,.int t],.tup [.tup LR,.int t],.tup [.tup R,.int (t+1)],.tup [.tup R,.int (t-1)],.tup [.lst R,.int t],.tup [.tup (R++[.int 0]),.int t],.tup [.tup R,.bl (t==0)],.lst [.tup R,.int t]]=VS at *
  simp[v14,hPn,wa,eat,v70,hRn,wk,g6,g7,g8,hway,h8,s3,s4,eth,y1,y2,y2']
  exact hfin
 .have hw:way=8∨way=9∨way=10∨way=11∨way=12∨way=13:=by omega
  generalize [D.tup [.tup MR,.int t],.tup [.tup LR,.int t],.tup [.tup R,.int (t+1)],.tup [.tup R,.int (t-1)],.tup [.lst R,.int t],.tup [.tup (R++[.int 0]),.int t],.tup [.tup R,.bl (t==0)],.lst [.tup R,.int t]]=VS at *
  rcases hw with rfl|rfl|rfl|rfl|rfl|rfl
  .simp[v14,hPn,wa,eat,v70,hRn,wk,g6,g7,g8,hway,s3,s4,y3]
   exact iZ (λd hd=>by
    rcases Zm.mp hd with z|z
    .exact hT d z
    .exact hD d z) (by simp;omega)
  .simp[v14,hPn,wa,eat,v70,hRn,wk,g6,g7,g8,hway,s5,y4]
   exact iZ (λd hd=>by
    rcases Zm.mp hd with z|z
    .exact hPv d z
    .exact h1T d z) (by simp;omega)
  .simp[v14,hPn,wa,eat,v70,hRn,wk,g6,g7,g8,hway]
   exact iZ (λd hd=>hPv d (List.mem_reverse.mp hd)) (by simp;omega)
  .simp[v14,hPn,wa,eat,v70,hRn,wk,g6,g7,g8,hway,y5]
   exact GQ λd hd=>(hPv d hd).1.1
  .simp[v14,hPn,wa,eat,v70,hRn,wk,g6,g7,g8,hway,y5,y6,bU,e12]
   exact h12
  .simp[v14,hPn,wa,eat,v70,hRn,wk,g6,g7,g8,hway,y5,y7,bU,e13]
   exact h13
end LG
namespace Lk33
open PySem PySem.Spec PyProof.Rows L2 L3 LG
theorem gcd1:Ba jB:=λa b μ=>kW (Jd a b μ)
theorem Ow:lA bw:=λx k μ h0 h1=>by
 obtain⟨r,e,h⟩:=Mt x k μ h0 h1
 exact⟨r,kW e,h⟩
theorem Bd:jA bQ:=Gk
theorem Nf:vo gG:=DR Ow
theorem Qu:qe bZ:=λns b μ h1 h2 h3 h4=>kW (Mi gcd1 ns b μ h1 h2 h3 h4)
theorem Hu:oE gK:=Et Ow DG Qu
theorem Rt:xR bC:=Ge
theorem Nz:xR fV:=Ef
theorem QK:Dh cT:=zb Rt
theorem QW(k l:Bool)(μ:Mu):iH [.bl k,.bl l] μ=some (.bl (k==l),μ):=JR k l μ
theorem sum':vD cZ:=by
 have:=Jp
 rw[<-Ha]at this
 exact this
theorem Ht:qQ fO:=by
 have:=behind_of sum' (φ2:=fu) Ds
 rw[<-xF]at this
 exact this
theorem Rr:xn gC:=zm Bd Ow Hu (FJ sum') Qu
theorem Hk:qD cI:=Dt (λd t μ h k=>HN Nz d t μ h k) Ht
theorem Nk:qD cF:=Fb Ga (λd t μ h=>Jg Ga QK Rt d t μ h) (part_of (BX Mq)) (Dd Jm)
theorem Qh:wJ iD:=Dc
theorem ask'(d:Nat)(ps gs:List (List Int))(t:D)(μ:Mu)(G:Dj d ps gs)(ht:oA t):dN [.lst (ps.map aC),.lst (gs.map cW),t] μ=some (.bl true,μ):=by
 apply bW
 have e1:=Nk d ps gs t μ G ht
 have e2:=Hk d ps gs t μ G ht
 generalize apB d ps gs t=v at *
 have e3:=QW v v μ
 generalize ps.map aC=PD at *
 generalize gs.map cW=GD at *
 unfold lz
 simp[e1,e2,e3]
theorem Mm{d:Nat}{far:Int}{xs:List RL}(d1:1<=d)(d3:d<=3)(h:Dg d far xs)(hne:xs≠[])(hl:xs.length<=9):Dj d (fG d far xs) (gU d far xs):=by
 have hlen:=vg (far:=far) h.1
 refine⟨d1,by omega,λz=>?_,λp hp=>?_,λz=>?_,by unfold gU;rw[lH];simp;omega,λg hg=>?_⟩
 .cases xs with
  |nil=>exact hne rfl
  |cons x xs=>
   obtain⟨_,_,c,_,_⟩:=h.1 x (by simp)
   have e:fG d far (x::xs)=dH d far x++fG d far xs:=by unfold fG;simp
   rw[e]at z
   have:=(List.append_eq_nil_iff.mp z).1
   unfold dH at this
   exact c (List.map_eq_nil_iff.mp this)
 .unfold fG at hp
  obtain⟨l,hlm,hpl⟩:=List.mem_flatten.mp hp
  obtain⟨x,hx,rfl⟩:=Zq.mp hlm
  obtain⟨q,hq,rfl⟩:=Zq.mp hpl
  obtain⟨a,b,_,_,c⟩:=h.1 x hx
  exact(Ac a b (c q hq) h.2.1).sp (by decide)
 .have:=congrArg List.length z
  unfold gU at this
  rw[lH]at this
  simp at this
  exact hne this
 .unfold gU at hg
  obtain⟨⟨l,hlm,e⟩,hk⟩:=yu _ _ _ hg
  obtain⟨x,hx,rfl⟩:=Zq.mp hlm
  obtain⟨_,_,_,c,_⟩:=h.1 x hx
  refine⟨by rw[e];unfold dH;rw[Zu];omega,λk hkm=>?_⟩
  have:=hk k hkm
  rw[Nat.zero_add]at this
  exact⟨by omega,this.2⟩
theorem Qq{d:Nat}{far:Int}{xs:List RL}(d1:1<=d)(d3:d<=3)(h:Dg d far xs):∀w∈gM d far xs,WS w:=λw hw=>by
 obtain⟨x,hx,rfl⟩:=Zq.mp hw
 obtain⟨a,b,c,c2,c3⟩:=h.1 x hx
 refine⟨λz=>?_,show x.1.length<=9 by omega,λn hn=>aZ (b n hn) (by decide),?_⟩
 .have z:x.1=[]:=z
  rw[z]at a
  simp at a
  omega
 .refine aZ (JK d3 a b (λz=>c ?_) λp hp=>?_) (by decide)
  .unfold dH at z
   exact List.map_eq_nil_iff.mp z
  .obtain⟨q,hq,rfl⟩:=Zq.mp hp
   exact Ac a b (c3 q hq) h.2.1
theorem Ek{d:Int}{μ:Mu}(d1:0<=d)(d3:d<=100):cB (.tup [.int 0]) (.int d) μ=some (aC (List.replicate d.toNat 0),μ):=by
 rw[Qt (ds:=[D.int 0]) d1 (by omega) (by show 1*d.toNat<=1000;omega)]
 unfold aC
 simp
theorem Js(ns:List Int)(h:ns.length<=63):∃μ',yZ [.ro (ns.map .int)] []=some (.bl true,μ'):=by
 apply JL
 obtain⟨L,eD,hL⟩:=Hc Nf ns h
 apply pD
 unfold pQ
 simp[eD,rO (j:=3) (by decide) (by decide)]
 refine mQ (λits δ μ=>∃L o2 o3 o4 o5 o6 o7 o8,DlD L/\μ=[some (L.map .int)]/\δ=[some (.ro (ns.map .int)),some (.cell 0),o2,o3,o4,o5,o6,o7,o8]) ?_ ?_ _ _ _ ⟨L,none,none,none,none,none,none,none,hL,rfl,rfl⟩
 .rintro dd rest δ μ ⟨L,o2,o3,o4,o5,o6,o7,o8,hL,rfl,rfl⟩
  obtain⟨x,L1,e1,hx,hL1⟩:=jo Bd hL []
  obtain⟨y,L2,e2,hy,hL2⟩:=jo Bd hL1 []
  obtain⟨m0,m1⟩:=bF (x:=x) (m:=3) (by decide)
  obtain⟨n0,n1⟩:=bF (x:=y) (m:=4) (by decide)
  obtain⟨d,hd⟩:∃d:Int,1+x.fmod 3=d:=⟨_,rfl⟩
  obtain⟨m,hm⟩:∃m:Int,2+y.fmod 4=m:=⟨_,rfl⟩
  obtain⟨xs,far,L3,e3,hL3,hA,hxl⟩:=Rr L2 d m hL2 (by omega) (by omega) (by omega) (by omega)
  have d1:1<=d.toNat:=by omega
  have d3:d.toNat<=3:=by omega
  have hxne:xs≠[]:=λz=>by rw[z]at hxl;simp at hxl;omega
  have G:=Mm d1 d3 hA hxne (by omega)
  have hW:=Qq d1 d3 hA
  have hwl:(gM d.toNat far xs).length=xs.length:=by unfold gM;simp
  have hpv:∀t∈(gM d.toNat far xs).map aN,ThV t:=λt ht=>by
   obtain⟨w,hwm,rfl⟩:=Zq.mp ht
   exact Gi (hW w hwm)
  have hT:oA (.tup ((gM d.toNat far xs).map aN)):=iZ hpv (by simp;omega)
  have hB:apB d.toNat (fG d.toNat far xs) (gU d.toNat far xs) (.tup ((gM d.toNat far xs).map aN))=true:=zT (b:=14) ⟨λx hx=>(hA.1 x hx).1,λx hx=>(hA.1 x hx).2.2.1,λx hx=>(hA.1 x hx).2.2.2.2⟩ hA.2.2.1 hA.2.2.2
  have e4:=Hk d.toNat (fG d.toNat far xs) (gU d.toNat far xs) _ [some (L3.map .int)] G hT
  rw[hB]at e4
  have hask:=λt μ (ht:oA t)=>ask' d.toNat (fG d.toNat far xs) (gU d.toNat far xs) t μ G ht
  have e5:=hask _ [some (L3.map .int)] hT
  have hbent:=λx μ=>Qh (gM d.toNat far xs) x μ (by omega) (by omega) hW
  obtain⟨ag,mg⟩:=jz (F:=cW) (l:=gU d.toNat far xs) (k:=0) (z:=[]) (by decide) (by have:=List.length_pos_iff.mpr G.gne;omega)
  have G1:Dj d.toNat (fG d.toNat far xs) [(gU d.toNat far xs).getD (0:Int).toNat []]:=⟨G.d1,G.d9,G.ne,G.rows,by simp,by simp,λg hg=>by rw[List.mem_singleton.mp hg];exact G.grp _ mg⟩
  have hask1:=λt μ (ht:oA t)=>ask' d.toNat (fG d.toNat far xs) [(gU d.toNat far xs).getD (0:Int).toNat []] t μ G1 ht
  rw[Zj,List.map_nil]at hask1
  obtain⟨p0,a0,el0⟩:=sI G
  obtain⟨dz,hdz⟩:∃z:Int,z=d.toNat:=⟨_,rfl⟩
  rw[<-hdz]at el0
  have ezr:=λμ=>Ek (d:=dz) (μ:=μ) (by omega) (by omega)
  have s5:=λμ=>Bp (ds:=(gM d.toNat far xs).map aN) (i:=1) (μ:=μ) (by decide) (by simp;omega)
  have hT1:oA (.tup (((gM d.toNat far xs).map aN).take (1:Int).toNat)):=iZ (λt ht=>hpv t (List.mem_of_mem_take ht)) (by rw[List.length_take];simp;omega)
  have hT0:oA (.tup [.tup [aC (List.replicate dz.toNat 0),.int (-1)]]):=iZ (λt ht=>by
   rw[List.mem_singleton.mp ht]
   exact vQ (λn hn=>by rw[List.eq_of_mem_replicate hn];unfold Sm;decide) (by unfold Sm;decide) (by simp;omega)) (by simp)
  have ner:=LK (fG d.toNat far xs)
  have hpl:=vg (far:=far) hA.1
  have zP:((fG d.toNat far xs).map aC).length<=1000:=by simp;omega
  have eAp:ApV d.toNat far xs= .tup [.lst ((fG d.toNat far xs).map aC),.lst ((gU d.toNat far xs).map cW),.tup ((gM d.toNat far xs).map aN)]:=rfl
  rw[eAp]at e3
  generalize cW ((gU d.toNat far xs).getD (0:Int).toNat [])=G0 at *
  generalize ((gM d.toNat far xs).map aN).take (1:Int).toNat=W1 at *
  generalize (fG d.toNat far xs).map aC=PD at *
  generalize (gU d.toNat far xs).map cW=GD at *
  generalize (gM d.toNat far xs).map aN=WD at *
  generalize aC (List.replicate dz.toNat 0)=ZR at *
  generalize aC p0=P0 at *
  have r8:=λμ=>rO (j:=8) (μ:=μ) (by decide) (by decide)
  simp[e1,hd,e2,hm,e3,zP,e4,e5,r8]
  refine mQ (λits δ μ=>∃L o7,DlD L/\μ=[some (L.map .int)]/\δ=[some (.ro (ns.map .int)),some (.cell 0),some dd,some (.lst PD),some (.lst GD),some (.tup WD),some (.lst PD),o7,o8]) ?_ ?_ _ _ _ ⟨L3,_,hL3,rfl,rfl⟩
  .rintro d7 rest7 δ μ ⟨L,p7,hL,rfl,rfl⟩
   obtain⟨z,L6,f1,hz,hL6⟩:=jo Bd hL []
   obtain⟨th,f2,hth⟩:=hbent z [some (L6.map .int)]
   have f3:=hask th [some (L6.map .int)] hth
   simp[f1,f2,f3]
   exact⟨L6,hL6,rfl⟩
  .rintro δ μ ⟨L,p7,hL,rfl,rfl⟩
   have f4:=hask1 _ [some (L.map .int)] hT1
   have f5:=hask1 _ [some (L.map .int)] hT0
   have s6:=s5 [some (L.map .int)]
   simp[ag,s6,f4,a0,el0,ezr,f5,ner]
   exact⟨L,hL,rfl⟩
 .rintro δ μ ⟨L,o2,o3,o4,o5,o6,o7,o8,hL,rfl,rfl⟩
  simp
end Lk33
def PySem.W.Fast.tw10189445461072696800:=0
def PySem.W.Fast.tw11009468654408569372:=0
def PySem.W.Fast.tw11279994369069025356:=0
def PySem.W.Fast.tw11631561821638235914:=0
def PySem.W.Fast.tw12348994666396248326:=0
def PySem.W.Fast.tw12373412148246835781:=0
def PySem.W.Fast.tw12397385669061299722:=0
def PySem.W.Fast.tw13171431144645087007:=0
def PySem.W.Fast.tw14335178045435580255:=0
def PySem.W.Fast.tw14934168710393210617:=0
def PySem.W.Fast.tw1575452715172398596:=0
def PySem.W.Fast.tw15860662920556765243:=0
def PySem.W.Fast.tw16138097244504829579:=0
def PySem.W.Fast.tw16567316118570100340:=0
def PySem.W.Fast.tw18043022401613213353:=0
def PySem.W.Fast.tw18121148014878998811:=0
def PySem.W.Fast.tw1947443235277031311:=0
def PySem.W.Fast.tw2045094241927212256:=0
def PySem.W.Fast.tw349065286156661454:=0
def PySem.W.Fast.tw3888222681878507444:=0
def PySem.W.Fast.tw4499937482588702571:=0
def PySem.W.Fast.tw4648047185469934821:=0
def PySem.W.Fast.tw4656977548066425605:=0
def PySem.W.Fast.tw4686839572653927765:=0
def PySem.W.Fast.tw5214317332182895290:=0
def PySem.W.Fast.tw5573235748365512680:=0
def PySem.W.Fast.tw565886456467728276:=0
def PySem.W.Fast.tw7940318160536740315:=0
def PySem.W.Fast.tw8225086824409237021:=0
def PySem.W.Fast.tw838727610858308431:=0
def PySem.W.Fast.tw8953578009458769:=0
def PySem.W.Fast.tw9938631531593665167:=0
open PySem PySem.W PyProof.Rows
set_option maxRecDepth 100000 in
set_option maxHeartbeats 0 in
theorem PySem.Challenge.cw_heapsmeet_k33_apart_by_clauses_holds : PySem.Challenge.rw_heapsmeet_k33_apart_by_clauses.Holds := by
 w_on; o_law; k_head; (case hw => w_witness2)
 k_fill
 refine L3.Do (l := PySem.Challenge.rw_heapsmeet_k33_apart_by_clauses) (n := 63) (k := 8) (x := "_law_script") (φ := Lk33.yZ) rfl (by decide) rfl ⟨rfl, by decide, by decide⟩ (λ w h Y => by first | exact PySem.W.kIn_of Y | exact PySem.W.km_in_of Y) ?F ?S
 case F =>
  intro w mg mb mean lo fa h KX G hmg
  apply Lk33.LQ KX G hmg <;> first | (apply L3.Ou <;> first | k_is | rfl) | k_is | rfl
 case S => exact λ ns hl => Lk33.Js ns hl
