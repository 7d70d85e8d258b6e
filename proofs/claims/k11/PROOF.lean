import PyProof.Rows.All
import Wide.All
import OpenK.AllK
import Wide.FinOn
import Lean
import PyProof.EqAt
import PyProof.EqKinds
import PyProof.TupleCall
import PyProof.ListRange
import PyProof.TupleOfSeq
import PyProof.Conv_int_bool
import PySem.Challenge.RW_heapsmeet_k11_whole_one_tie_of_plain_poi
set_option Elab.async false
abbrev Za:=@Option.bind_eq_some_iff
abbrev Zb:=@PySem.Heap.get?_push_of_some
abbrev Zc:=@Nat.lt_of_lt_of_le
abbrev Zd:=@List.size_toArray
abbrev Ze:=@PySem.Heap.lt_size
abbrev Zf:=@PySem.Heap.get?_push_size
abbrev Zg:=@Nat.le_refl
abbrev Zh:=@List.getElem?_eq_some_iff
abbrev Zi:=@List.mem_cons
abbrev Zj:=@List.map_cons
abbrev Zk:=@Nat.ne_of_lt
abbrev Zl:=@Nat.le_trans
abbrev Zm:=@List.mem_append
abbrev Zn:=@List.mem_append_right
abbrev Zo:=@Bool.and_eq_true
abbrev Zp:=@Option.map_eq_some_iff
abbrev Zq:=@List.mem_map
abbrev Zr:=@Bool.false_ne_true
abbrev Zs:=@List.getElem?_append_left
abbrev Zt:=@PySem.mem_of_lookup
abbrev Zu:=@List.length_map
set_option linter.all false
set_option maxRecDepth 100000
namespace L2
open PySem PySem.Spec PyProof.Rows
abbrev Key:=Sum Int Str
def MF:Key->Value->Bool
 | .inl k,v=>Value.isInt k v
 | .inr x,v=>Value.isStrOf x v
def keyH(w:World):Key->Int
 | .inl k=>hashInt k
 | .inr x=>hashStr w x
theorem dD:∀{k:Key}{v:Value},MF k v=true->(∃i t,k=Sum.inl i/\v=Value.int i t)∨(∃x t,k=Sum.inr x/\v=Value.str x t)
 | .inl i,v,h=>by
  obtain⟨t,e⟩:=Value.isInt_shape (k:=i) (v:=v) h
  exact .inl ⟨i,t,rfl,e⟩
 | .inr x,v,h=>by
  obtain⟨t,e⟩:=Value.isStrOf_shape (x:=x) (v:=v) h
  exact .inr ⟨x,t,rfl,e⟩
theorem Pu(a b:Int):decide ((Sum.inl a:Key)=Sum.inl b)=(a==b):=by
 by_cases e:a=b
 .subst e;simp
 .have h:¬(Sum.inl a:Key)=Sum.inl b:=λq=>e (Sum.inl.inj q)
  rw[decide_eq_false h]
  exact(beq_eq_false_iff_ne.mpr e).symm
theorem QK(a b:Str):decide ((Sum.inr a:Key)=Sum.inr b)=decide (a=b):=by
 by_cases e:a=b
 .subst e;simp
 .have h:¬(Sum.inr a:Key)=Sum.inr b:=λq=>e (Sum.inr.inj q)
  rw[decide_eq_false h,decide_eq_false e]
theorem Ov(a:Int)(b:Str):decide ((Sum.inl a:Key)=Sum.inr b)=false:=decide_eq_false (λq=>nomatch q)
theorem Qc(a:Str)(b:Int):decide ((Sum.inr a:Key)=Sum.inl b)=false:=decide_eq_false (λq=>nomatch q)
def xM(prog:Program)(w:World):PySem.KeyKind prog w Key where
 is:=MF
 hash:=keyH w
 inj:=λv a b ha hb=>by
  rcases dD ha with⟨i,t,rfl,rfl⟩|⟨x,t,rfl,rfl⟩
  .rcases dD hb with⟨j,u,rfl,e⟩|⟨y,u,rfl,e⟩
   .injection e with e1 _;rw[e1]
   .exact nomatch e
  .rcases dD hb with⟨j,u,rfl,e⟩|⟨y,u,rfl,e⟩
   .exact nomatch e
   .injection e with e1 _;rw[e1]
 byValue:=λk v h=>by
  rcases dD h with⟨i,t,rfl,rfl⟩|⟨x,t,rfl,rfl⟩<;>rfl
 pyHash:=λhv h=>by
  rcases dD hv with⟨i,t,rfl,rfl⟩|⟨x,t,rfl,rfl⟩
  .exact wpAny_pyHash_int h
  .exact wpAny_pyHash_str h
 eqBool:=λhu hv h=>by
  rcases dD hu with⟨i,t,rfl,rfl⟩|⟨x,t,rfl,rfl⟩
  .rcases dD hv with⟨j,u,rfl,rfl⟩|⟨y,u,rfl,rfl⟩
   .rw[Pu]at h;exact wpAny_eqBool_int h
   .rw[Ov]at h;exact SeqAt.EqAt.int_str i t y u _ _ _ _ h
  .rcases dD hv with⟨j,u,rfl,rfl⟩|⟨y,u,rfl,rfl⟩
   .rw[Qc]at h;exact SeqAt.EqAt.str_int x t j u _ _ _ _ h
   .rw[QK]at h;exact wpAny_eqBool_str h
 «strs»:=λk x t v h=>by
  rcases dD h with⟨i,u,rfl,e⟩|⟨y,u,rfl,e⟩
  .exact nomatch e
  .injection e with e1 _
   subst e1
   cases v<;>rfl
inductive V where
 |non|bl (b:Bool)|int (i:Int)|str (x:Str)|byt (b:Array UInt8)|flt (b:UInt64)|ref (a:Addr)|ty (n:String)
 deriving DecidableEq
def RelV:V->Value->Prop
 | .non,u=>u=Value.none
 | .bl b,u=>u=Value.bool b
 | .int i,u=>∃t,u=Value.int i t
 | .str x,u=>∃t,u=Value.str x t
 | .byt b,u=>∃t,u=Value.bytes b t
 | .flt b,u=>∃t,u=Value.float b t
 | .ref a,u=>u=Value.ref a
 | .ty n,u=>u=Value.type n
abbrev Vals:List V->List Value->Prop:=Paired RelV
theorem Vals.length{xs:List V}{us:List Value}(r:Vals xs us):xs.length=us.length:=Paired.length r
theorem Vals.get:∀{xs:List V}{us:List Value}{i:Nat}{x:V},Vals xs us->xs[i]? =some x->∃u,us[i]? =some u/\RelV x u
 |_,_,_,_,.nil,e=>by simp at e
 |_,_,0,_,.cons r _,e=>by simp at e;subst e;exact⟨_,rfl,r⟩
 |_,_,i+1,x,.cons _ t,e=>by
  obtain⟨u,h1,h2⟩:=Vals.get (i:=i) (x:=x) t (by simpa using e)
  exact⟨u,by simpa using h1,h2⟩
theorem Vals.set{x:V}{u:Value}(r:RelV x u):∀{xs:List V}{us:List Value}(i:Nat),Vals xs us->Vals (xs.set i x) (us.set i u)
 |_,_,_,.nil=>.nil
 |_,_,0,.cons _ t=>.cons r t
 |_,_,i+1,.cons q t=>.cons q (Vals.set r i t)
theorem Vals.append:∀{xs ys:List V}{us ws:List Value},Vals xs us->Vals ys ws->Vals (xs++ys) (us++ws)
 |_,_,_,_,.nil,s=>s
 |_,_,_,_,.cons r t,s=>.cons r (Vals.append t s)
theorem Vals.take:∀{xs:List V}{us:List Value}(n:Nat),Vals xs us->Vals (xs.take n) (us.take n)
 |_,_,0,_=>.nil
 |_,_,_+1,.nil=>.nil
 |_,_,n+1,.cons r t=>.cons r (Vals.take n t)
theorem Vals.drop:∀{xs:List V}{us:List Value}(n:Nat),Vals xs us->Vals (xs.drop n) (us.drop n)
 |_,_,0,r=>r
 |_,_,_+1,.nil=>.nil
 |_,_,n+1,.cons _ t=>Vals.drop n t
def Ut:Option V->Option Value->Prop
 |some v,some u=>RelV v u
 |none,none=>True
 |_,_=>False
def KV{κ:Type}:List (κ×V)->List (κ×Value)->Prop:=Paired λ(p:κ×V)(q:κ×Value)=>p.1=q.1/\RelV p.2 q.2
def kV:Key->V
 | .inl i=>.int i
 | .inr x=>.str x
inductive HO where
 |lst (xs:List V)
 |tup (xs:List V)
 |dK (kvs:List (Key×V))|dT (kvs:List (List Key×V))
 |set (S:Int->Bool) (n:Nat)
 |ins (C dx:Addr) (fs:List (Str×V))
 |own (x:Addr)
 |xd (fs:List (Str×V))
 |met (f x:Addr)
 |rng (lo hi:Int)
 |frz (o:Obj) (u:HO)
 |tbl (ps:Array Value)
 |ext (φ:Heap->Prop)
abbrev Hp:=Addr->Option HO
def upd(H:Hp)(a:Addr)(o:HO):Hp:=λb=>if b=a then some o else H b
theorem fK{H:Hp}{a:Addr}{o:HO}:upd H a o a=some o:=by unfold upd;rw[if_pos rfl]
theorem aM{H:Hp}{a b:Addr}{o:HO}(h:b≠a):upd H a o b=H b:=by unfold upd;rw[if_neg h]
theorem CV{H:Hp}{a b:Addr}{o u:HO}(h:H a=some o)(h':H b=some u)(d:o≠u):a≠b:=by
 intro e;subst e;rw[h]at h';exact d (Option.some.inj h')
theorem cC{H:Hp}{a b:Addr}{o:HO}(h:H a=some o)(h':H b=none):a≠b:=by
 intro e;subst e;rw[h]at h';cases h'
section
variable (P:Program) (w:World)
def jT(H:Hp)(h:Heap)(a:Addr):HO->Prop
 | .lst xs=>xs.length<=sizeLine/\∃(its:List Value)(n:Nat),Vals xs its/\h.get? a=some { cls:=.type "list",data:=.seq its.toArray n}
 | .tup xs=>xs.length<=sizeLine/\∃its:List Value,Vals xs its/\IsTup h a its.toArray
 | .dK kvs=>kvs.length<=sizeLine/\(a==sysModules)=false/\∃vs,KV kvs vs/\h.DictOf (xM P w) a vs
 | .dT kvs=>kvs.length<=sizeLine/\(a==sysModules)=false/\∃xs:List (List Key×Addr×Value),
   Paired (λ(p:List Key×V)(q:List Key×Addr×Value)=>p.1=q.1/\H q.2.1=some (.tup (p.1.map kV))/\RelV p.2 q.2.2) kvs xs/\
   ∃o es ep,h.get? a=some o/\o.ExactDict/\o.data= .dict es ep/\es.toList=xs.map (entryOfKey (tupleKind (xM P w)))/\(xs.map (·.1)).Nodup
 | .set S n=>h.SetOf (intKind P w) a S n
 | .ins C dx fs=>H dx=some (.own a)/\fs.length<=1000/\dx≠a/\h.get? a=some (PySem.W.instObj C dx)/\
   ∃mA,h.Ns1 dx mA/\(∀f,Ut (fs.lookup f) (mA f))/\PySem.Within mA (fs.map (·.1))
 | .own _=>∃o,h.get? a=some o
 | .xd fs=>∃mA,h.Ns1 a mA/\∀f,Ut (fs.lookup f) (mA f)
 | .rng lo hi=>∃t u v,h.get? a=some { cls:=.type "range",data:=.fields #[.int lo t,.int hi u,.int 1 v] }
 | .frz o u=>h.get? a=some o/\jT H h a u
 | .tbl ps=>h.get? a=some { cls:=.none,data:=.fields ps}
 | .met f x=>h.get? a=some (PySem.W.methodObj (.ref f) (.ref x))
 | .ext φ=>φ h/\(∃o,h.get? a=some o)/\∀h1 h2:Heap,φ h1->(∀o,h1.get? a=some o->h2.get? a=some o)->φ h2
def HOk(H:Hp)(h:Heap):Prop:=∀a o,H a=some o->jT P w H h a o
end
section
variable {P:Program} {w:World} {H H':Hp} {h h':Heap} {a:Addr} {o:HO}
theorem jT.lt(x:jT P w H h a o):a<h.objs.size:=by
 cases o with
 |lst xs=>obtain⟨_,_,_,_,e⟩:=x;exact Ze e
 |tup xs=>obtain⟨_,_,_,p⟩:=x;exact p.lt
 |dK kvs=>obtain⟨_,_,_,_,o,_,_,e,_⟩:=x;exact Ze e
 |dT kvs=>obtain⟨_,_,_,_,o,_,_,e,_⟩:=x;exact Ze e
 |set S n=>obtain⟨o,_,_,_,e,_⟩:=x;exact Ze e
 |ins C dx fs=>obtain⟨_,_,_,e,_⟩:=x;exact Ze e
 |own y=>obtain⟨_,e⟩:=x;exact Ze e
 |xd fs=>obtain⟨_,⟨_,_,_,e,_⟩,_⟩:=x;exact Ze e
 |rng lo hi=>obtain⟨_,_,_,e⟩:=x;exact Ze e
 |frz ob u=>obtain⟨e,_⟩:=x;exact Ze e
 |tbl ps=>exact Ze (show h.get? a=some _ from x)
 |met f y=>exact Ze (show h.get? a=some _ from x)
 |ext φ=>obtain⟨_,⟨_,e⟩,_⟩:=x;exact Ze e
theorem Paired.mapP{α β:Type}{F G:α->β->Prop}:∀{l₁:List α}{l₂:List β},Paired F l₁ l₂->(∀a b,F a b->G a b)->Paired G l₁ l₂
 |_,_,.nil,_=>.nil
 |_,_,.cons r t,f=>.cons (f _ _ r) (Paired.mapP t f)
theorem jT.stay(x:jT P w H h a o)(k:∀b u,(b=a∨H b=some (.own a))->h.get? b=some u->h'.get? b=some u)
  (ho:∀b,H b=some (.own a)->H' b=some (.own a)) (ht:∀b xs,H b=some (.tup xs)->H' b=some (.tup xs)):jT P w H' h' a o:=by
 induction o with
 |lst xs=>obtain⟨z,its,n,r,e⟩:=x;exact⟨z,its,n,r,k _ _ (.inl rfl) e⟩
 |tup xs=>obtain⟨z,its,r,ob,e,c⟩:=x;exact⟨z,its,r,ob,k _ _ (.inl rfl) e,c⟩
 |dK kvs=>obtain⟨z,y,vs,r,ob,es,ep,e,c⟩:=x;exact⟨z,y,vs,r,ob,es,ep,k _ _ (.inl rfl) e,c⟩
 |dT kvs=>
  obtain⟨z,y,xs,r,ob,es,ep,e,c⟩:=x
  exact⟨z,y,xs,Paired.mapP r λp q z=>⟨z.1,ht _ _ z.2.1,z.2.2⟩,ob,es,ep,k _ _ (.inl rfl) e,c⟩
 |set S n=>obtain⟨ob,es,ep,t,e,c⟩:=x;exact⟨ob,es,ep,t,k _ _ (.inl rfl) e,c⟩
 |ins C dx fs=>
  obtain⟨d,z,ne,e,mA,⟨od,es,ep,e2,c⟩,r⟩:=x
  exact⟨ho _ d,z,ne,k _ _ (.inl rfl) e,mA,⟨od,es,ep,k _ _ (.inr d) e2,c⟩,r⟩
 |own y=>obtain⟨ob,e⟩:=x;exact⟨ob,k _ _ (.inl rfl) e⟩
 |xd fs=>obtain⟨mA,⟨od,es,ep,e,c⟩,r⟩:=x;exact⟨mA,⟨od,es,ep,k _ _ (.inl rfl) e,c⟩,r⟩
 |rng lo hi=>obtain⟨t,u,v,e⟩:=x;exact⟨t,u,v,k _ _ (.inl rfl) e⟩
 |frz ob u ih=>obtain⟨e,q⟩:=x;exact⟨k _ _ (.inl rfl) e,ih q⟩
 |tbl ps=>
  have e:h.get? a=some { cls:=.none,data:=.fields ps}:=x
  show h'.get? a=some { cls:=.none,data:=.fields ps}
  exact k a _ (.inl rfl) e
 |met f y=>
  have e:h.get? a=some (PySem.W.methodObj (.ref f) (.ref y)):=x
  show h'.get? a=some (PySem.W.methodObj (.ref f) (.ref y))
  exact k a _ (.inl rfl) e
 |ext φ=>obtain⟨p,⟨o,e⟩,st⟩:=x;exact⟨st _ _ p λo q=>k _ _ (.inl rfl) q,⟨o,k _ _ (.inl rfl) e⟩,st⟩
theorem HOk.lt(x:HOk P w H h)(e:H a=some o):a<h.objs.size:=(x a o e).lt
theorem HOk.fresh(x:HOk P w H h)(e:h.objs.size<=a):H a=none:=by
 cases q:H a with
 |none=>rfl
 |some u=>exact absurd (Zc (x.lt q) e) (Nat.lt_irrefl _)
theorem HOk.kept(x:HOk P w H h)(k:∀b u,h.get? b=some u->h'.get? b=some u):HOk P w H h':=λa o e=>
 (x a o e).stay (λb u _ q=>k b u q) (λ_ q=>q) λ_ _ q=>q
theorem HOk.laid(x:HOk P w H h)(k:∀b u,h.get? b=some u->h'.get? b=some u)(hp:h.objs.size<=a)(new:jT P w (upd H a o) h' a o):HOk P w (upd H a o) h':=λb u e=>by
 have hn:=x.fresh hp
 by_cases hb:b=a
 .subst hb;rw[fK]at e;cases e;exact new
 .rw[aM hb]at e
  exact(x b u e).stay (λc v _ q=>k c v q) (λc q=>by rw[aM (cC q hn)];exact q) λc xs q=>by rw[aM (cC q hn)];exact q
end
def Rd(H:Hp)(a:Addr)(u:HO):Prop:=H a=some u∨∃o,H a=some (.frz o u)
theorem Rd.ok{P:Program}{w:World}{H:Hp}{h:Heap}{a:Addr}{u:HO}(r:Rd H a u)(x:HOk P w H h):jT P w H h a u:=by
 rcases r with r|⟨o,r⟩
 .exact x a u r
 .obtain⟨_,q⟩:=x a _ r
  exact q
def Mut:Option HO->Prop
 |some (.lst _)=>True
 |some (.dK _)=>True
 |some (.dT _)=>True
 |some (.set _ _)=>True
 |some (.ins _ _ _)=>True
 |some (.ext _)=>True
 |_=>False
section
variable {P:Program} {w:World} {H:Hp} {h h':Heap} {x e:Addr} {o':HO}
theorem HOk.write(ok:HOk P w H h)(mu:Mut (H x))(he:e=x∨H e=some (.own x))(k:∀b u,b≠e->h.get? b=some u->h'.get? b=some u)(heo:∃u,h'.get? e=some u)
  (new:jT P w (upd H x o') h' x o'):HOk P w (upd H x o') h':=λb u q=>by
 have nown:∀c y,H c=some (.own y)->c≠x:=λc y r z=>by subst z;rw[r]at mu;exact mu
 have ntup:∀c xs,H c=some (.tup xs)->c≠x:=λc xs r z=>by subst z;rw[r]at mu;exact mu
 by_cases hb:b=x
 .subst hb;rw[fK]at q;cases q;exact new
 .rw[aM hb]at q
  by_cases hbe:b=e
  .have q':H b=some (.own x):=by
    rcases he with z|z
    .exact absurd (hbe.trans z) hb
    .rw[hbe];exact z
   rw[q]at q';cases q'
   obtain⟨v,hv⟩:=heo
   exact⟨v,by rw[hbe];exact hv⟩
  .refine(ok b u q).stay (λc v hc r=>k c v ?_ r) (λc r=>by rw[aM (nown c b r)];exact r) λc xs r=>by rw[aM (ntup c xs r)];exact r
   rcases hc with rfl|hc
   .exact hbe
   .rintro rfl
    rcases he with z|z
    .exact nown c b hc z
    .rw[hc]at z;cases z;exact hb rfl
end
structure Un(fs ex:List Addr)(H H':Hp)(h h':Heap):Prop where
 keep:∀b o,h.get? b=some o->H b=none->b∉fs->b∉ex->h'.get? b=some o
 slot:∀b o,h.get? b=some o->H b=none->b∈fs->b∉ex->∃sl,h'.get? b=some { o with slots:=sl}
 free:∀b o,h.get? b=some o->H b=none->b∉ex->H' b=none
 there:∀b o,h.get? b=some o->b∉ex->∃o',h'.get? b=some o'
 tups:∀b xs,H b=some (.tup xs)->H' b=some (.tup xs)
 frzs:∀b o u,H b=some (.frz o u)->H' b=some (.frz o u)
 tbls:∀b ps,H b=some (.tbl ps)->∃more,H' b=some (.tbl (ps++more))
section
variable {fs fs' ex ex':List Addr} {H H1 H2:Hp} {h h1 h2 h':Heap} {a x e:Addr} {o:HO}
theorem Un.any(u:Un fs ex H H1 h h1){b:Addr}{ob:Obj}(q:h.get? b=some ob)(n:H b=none)(hx:b∉ex):∃sl,h1.get? b=some { ob with slots:=sl}:=by
 by_cases hb:b∈fs
 .exact u.slot b ob q n hb hx
 .exact⟨ob.slots,u.keep b ob q n hb hx⟩
theorem Un.kept(k:∀b u,h.get? b=some u->h'.get? b=some u):Un fs ex H H h h':=
 ⟨λb ob q _ _ _=>k b ob q,λb ob q _ _ _=>⟨ob.slots,k b ob q⟩,λ_ _ _ n _=>n,λb ob q _=>⟨ob,k b ob q⟩,λ_ _ q=>q,λ_ _ _ q=>q,λ_ ps q=>⟨#[],by rw[q];simp⟩⟩
theorem Un.refl:Un fs ex H H h h:=Un.kept λ_ _ q=>q
theorem Un.laid(k:∀b u,h.get? b=some u->h'.get? b=some u)(hp:h.objs.size<=a)(hn:H a=none):Un fs ex H (upd H a o) h h' where
 keep:=λb u q _ _ _=>k b u q
 slot:=λb u q _ _ _=>⟨u.slots,k b u q⟩
 free:=λb u q n _=>by rw[aM (Zk (Zc (Ze q) hp))];exact n
 there:=λb u q _=>⟨u,k b u q⟩
 tups:=λb xs q=>by rw[aM (cC q hn)];exact q
 frzs:=λb u xs q=>by rw[aM (cC q hn)];exact q
 tbls:=λb ps q=>⟨#[],by rw[aM (cC q hn),q];simp⟩
theorem Un.write(mu:Mut (H x))(he:e=x∨H e=some (.own x))(k:∀b u,b≠e->h.get? b=some u->h'.get? b=some u)(heo:∃u,h'.get? e=some u):Un fs ex H (upd H x o) h h':=by
 have hx:∀b,H b=none->b≠x:=λb n z=>by subst z;rw[n]at mu;exact mu
 have hb:∀b,H b=none->b≠e:=λb n z=>by
  subst z
  rcases he with r|r
  .exact hx b n r
  .rw[n]at r;cases r
 have hm:∀b u,H b=some u->¬Mut (some u)->b≠x:=λb u q nm z=>by subst z;rw[q]at mu;exact nm mu
 refine⟨λb u q n _ _=>k b u (hb b n) q,λb u q n _ _=>⟨u.slots,k b u (hb b n) q⟩,λb u q n _=>by rw[aM (hx b n)];exact n,λb u q _=>?_,
  λb xs q=>by rw[aM (hm b _ q λz=>z)];exact q,λb u xs q=>by rw[aM (hm b _ q λz=>z)];exact q,λb ps q=>⟨#[],by rw[aM (hm b _ q λz=>z),q];simp⟩⟩
 by_cases hbe:b=e
 .subst hbe;exact heo
 .exact⟨u,k b u hbe q⟩
end
def trk(h:Heap)(H:Hp):List Addr:=(List.range h.objs.size).filter λa=>(H a).isSome
def xR(h:Heap)(H:Hp):Heap:=PySem.W.hideAll h (trk h H)
theorem DY(h:Heap)(H:Hp):(xR h H).objs.size=h.objs.size:=PySem.W.hideAll_size _ _
theorem Ia{h:Heap}{H:Hp}{b:Addr}{o:Obj}(e:h.get? b=some o)(n:H b=none):(xR h H).get? b=some o:=
 PySem.W.hideAll_get _ e λhm=>by
  have q:(H b).isSome=true:=(List.mem_filter.mp hm).2
  rw[n]at q;simp at q
theorem Kh{h:Heap}{H:Hp}{b:Addr}{o:Obj}(e:(xR h H).get? b=some o):h.get? b=some o/\H b=none:=by
 have e':h.get? b=some o:=PySem.W.of_hideAll (trk h H) e
 refine⟨e',?_⟩
 cases q:H b with
 |none=>rfl
 |some x=>
  have hm:b∈trk h H:=List.mem_filter.mpr ⟨List.mem_range.mpr (Ze e'),by simp[q]⟩
  have z:(xR h H).get? b=none:=PySem.W.hideAll_none (trk h H) hm
  rw[z]at e;cases e
def JQ(g h:Heap)(L:Addr):List (Addr×Obj):=(List.range h.objs.size).filterMap λa=>if a=L∨(g.get? a).isSome=true then none else(h.get? a).map λo=>(a,o)
def rest(g h:Heap)(L d:Addr):List (Addr×Obj):=(JQ g h L).filter λp=>decide (p.1≠d)
structure Mod(K:PySem.W.Frag)(mg:Str->Option Value)(base:Heap):Prop where
 kin:K.In base
 glob:base.Ns mainGlobals mg
 blt:∃mb,base.Ns builtinsNs mb/\∀x:Str,x≠"__name__"->mb x=bootBuiltins x
 nolimit:base.NoLimit
 bmain:∃bm ob,mg "__builtins__"=some (.ref bm)/\bm≠builtinsNs/\base.get? bm=some ob/\ob.cls= .type "module"/\ob.dict=some builtinsNs/\ob.data= .plain
structure Cx where
 prog:Program
 w:World
 K:PySem.W.Frag
 mg:Str->Option Value
 base:Heap
 A:Around
 N:List Str
 s₀:Shared
 H₀:Hp
 env:Env
 outer:List Env
 stack:List Env
 ex:List Addr
 fn:Str->Bool
 calm:Bool
 pn:List (Addr×Obj)
 xe:Value->Shared->Prop
def frs(l:List Env):List Addr:=l.filterMap (·.frame)
abbrev Cx.fs(X:Cx):List Addr:=frs X.outer
def Vis(sc:Scope)(x:Str):Prop:=sc.names.lookup x=some .local∨sc.names.lookup x=some .cell∨sc.names.lookup x=some .free
def Loc(sc:Scope)(x:Str):Prop:=sc.names.lookup x=some .local∨sc.names.lookup x=some .cell
def Look(env:Env)(h:Heap)(m:Str->Option Value)(x:Str)(u:Value):Prop:=
 (env.kindOf x=some .local/\m x=some u)∨((env.kindOf x=some .cell∨env.kindOf x=some .free)/\∃c,env.cells.lookup x=some c/\h.IsCell c (some u))
structure Cx.Ok(X:Cx):Prop where
 mod:Mod X.K X.mg X.base
 kind:X.env.scope.kind= .function
 glob:X.env.globals=mainGlobals
 blt:X.env.builtins=builtinsNs
 above:X.s₀.heap.objs.size<=X.env.locals
 inj:∀x y c,X.env.cells.lookup x=some c->X.env.cells.lookup y=some c->x=y
 has:∀x,(X.env.kindOf x=some .cell∨X.env.kindOf x=some .free)->∃c,X.env.cells.lookup x=some c
 cab:∀x c,X.fn x=true->X.env.cells.lookup x=some c->X.s₀.heap.objs.size<=c
 hd:X.calm=true->X.A.handled=none
 frames:X.A.frames=some X.stack
 stk:X.stack=X.outer∨(X.stack=X.env::X.outer/\X.env.frame=some X.env.locals)
 exf:∀b∈X.ex,b≠X.env.locals/\∀x c,X.env.cells.lookup x=some c->c≠b
 bs:∀b o,X.base.get? b=some o->X.s₀.heap.get? b=some o/\X.H₀ b=none
 bsz:X.base.objs.size<=X.s₀.heap.objs.size
 noex:∀b o,X.base.get? b=some o->b∉X.ex
 exfs:∀b∈X.ex,b∉X.fs
 funs:X.s₀.heap.FunFrames X.base X.outer
 frf:∀b∈X.fs,X.H₀ b=none
structure GK(a b:Array GenState):Prop where
 bare:AllBare b
 kept:∀(k:Nat)(g:GenState),a[k]? =some g->b[k]? =some g
theorem GK.refl{a:Array GenState}(h:AllBare a):GK a a:=⟨h,λ_ _ e=>e⟩
theorem GK.trans{a b c:Array GenState}(x:GK a b)(y:GK b c):GK a c:=⟨y.bare,λk g e=>y.kept k g (x.kept k g e)⟩
theorem GK.again{a b:Array GenState}(x:GK a b):GK b b:=GK.refl x.bare
structure Inv(X:Cx)(pins:List (Addr×Obj))(σ:List (Option V))(H:Hp)(s:Shared):Prop where
 ok:X.Ok
 os:s.os=X.s₀.os
 bare:GK X.s₀.gens s.gens
 base:Un X.fs X.ex X.H₀ H X.s₀.heap s.heap
 loc:∃m,s.heap.Ns X.env.locals m/\∀(i:Nat)(x:Str)(v:V),X.N[i]? =some x->σ[i]? =some (some v)->Vis X.env.scope x->∃u,RelV v u/\Look X.env s.heap m x u
 cell:∀x c,X.env.cells.lookup x=some c->∃v,s.heap.IsCell c v
 free:H X.env.locals=none
 freeC:∀x c,X.env.cells.lookup x=some c->H c=none
 pin:∀p∈X.pn++pins,s.heap.get? p.1=some p.2/\H p.1=none/\p.1≠X.env.locals/\p.1∉X.fs/\∀v,p.2.data≠ .cell v
 hok:HOk X.prog X.w H s.heap
 len:σ.length=X.N.length
section
variable {X:Cx} {pins:List (Addr×Obj)} {σ:List (Option V)} {H H':Hp} {s:Shared} {h':Heap}
theorem Cx.Ok.nofr(ok:X.Ok){b:Addr}{o:Obj}(e:X.base.get? b=some o):b∉X.fs:=λhb=>by
 have:=(ok.funs.mem hb).1
 rw[e]at this;cases this
theorem Inv.bs(I:Inv X pins σ H s):∀b o,X.base.get? b=some o->s.heap.get? b=some o/\H b=none:=λb o e=>
 ⟨I.base.keep b o (I.ok.bs b o e).1 (I.ok.bs b o e).2 (I.ok.nofr e) (I.ok.noex b o e),I.base.free b o (I.ok.bs b o e).1 (I.ok.bs b o e).2 (I.ok.noex b o e)⟩
theorem Inv.bk(I:Inv X pins σ H s):∀b o,X.base.get? b=some o->s.heap.get? b=some o:=λb o e=>(I.bs b o e).1
theorem Inv.mod(I:Inv X pins σ H s):Mod X.K X.mg X.base:=I.ok.mod
theorem Inv.kIn(I:Inv X pins σ H s):X.K.In s.heap:=I.ok.mod.kin.keeps I.bk
theorem Inv.nolimit(I:Inv X pins σ H s):s.heap.NoLimit:=I.ok.mod.nolimit.keeps I.bk
theorem Inv.fr(I:Inv X pins σ H s):∃m,Fr X.base X.env.locals s.heap m:=
 let⟨m,hn,_⟩:=I.loc
 ⟨m,hn,I.bk,Zl I.ok.bsz I.ok.above⟩
theorem Inv.lt(I:Inv X pins σ H s):X.env.locals<s.heap.objs.size:=let⟨_,hn,_⟩:=I.loc;hn.lt
theorem Inv.sz(I:Inv X pins σ H s):X.s₀.heap.objs.size<=s.heap.objs.size:=Zl I.ok.above (Nat.le_of_lt I.lt)
theorem Inv.nofs(I:Inv X pins σ H s){a:Addr}(h:s.heap.objs.size<=a):a∉X.fs:=λhb=>by
 obtain⟨_,o,ho,_⟩:=I.ok.funs.mem hb
 exact absurd (Zc (Ze ho) (Zl I.sz h)) (Nat.lt_irrefl _)
theorem Inv.cne(I:Inv X pins σ H s):∀x c,X.env.cells.lookup x=some c->c≠X.env.locals:=λx c e z=>by
 obtain⟨v,o,ho,hd⟩:=I.cell x c e
 obtain⟨m,⟨o',es,ep,ho',hd',_⟩,_⟩:=I.loc
 rw[z,ho']at ho;cases ho;rw[hd']at hd;cases hd
theorem Inv.funs(I:Inv X pins σ H s):s.heap.FunFrames X.base X.outer:=by
 have all:∀(l:List Env),(∀b∈frs l,b∈X.fs)->X.s₀.heap.FunFrames X.base l->s.heap.FunFrames X.base l:=by
  intro l
  induction l with
  |nil=>intro _ _;trivial
  |cons env r ih=>
   intro hs hl
   obtain⟨hk,⟨L,o,hf,hn,ho,hd⟩,hr⟩:=hl
   have hL:L∈X.fs:=hs L (by unfold frs;rw[List.filterMap_cons,hf];exact List.mem_cons_self)
   obtain⟨sl,e⟩:=I.base.slot L o ho (I.ok.frf L hL) hL λz=>I.ok.exfs L z hL
   exact⟨hk,⟨L,_,hf,hn,e,hd⟩,ih (λb hb=>hs b (by unfold frs;rw[List.filterMap_cons,hf];exact List.mem_cons_of_mem _ hb)) hr⟩
 exact all X.outer (λ_ hb=>hb) I.ok.funs
theorem Inv.stack(I:Inv X pins σ H s):s.heap.FunFrames X.base X.stack:=by
 rcases I.ok.stk with e|⟨e,hf⟩
 .rw[e];exact I.funs
 .rw[e]
  obtain⟨m,hn,_⟩:=I.loc
  refine .cons (by rw[I.ok.kind];decide) hf hn ?_ I.funs
  exact Heap.get?_none_of_le (Zl I.ok.bsz I.ok.above)
theorem Inv.stkSub(I:Inv X pins σ H s):∀b∈frs X.stack,b∈X.env.locals::X.fs:=λb hb=>by
 rcases I.ok.stk with e|⟨e,hf⟩
 .rw[e]at hb;exact List.mem_cons_of_mem _ hb
 .rw[e]at hb
  unfold frs at hb
  rw[List.filterMap_cons,hf]at hb
  exact hb
theorem Inv.stkFree(I:Inv X pins σ H s):∀b∈frs X.stack,H b=none:=λb hb=>by
 rcases Zi.mp (I.stkSub b hb)with e|hb
 .rw[e];exact I.free
 .obtain⟨_,o,ho,_⟩:=I.ok.funs.mem hb
  exact I.base.free b o ho (I.ok.frf b hb) λz=>I.ok.exfs b z hb
theorem Inv.step{g':Array GenState}{t':Nat}{d':Drawn}{ch:List Addr}(I:Inv X pins σ H s)
  (hch:∀b∈ch,(b∈X.ex∨X.s₀.heap.objs.size<=b)/\b≠X.env.locals/\(∀x c,X.env.cells.lookup x=some c->c≠b)/\∀p∈X.pn++pins,p.1≠b)
  (keep:∀b o,b≠X.env.locals->b∉X.fs->b∉ch->s.heap.get? b=some o->H b=none->h'.get? b=some o)
  (slot:∀b o,b≠X.env.locals->b∈X.fs->b∉ch->s.heap.get? b=some o->H b=none->∃sl,h'.get? b=some { o with slots:=sl}) (free:∀b o,b∉ch->s.heap.get? b=some o->H b=none->H' b=none)
  (there:∀b o,b∉ch->s.heap.get? b=some o->∃o',h'.get? b=some o')
  (tups:∀b xs,H b=some (.tup xs)->H' b=some (.tup xs)) (frzs:∀b o u,H b=some (.frz o u)->H' b=some (.frz o u)) (tbls:∀b ps,H b=some (.tbl ps)->∃more,H' b=some (.tbl (ps++more)))
  (ns:∀m,s.heap.Ns X.env.locals m->h'.Ns X.env.locals m) (hok:HOk X.prog X.w H' h') (hg:GK s.gens g'):
  Inv X pins σ H' { s with heap:=h',gens:=g',drawn:=d',toks:=t'}:=by
 have neL:∀b o,X.s₀.heap.get? b=some o->b≠X.env.locals:=λb o e=>Zk (Zc (Ze e) I.ok.above)
 have neC:∀b o,X.s₀.heap.get? b=some o->b∉X.ex->b∉ch:=λb o e hx hb=>by
  rcases(hch b hb).1 with z|z
  .exact hx z
  .exact absurd (Zc (Ze e) z) (Nat.lt_irrefl _)
 have cellK:∀x c,X.env.cells.lookup x=some c->∀v,s.heap.IsCell c v->h'.IsCell c v:=λx c e v zq1=>by
  obtain⟨o,ho,hd⟩:=zq1
  have nch:c∉ch:=λz=>(hch c z).2.2.1 x c e rfl
  by_cases hc:c∈X.fs
  .obtain⟨sl,q⟩:=slot c o (I.cne x c e) hc nch ho (I.freeC x c e)
   exact⟨_,q,hd⟩
  .exact⟨o,keep c o (I.cne x c e) hc nch ho (I.freeC x c e),hd⟩
 refine⟨I.ok,I.os,I.bare.trans hg,⟨λb o e n hb hx=>?_,λb o e n hb hx=>?_,λb o e n hx=>?_,λb o e hx=>?_,λb xs e=>tups b xs (I.base.tups b xs e),λb o xs e=>frzs b o xs (I.base.frzs b o xs e),λb ps e=>?_⟩,?_,λx c e=>?_,?_,λx c e=>?_,λp hp=>?_,hok,I.len⟩
 .exact keep b o (neL b o e) hb (neC b o e hx) (I.base.keep b o e n hb hx) (I.base.free b o e n hx)
 .obtain⟨sl,e1⟩:=I.base.slot b o e n hb hx
  obtain⟨sl',e2⟩:=slot b _ (neL b o e) hb (neC b o e hx) e1 (I.base.free b o e n hx)
  exact⟨sl',e2⟩
 .obtain⟨o',e1⟩:=I.base.there b o e hx
  exact free b o' (neC b o e hx) e1 (I.base.free b o e n hx)
 .obtain⟨o',e1⟩:=I.base.there b o e hx
  exact there b o' (neC b o e hx) e1
 .obtain⟨m1,e1⟩:=I.base.tbls b ps e
  obtain⟨m2,e2⟩:=tbls b _ e1
  exact⟨m1++m2,by rw[e2,Array.append_assoc]⟩
 .obtain⟨m,hn,hl⟩:=I.loc
  refine⟨m,ns m hn,λi x v e1 e2 e3=>?_⟩
  obtain⟨u,r,l⟩:=hl i x v e1 e2 e3
  refine⟨u,r,?_⟩
  rcases l with l|⟨k,c,e,z⟩
  .exact .inl l
  .exact .inr ⟨k,c,e,cellK x c e _ z⟩
 .obtain⟨v,z⟩:=I.cell x c e
  exact⟨v,cellK x c e v z⟩
 .obtain⟨m,⟨o,_,_,ho,_⟩,_⟩:=I.loc
  exact free _ o (λz=>(hch _ z).2.1 rfl) ho I.free
 .obtain⟨v,o,ho,hd⟩:=I.cell x c e
  exact free c o (λz=>(hch c z).2.2.1 x c e rfl) ho (I.freeC x c e)
 .obtain⟨e,n,ne,nf,d⟩:=I.pin p hp
  have nch:p.1∉ch:=λz=>(hch p.1 z).2.2.2 p hp rfl
  exact⟨keep p.1 p.2 ne nf nch e n,free p.1 p.2 nch e n,ne,nf,d⟩
theorem Inv.un{t':Nat}(I:Inv X pins σ H s)(u:Un X.fs [] H H' s.heap h')(hok:HOk X.prog X.w H' h'):Inv X pins σ H' { s with heap:=h',toks:=t'}:=by
 obtain⟨m,⟨o,es,ep,ho,r⟩,_⟩:=id I.loc
 obtain⟨sl,hL⟩:=u.any ho I.free (by simp)
 exact I.step (g':=s.gens) (d':=s.drawn) (ch:=[]) (λ_ z=>nomatch z) (λb o _ hb _ e n=>u.keep b o e n hb (by simp)) (λb o _ hb _ e n=>u.slot b o e n hb (by simp)) (λb o _ e n=>u.free b o e n (by simp)) (λb o _ e=>u.there b o e (by simp)) u.tups u.frzs u.tbls (λm' hm=>by
  obtain⟨o',es',ep',ho',r'⟩:=hm
  rw[ho]at ho';cases ho'
  exact⟨_,es',ep',hL,r'⟩) hok I.bare.again
theorem Inv.call{g':Array GenState}{t':Nat}{d':Drawn}{ch:List Addr}(I:Inv X pins σ H s)(u:Un (frs X.stack) ch H H' s.heap h')(hok:HOk X.prog X.w H' h')(hg:GK s.gens g')
  (hch:∀b∈ch,(b∈X.ex∨X.s₀.heap.objs.size<=b)/\b≠X.env.locals/\(∀x c,X.env.cells.lookup x=some c->c≠b)/\∀p∈X.pn++pins,p.1≠b):
  Inv X pins σ H' { s with heap:=h',gens:=g',drawn:=d',toks:=t'}:=by
 obtain⟨m,⟨o,es,ep,ho,r⟩,_⟩:=id I.loc
 obtain⟨sl,hL⟩:=u.any ho I.free λz=>(hch _ z).2.1 rfl
 exact I.step (ch:=ch) hch (λb o hL hb hc e n=>u.keep b o e n (λz=>(Zi.mp (I.stkSub b z)).elim hL hb) hc) (λb o _ _ hc e n=>u.any e n hc) (λb o hc e n=>u.free b o e n hc) (λb o hc e=>u.there b o e hc) u.tups u.frzs u.tbls (λm' hm=>by
  obtain⟨o',es',ep',ho',r'⟩:=hm
  rw[ho]at ho';cases ho'
  exact⟨_,es',ep',hL,r'⟩) hok hg
theorem Inv.turned{t':Nat}{it:Addr}(I:Inv X pins σ H s)(k:∀b o,b≠it->s.heap.get? b=some o->h'.get? b=some o)(hn:H it=none)(hL:it≠X.env.locals)
  (h1:it∈X.ex∨X.s₀.heap.objs.size<=it) (h2:∀x c,X.env.cells.lookup x=some c->c≠it) (h3:∀p∈X.pn++pins,p.1≠it):Inv X pins σ H { s with heap:=h',toks:=t'}:=by
 have nit:∀b u,H b=some u->b≠it:=λb u e z=>by rw[z,hn]at e;cases e
 refine I.step (g':=s.gens) (d':=s.drawn) (ch:=[it]) (λb hb=>?_) (λb o _ _ hc e _=>k b o (λz=>hc (by simp[z])) e) (λb o _ _ hc e _=>⟨o.slots,k b o (λz=>hc (by simp[z])) e⟩) (λ_ _ _ _ n=>n)
  (λb o hc e=>⟨o,k b o (λz=>hc (by simp[z])) e⟩) (λ_ _ e=>e) (λ_ _ _ e=>e) (λb ps e=>⟨#[],by rw[e];simp⟩) (λm hm=>?_) (λb u e=>?_) I.bare.again
 .have e:b=it:=by simpa using hb
  subst e
  exact⟨h1,hL,h2,h3⟩
 .obtain⟨o,es,ep,ho,r⟩:=hm
  exact⟨o,es,ep,k _ o (Ne.symm hL) ho,r⟩
 .refine(I.hok b u e).stay (λc v hc q=>k c v ?_ q) (λ_ q=>q) λ_ _ q=>q
  rcases hc with z|z
  .rw[z];exact nit b u e
  .exact nit c _ z
theorem Inv.tok(I:Inv X pins σ H s)(t:Nat):Inv X pins σ H { s with toks:=t}:=I.un (h':=s.heap) (t':=t) Un.refl I.hok
theorem Inv.kept{t':Nat}(I:Inv X pins σ H s)(k:∀b u,s.heap.get? b=some u->h'.get? b=some u):Inv X pins σ H { s with heap:=h',toks:=t'}:=I.un (Un.kept k) (I.hok.kept k)
theorem Inv.laid{a:Addr}{o:HO}{t':Nat}(I:Inv X pins σ H s)(k:∀b u,s.heap.get? b=some u->h'.get? b=some u)(hp:s.heap.objs.size<=a)(new:jT X.prog X.w (upd H a o) h' a o):
  Inv X pins σ (upd H a o) { s with heap:=h',toks:=t'}:=I.un (Un.laid k hp (I.hok.fresh hp)) (I.hok.laid k hp new)
theorem Inv.write{x e:Addr}{o:HO}{t':Nat}(I:Inv X pins σ H s)(mu:Mut (H x))(he:e=x∨H e=some (.own x))(k:∀b u,b≠e->s.heap.get? b=some u->h'.get? b=some u)(heo:∃u,h'.get? e=some u)
  (new:jT X.prog X.w (upd H x o) h' x o):Inv X pins σ (upd H x o) { s with heap:=h',toks:=t'}:=I.un (Un.write mu he k heo) (I.hok.write mu he k heo new)
theorem Inv.weak{σ':List (Option V)}(I:Inv X pins σ H s)(hl:σ'.length=σ.length)(w:∀(i:Nat) v,σ'[i]? =some (some v)->σ[i]? =some (some v)):Inv X pins σ' H s:=
 ⟨I.ok,I.os,I.bare,I.base,let⟨m,hn,hl'⟩:=I.loc;⟨m,hn,λi x v e1 e2 e3=>hl' i x v e1 (w i v e2) e3⟩,I.cell,I.free,I.freeC,I.pin,I.hok,hl.trans I.len⟩
theorem Inv.pins_of{pins':List (Addr×Obj)}(I:Inv X pins σ H s)(h:∀p∈pins',s.heap.get? p.1=some p.2/\H p.1=none/\p.1≠X.env.locals/\p.1∉X.fs/\∀v,p.2.data≠ .cell v):Inv X pins' σ H s:=
 ⟨I.ok,I.os,I.bare,I.base,I.loc,I.cell,I.free,I.freeC,λp hp=>(Zm.mp hp).elim (λz=>I.pin p (List.mem_append_left _ z)) (h p),I.hok,I.len⟩
theorem yV{N:List Str}(hN:N.Nodup){i j:Nat}{x:Str}(a:N[i]? =some x)(b:N[j]? =some x):i=j:=by
 obtain⟨h1,e1⟩:=Zh.mp a
 obtain⟨h2,e2⟩:=Zh.mp b
 exact(List.getElem_inj hN).mp (e1.trans e2.symm)
theorem pZ{M:Model}{A:Around}{E:Value->Shared->Prop}{i:Nat}{x:Str}{v:V}{u:Value}{Q:Unit->Shared->Prop}(I:Inv X pins σ H s)(hN:X.N.Nodup)(hi:X.N[i]? =some x)(hx:Loc X.env.scope x)(r:RelV v u)
  (h:∀s',Inv X pins (σ.set i (some v)) H s'->(∃a,Heap.SameBut a s.heap s'.heap/\(a=X.env.locals∨X.env.cells.lookup x=some a))->Q () s') (hf:X.fn x=true∨X.env.scope.names.lookup x=some .local:=by first|exact .inl rfl|exact .inr rfl|assumption):wpAny M A (storeName X.env x u) Q E s:=by
 obtain⟨m,hn,hl⟩:=id I.loc
 have hcls:(X.env.scope.kind== .class||(X.env.scope.kind== .module&&X.env.locals != X.env.globals))=false:=by rw[I.ok.kind];rfl
 have hiσ:i<σ.length:=by rw[I.len];exact(Zh.mp hi).1
 have cne:=I.cne
 have tracked:∀{a:Addr}{h':Heap},(∃o,s.heap.get? a=some o/\H a=none)->Heap.SameBut a s.heap h'->HOk X.prog X.w H h':=λ{a h'} ha hs b ob e=>by
  obtain⟨_,_,hfree⟩:=ha
  refine(I.hok b ob e).stay (λc w' hc q=>(hs.2 c ?_).trans q) (λ_ q=>q) λ_ _ q=>q
  rintro rfl
  rcases hc with rfl|hc
  .rw[hfree]at e;cases e
  .rw[hfree]at hc;cases hc
 rcases hx with hk|hk
 .refine wpAny_storeName_local hk hn (λh' hn' hs=>?_) hcls
  obtain⟨oL,_,_,hoL,_⟩:=id hn
  refine h _ ⟨I.ok,I.os,I.bare,⟨λb o e n hb hx=>?_,λb o e n hb hx=>?_,I.base.free,λb o e hx=>?_,I.base.tups,I.base.frzs,I.base.tbls⟩,⟨_,hn',λj y v' e1 e2 e3=>?_⟩,λy c e=>?_,I.free,I.freeC,λp hp=>?_,tracked ⟨oL,hoL,I.free⟩ hs,by simpa using I.len⟩ ⟨_,hs,.inl rfl⟩
  .exact(hs.2 b (Zk (Zc (Ze e) I.ok.above))).trans (I.base.keep b o e n hb hx)
  .obtain⟨sl,e1⟩:=I.base.slot b o e n hb hx
   exact⟨sl,(hs.2 b (Zk (Zc (Ze e) I.ok.above))).trans e1⟩
  .obtain⟨o',e1⟩:=I.base.there b o e hx
   exact⟨o',(hs.2 b (Zk (Zc (Ze e) I.ok.above))).trans e1⟩
  .by_cases hj:j=i
   .subst hj
    rw[hi]at e1;cases e1
    rw[List.getElem?_set_self hiσ]at e2
    cases e2
    exact⟨u,r,.inl ⟨hk,by simp⟩⟩
   .rw[List.getElem?_set_ne (Ne.symm hj)]at e2
    obtain⟨u',r',q⟩:=hl j y v' e1 e2 e3
    refine⟨u',r',?_⟩
    rcases q with⟨k,e⟩|⟨k,c,e,z⟩
    .refine .inl ⟨k,?_⟩
     have:y≠x:=λe=>hj (yV hN e1 (e▸hi))
     simp[this,e]
    .exact .inr ⟨k,c,e,z.sameBut hs (cne y c e)⟩
  .obtain⟨w',z⟩:=I.cell y c e
   exact⟨w',z.sameBut hs (cne y c e)⟩
  .obtain⟨e,n,ne,nf,d⟩:=I.pin p hp
   exact⟨(hs.2 p.1 ne).trans e,n,ne,nf,d⟩
 .have hfn:X.fn x=true:=by
   rcases hf with z|z
   .exact z
   .rw[z]at hk;cases hk
  obtain⟨c,hc⟩:=I.ok.has x (.inl hk)
  obtain⟨w',z⟩:=I.cell x c hc
  refine wpAny_storeName_cell I.ok.kind hk hc z (λh' hc' hs=>?_)
  obtain⟨oc,hoc,hocd⟩:=id z
  refine h { s with heap:=h'} ⟨I.ok,I.os,I.bare,⟨λb o e n hb hx=>?_,λb o e n hb hx=>?_,I.base.free,λb o e hx=>?_,I.base.tups,I.base.frzs,I.base.tbls⟩,⟨m,hn.sameBut hs (Ne.symm (cne x c hc)),λj y v' e1 e2 e3=>?_⟩,λy c' e=>?_,I.free,I.freeC,λp hp=>?_,tracked ⟨oc,hoc,I.freeC x c hc⟩ hs,by simpa using I.len⟩ ⟨c,hs,.inr hc⟩
  .exact(hs.2 b (Zk (Zc (Ze e) (I.ok.cab x c hfn hc)))).trans (I.base.keep b o e n hb hx)
  .obtain⟨sl,e1⟩:=I.base.slot b o e n hb hx
   exact⟨sl,(hs.2 b (Zk (Zc (Ze e) (I.ok.cab x c hfn hc)))).trans e1⟩
  .obtain⟨o',e1⟩:=I.base.there b o e hx
   exact⟨o',(hs.2 b (Zk (Zc (Ze e) (I.ok.cab x c hfn hc)))).trans e1⟩
  .by_cases hj:j=i
   .subst hj
    rw[hi]at e1;cases e1
    rw[List.getElem?_set_self hiσ]at e2
    cases e2
    exact⟨u,r,.inr ⟨.inl hk,c,hc,hc'⟩⟩
   .rw[List.getElem?_set_ne (Ne.symm hj)]at e2
    obtain⟨u',r',q⟩:=hl j y v' e1 e2 e3
    refine⟨u',r',?_⟩
    rcases q with q|⟨k,c',e,z'⟩
    .exact .inl q
    .refine .inr ⟨k,c',e,z'.sameBut hs ?_⟩
     rintro rfl
     exact hj (yV hN e1 (I.ok.inj _ _ _ e hc▸hi))
  .by_cases hcc:c'=c
   .subst hcc;exact⟨_,hc'⟩
   .obtain⟨w2,z2⟩:=I.cell y c' e
    exact⟨w2,z2.sameBut hs hcc⟩
  .obtain⟨e,n,ne,nf,d⟩:=I.pin p hp
   refine⟨(hs.2 p.1 ?_).trans e,n,ne,nf,d⟩
   intro q
   rw[q,hoc]at e
   have q':oc=p.2:=Option.some.inj e
   exact d w' (by rw[<-q'];exact hocd)
theorem lV{M:Model}{A:Around}{E:Value->Shared->Prop}{i:Nat}{x:Str}{v:V}{u:Value}{Q:Unit->Shared->Prop}(I:Inv X pins σ H s)(hN:X.N.Nodup)(hi:X.N[i]? =some x)(hx:Loc X.env.scope x)(r:RelV v u)
  (h:∀s',Inv X pins (σ.set i (some v)) H s'->Q () s') (hf:X.fn x=true∨X.env.scope.names.lookup x=some .local:=by first|exact .inl rfl|exact .inr rfl|assumption):wpAny M A (storeName X.env x u) Q E s:=
 pZ I hN hi hx r (λs' I' _=>h s' I') hf
theorem Inv.call'{s':Shared}{ch:List Addr}(I:Inv X pins σ H s)(ho:s'.os=s.os)(u:Un (frs X.stack) ch H H' s.heap s'.heap)(hok:HOk X.prog X.w H' s'.heap)(hg:GK s.gens s'.gens)
  (hch:∀b∈ch,(b∈X.ex∨X.s₀.heap.objs.size<=b)/\b≠X.env.locals/\(∀x c,X.env.cells.lookup x=some c->c≠b)/\∀p∈X.pn++pins,p.1≠b):Inv X pins σ H' s':=by
 obtain⟨h',g',d',t',o'⟩:=s'
 have e:o'=s.os:=ho
 subst e
 exact I.call (g':=g') (t':=t') (d':=d') u hok hg hch
end
abbrev XK:=Value->Option Addr->Hp->Prop
abbrev St:=List (Option V)
abbrev VK:=V->Hp->Prop
abbrev TE:=St->Hp->VK->Prop
abbrev TT:=St->Hp->(Bool->Hp->Prop)->Prop
abbrev TA:=St->Hp->(List V->Hp->Prop)->Prop
structure Ends where
 nx:St->Hp->Prop
 rt:VK
 bk:St->Hp->Prop:=λ_ _=>False
 ct:St->Hp->Prop:=λ_ _=>False
abbrev TS:=Ends->St->Hp->Prop
def EP(X:Cx)(pins:List (Addr×Obj))(σ:St)(Q:VK)(u:Value)(s':Shared):Prop:=∃v H',Inv X pins σ H' s'/\RelV v u/\Q v H'
def TP(X:Cx)(pins:List (Addr×Obj))(σ:St)(Q:Bool->Hp->Prop)(b:Bool)(s':Shared):Prop:=∃H',Inv X pins σ H' s'/\Q b H'
def AP(X:Cx)(pins:List (Addr×Obj))(σ:St)(Q:List V->Hp->Prop)(us:List Value)(s':Shared):Prop:=∃vs H',Inv X pins σ H' s'/\Vals vs us/\Q vs H'
def SP(X:Cx)(pins:List (Addr×Obj))(D:Ends)(f:Flow)(s':Shared):Prop:=
 match f with
 | .next=>∃σ' H',Inv X pins σ' H' s'/\D.nx σ' H'
 | .brk=>∃σ' H',Inv X pins σ' H' s'/\D.bk σ' H'
 | .cont=>∃σ' H',Inv X pins σ' H' s'/\D.ct σ' H'
 | .ret u=>∃v σ' H',Inv X pins σ' H' s'/\RelV v u/\D.rt v H'
def PE(X:Cx)(e:Expr)(t:TE):Prop:=
 ∀(pins:List (Addr×Obj))(s:Shared)(σ:St)(H:Hp)(Q:VK),Inv X pins σ H s->t σ H Q->wpAny (model X.prog X.w) X.A (eval e X.env) (EP X pins σ Q) X.xe s
def PT(X:Cx)(e:Expr)(t:TT):Prop:=
 ∀(pins:List (Addr×Obj))(s:Shared)(σ:St)(H:Hp)(Q:Bool->Hp->Prop),Inv X pins σ H s->t σ H Q->wpAny (model X.prog X.w) X.A (isTrue e X.env (eval e X.env)) (TP X pins σ Q) X.xe s
def PW(X:Cx)(e:Expr)(t:TT):Prop:=
 ∀(whole:Sem Value)(pins:List (Addr×Obj))(s:Shared)(σ:St)(H:Hp)(Q:Bool->Hp->Prop),Inv X pins σ H s->t σ H Q->wpAny (model X.prog X.w) X.A (isTrue e X.env whole) (TP X pins σ Q) X.xe s
theorem PW.pt{X:Cx}{e:Expr}{t:TT}(h:PW X e t):PT X e t:=h _
def PA(X:Cx)(es:List Expr)(t:TA):Prop:=
 ∀(pos:Pos)(pins:List (Addr×Obj))(s:Shared)(σ:St)(H:Hp)(Q:List V->Hp->Prop),Inv X pins σ H s->t σ H Q->wpAny (model X.prog X.w) X.A (spliced (backTo pos (starEach es X.env))) (AP X pins σ Q) X.xe s
def PS(X:Cx)(st:Stmt)(t:TS):Prop:=
 ∀(pins:List (Addr×Obj))(s:Shared)(σ:St)(H:Hp)(D:Ends),Inv X pins σ H s->t D σ H->wpAny (model X.prog X.w) X.A (exec st X.env) (SP X pins D) X.xe s
def PSs(X:Cx)(st:List Stmt)(t:TS):Prop:=
 ∀(pins:List (Addr×Obj))(s:Shared)(σ:St)(H:Hp)(D:Ends),Inv X pins σ H s->t D σ H->wpAny (model X.prog X.w) X.A (execs st X.env) (SP X pins D) X.xe s
theorem thn{α:Type}{t:Sem α}{Q Q':α->Shared->Prop}{M:Model}{A:Around}{E:Value->Shared->Prop}{s:Shared}(h:wpAny M A t Q E s)(hQ:∀a s,Q a s->Q' a s):wpAny M A t Q' E s:=wpAny_mono h hQ λ_ _ x=>x
section
variable {X:Cx}
def tVar(i:Nat):TE:=λσ H Q=>∃v,σ[i]? =some (some v)/\Q v H
def tC(v:V):TE:=λ_ H Q=>Q v H
theorem QX{i:Nat}{x:Str}{pos:Pos}(hN:X.N[i]? =some x)(hv:Vis X.env.scope x)(hd:(x==("__debug__":Str))=false:=by decide)(hcd:(x==("__classdict__":Str))=false:=by decide):PE X (.Name x pos) (tVar i):=by
 intro pins s σ H Q I h
 obtain⟨v,e,h⟩:=h
 obtain⟨m,hn,hl⟩:=I.loc
 obtain⟨u,r,l⟩:=hl i x v hN e hv
 have fin:EP X pins σ Q u s:=⟨v,H,I,r,h⟩
 rcases l with⟨hk,hm⟩|⟨hk,c,hc,hcell⟩
 .exact wpAny_Name (wpAny_loadName_local I.ok.kind hk hn hm fin) hd
 .rcases hk with hk|hk
  .exact wpAny_Name (wpAny_loadName_cell I.ok.kind hk hc hcell fin) hd
  .exact wpAny_Name (wpAny_loadName_free I.ok.kind hk hc hcell fin hcd) hd
theorem Ge{i j pos}:PE X (.Constant (.int i) j pos) (tC (.int i)):=λ_ _ _ H _ I h=>wpAny_Constant_int ⟨.int i,H,I.tok _,⟨_,rfl⟩,h⟩
theorem Tv{b j pos}:PE X (.Constant (.bool b) j pos) (tC (.bl b)):=λ_ _ _ H _ I h=>Constant_bool ⟨.bl b,H,I,rfl,h⟩
theorem PX{j pos}:PE X (.Constant .none j pos) (tC .non):=λ_ _ _ H _ I h=>Constant_none ⟨.non,H,I,rfl,h⟩
def Gl(X:Cx)(x:Str):Prop:=X.env.kindOf x=some .globalImplicit
theorem Lg{E:Value->Shared->Prop}{pins:List (Addr×Obj)}{s:Shared}{σ:St}{H:Hp}{x:Str}{u:Value}{pos:Pos}{Q:Value->Shared->Prop}(I:Inv X pins σ H s)(hg:Gl X x)(hm:X.mg x=some u)(h:Q u s)
  (hd:(x==("__debug__":Str))=false:=by decide):wpAny (model X.prog X.w) X.A (eval (.Name x pos) X.env) Q E s:=
 Calls.Name_function_global I.ok.kind hg (Calls.loadGlobal_global (by rw[I.ok.glob];exact I.mod.glob.keeps I.bk) hm h) hd
theorem jK{E:Value->Shared->Prop}{pins:List (Addr×Obj)}{s:Shared}{σ:St}{H:Hp}{x:Str}{u:Value}{pos:Pos}{Q:Value->Shared->Prop}(I:Inv X pins σ H s)(hg:Gl X x)(hm:X.mg x=none)(hv:bootBuiltins x=some u)(h:Q u s)
  (hn:x≠"__name__":=by decide) (hd:(x==("__debug__":Str))=false:=by decide):wpAny (model X.prog X.w) X.A (eval (.Name x pos) X.env) Q E s:=by
 obtain⟨mb,h1,h2⟩:=I.mod.blt
 exact Calls.Name_function_global I.ok.kind hg (Calls.loadGlobal_builtin (by rw[I.ok.glob];exact I.mod.glob.keeps I.bk) hm (by rw[I.ok.blt];exact h1.keeps I.bk) ((h2 x hn).trans hv) h) hd
theorem Kq{x:Str}{v:V}{u:Value}{pos:Pos}(hg:Gl X x)(hm:X.mg x=none)(hv:bootBuiltins x=some u)(r:RelV v u)(hn:x≠"__name__":=by decide)(hd:(x==("__debug__":Str))=false:=by decide):PE X (.Name x pos) (tC v):=
 λ_ _ _ H _ I h=>jK I hg hm hv ⟨v,H,I,r,h⟩ hn hd
variable {a b:Expr} {ta tb:TE} {pos:Pos}
theorem yD(b:Expr){op:CmpOp}(h:op≠ .In)(h2:op≠ .NotIn):behindInMarks op b=false:=by
 have e1:(op==CmpOp.In)=false:=by cases op<;>first|rfl|exact absurd rfl h
 have e2:(op==CmpOp.NotIn)=false:=by cases op<;>first|rfl|exact absurd rfl h2
 cases b<;>simp[behindInMarks,e1,e2]
def tB(t:TE):TT:=λσ H Q=>t σ H λx H1=>∃c,x= .bl c/\Q c H1
variable {tA tB':TT} {rest:List Expr}
def tAnd(t u:TT):TT:=λσ H Q=>t σ H λc H1=>if c=true then u σ H1 Q else Q false H1
def tOr(t u:TT):TT:=λσ H Q=>t σ H λc H1=>if c=true then Q true H1 else u σ H1 Q
def tNot(t:TT):TT:=λσ H Q=>t σ H λc H1=>Q (!c) H1
theorem Jq(ha:PT X a tA):PW X (.BoolOp .And [a] pos) tA:=by
 intro wh pins s σ H Q I h
 refine isTrue_and (thn (ha pins s σ H Q I h) λc s1 e=>?_)
 cases c with
 |true=>exact isTrue_and_nil e
 |false=>exact e
theorem QH(ha:PT X a tA):PW X (.BoolOp .Or [a] pos) tA:=by
 intro wh pins s σ H Q I h
 refine isTrue_or (thn (ha pins s σ H Q I h) λc s1 e=>?_)
 cases c with
 |false=>exact isTrue_or_nil e
 |true=>exact e
theorem Qu(ha:PT X a tA)(hb:PW X (.BoolOp .And (b::rest) pos) tB'):PW X (.BoolOp .And (a::b::rest) pos) (tAnd tA tB'):=by
 intro wh pins s σ H Q I h
 refine isTrue_and (thn (ha pins s σ H _ I h) λc s1 zq7=>?_)
 obtain⟨H1,I1,q1⟩:=zq7
 cases c with
 |true=>exact hb wh pins s1 σ H1 Q I1 q1
 |false=>exact⟨H1,I1,q1⟩
theorem Ua(ha:PT X a tA)(hb:PW X (.BoolOp .Or (b::rest) pos) tB'):PW X (.BoolOp .Or (a::b::rest) pos) (tOr tA tB'):=by
 intro wh pins s σ H Q I h
 refine isTrue_or (thn (ha pins s σ H _ I h) λc s1 zq8=>?_)
 obtain⟨H1,I1,q1⟩:=zq8
 cases c with
 |true=>exact⟨H1,I1,q1⟩
 |false=>exact hb wh pins s1 σ H1 Q I1 q1
theorem NP(ha:PT X a tA):PT X (.UnaryOp .Not a pos) (tNot tA):=by
 intro pins s σ H Q I h
 exact isTrue_not (ha pins s σ H (λc H1=>Q (!c) H1) I h)
def Te(ta tb:TE):TE:=λσ H Q=>ta σ H λx H1=>∃c,x= .bl c/\if c=true then tb σ H1 Q else Q (.bl false) H1
def Ug(ta:TE):TE:=λσ H Q=>ta σ H λx H1=>∃c,x= .bl c/\Q (.bl (!c)) H1
theorem QF{op}{t:TE}(h:PE X a t):PE X (.BoolOp op [a] pos) t:=λpins s σ H Q I hw=>BoolOp_one (h pins s σ H Q I hw)
theorem PL(ha:PE X a ta)(hb:PE X (.BoolOp .And (b::rest) pos) tb):PE X (.BoolOp .And (a::b::rest) pos) (Te ta tb):=by
 intro pins s σ H Q I h
 refine BoolOp_and (thn (ha pins s σ H _ I h) λv s1 zq9=>?_)
 obtain⟨x,H1,I1,r1,q1⟩:=zq9
 obtain⟨c,rfl,q1⟩:=q1
 cases r1
 refine wpAny_truthy_bool ?_
 cases c with
 |true=>exact hb pins s1 σ H1 Q I1 q1
 |false=>exact⟨.bl false,H1,I1,rfl,q1⟩
theorem Ph(ha:PE X a ta):PE X (.UnaryOp .Not a pos) (Ug ta):=by
 intro pins s σ H Q I h
 refine UnaryOp_ (thn (ha pins s σ H _ I h) λv s1 zq11=>?_)
 obtain⟨x,H1,I1,r1,q1⟩:=zq11
 obtain⟨c,rfl,q1⟩:=q1
 cases r1
 exact not_of (wpAny_truthy_bool ⟨.bl (!c),H1,I1,rfl,q1⟩)
def tIf(t:TT)(ta tb:TE):TE:=λσ H Q=>t σ H λc H1=>if c=true then ta σ H1 Q else tb σ H1 Q
theorem IW{c:Expr}(hc:PT X c tA)(ha:PE X a ta)(hb:PE X b tb):PE X (.IfExp c a b pos) (tIf tA ta tb):=by
 intro pins s σ H Q I h
 refine wpAny_IfExp (thn (hc pins s σ H _ I h) λd s1 zq12=>?_)
 obtain⟨H1,I1,q1⟩:=zq12
 cases d with
 |true=>exact ha pins s1 σ H1 Q I1 q1
 |false=>exact hb pins s1 σ H1 Q I1 q1
end
def SqL(K:PySem.W.Frag)(H:Hp)(a:Addr)(xs:List V):Prop:=
 Rd H a (.lst xs)∨
  ∃(o:Obj)(its:Array Value)(n:Nat),K.lookup a=some o/\o.cls= .type "list"/\o.dict=none/\o.data= .seq its n/\its.size<=sizeLine/\Vals xs its.toList
def SqT(K:PySem.W.Frag)(H:Hp)(a:Addr)(xs:List V):Prop:=
 Rd H a (.tup xs)∨
  ∃(o:Obj)(its:Array Value)(n:Nat),K.lookup a=some o/\o.cls= .type "tuple"/\o.data= .seq its n/\its.size<=sizeLine/\Vals xs its.toList
def absV:Value->Option V
 | .none=>some .non
 | .bool b=>some (.bl b)
 | .int i _=>some (.int i)
 | .str x _=>some (.str x)
 | .bytes b _=>some (.byt b)
 | .float b _=>some (.flt b)
 | .ref a=>some (.ref a)
 | .type n=>some (.ty n)
 |_=>none
theorem RelV.abs{x:V}{u:Value}(r:RelV x u):absV u=some x:=by
 cases x with
 |non=>cases r;rfl
 |bl _=>cases r;rfl
 |int _=>obtain⟨t,rfl⟩:=r;rfl
 |str _=>obtain⟨t,rfl⟩:=r;rfl
 |byt _=>obtain⟨t,rfl⟩:=r;rfl
 |flt _=>obtain⟨t,rfl⟩:=r;rfl
 |ref _=>cases r;rfl
 |ty _=>cases r;rfl
theorem RelV.inj{x y:V}{u:Value}(r:RelV x u)(q:RelV y u):x=y:=Option.some.inj (r.abs.symm.trans q.abs)
theorem Vals.inj:∀{xs ys:List V}{us:List Value},Vals xs us->Vals ys us->xs=ys
 |_,_,_,.nil,.nil=>rfl
 |_,_,_,.cons r t,.cons r' t'=>by rw[r.inj r',Vals.inj t t']
section
variable {X:Cx} {pins:List (Addr×Obj)} {σ:St} {H:Hp} {s:Shared} {a:Addr} {xs ys:List V}
theorem SqL.of{K:PySem.W.Frag}(h:H a=some (.lst xs)):SqL K H a xs:=.inl (.inl h)
theorem Inv.list(I:Inv X pins σ H s)(h:SqL X.K H a xs):∃its:List Value,Vals xs its/\PlainL s.heap a its.toArray/\xs.length<=sizeLine:=by
 rcases h with h|⟨o,its,n,hk,hc,hd,hs,hz,r⟩
 .obtain⟨z,its,n,r,e⟩:=h.ok I.hok
  exact⟨its,r,⟨_,n,e,rfl,rfl,rfl⟩,z⟩
 .refine⟨its.toList,r,⟨o,n,I.kIn a o hk,hc,hd,by simpa using hs⟩,?_⟩
  have e:=r.length
  simp only[Array.length_toList]at e
  omega
theorem Inv.tuple(I:Inv X pins σ H s)(h:SqT X.K H a xs):∃its:List Value,Vals xs its/\IsTup s.heap a its.toArray/\xs.length<=sizeLine:=by
 rcases h with h|⟨o,its,n,hk,hc,hs,hz,r⟩
 .obtain⟨z,its,r,p⟩:=h.ok I.hok
  exact⟨its,r,p,z⟩
 .refine⟨its.toList,r,⟨o,I.kIn a o hk,hc,n,by simpa using hs⟩,?_⟩
  have e:=r.length
  simp only[Array.length_toList]at e
  omega
theorem Inv.list_inj(I:Inv X pins σ H s)(h:SqL X.K H a xs)(h':SqL X.K H a ys):xs=ys:=by
 obtain⟨its,r,⟨o,n,e,_,_,d⟩,_⟩:=I.list h
 obtain⟨its',r',⟨o',n',e',_,_,d'⟩,_⟩:=I.list h'
 rw[e]at e';cases e'
 rw[d]at d'
 injection d' with d1 _
 have:its=its':=by simpa using congrArg Array.toList d1
 subst this
 exact r.inj r'
theorem Inv.tuple_inj(I:Inv X pins σ H s)(h:SqT X.K H a xs)(h':SqT X.K H a ys):xs=ys:=by
 obtain⟨its,r,⟨o,e,_,n,d⟩,_⟩:=I.tuple h
 obtain⟨its',r',⟨o',e',_,n',d'⟩,_⟩:=I.tuple h'
 rw[e]at e';cases e'
 rw[d]at d'
 injection d' with d1 _
 have:its=its':=by simpa using congrArg Array.toList d1
 subst this
 exact r.inj r'
end
abbrev Cx.wish(X:Cx)(E:Value->Shared->Prop):Cx:={ X with xe:=E}
abbrev Cx.nox(X:Cx):Cx:=X.wish λ_ _=>False
theorem Cx.Ok.wish{X:Cx}(ok:X.Ok)(E:Value->Shared->Prop):(X.wish E).Ok:=
 ⟨ok.mod,ok.kind,ok.glob,ok.blt,ok.above,ok.inj,ok.has,ok.cab,ok.hd,ok.frames,ok.stk,ok.exf,ok.bs,ok.bsz,ok.noex,ok.exfs,ok.funs,ok.frf⟩
theorem Cx.Ok.unwish{X:Cx}{E:Value->Shared->Prop}(ok:(X.wish E).Ok):X.Ok:=
 ⟨ok.mod,ok.kind,ok.glob,ok.blt,ok.above,ok.inj,ok.has,ok.cab,ok.hd,ok.frames,ok.stk,ok.exf,ok.bs,ok.bsz,ok.noex,ok.exfs,ok.funs,ok.frf⟩
section
variable {X:Cx} {pins:List (Addr×Obj)} {σ:St} {H:Hp} {s:Shared} {E:Value->Shared->Prop}
theorem Inv.wish(I:Inv X pins σ H s)(E:Value->Shared->Prop):Inv (X.wish E) pins σ H s:=⟨I.ok.wish E,I.os,I.bare,I.base,I.loc,I.cell,I.free,I.freeC,I.pin,I.hok,I.len⟩
theorem Inv.unwish(I:Inv (X.wish E) pins σ H s):Inv X pins σ H s:=⟨I.ok.unwish,I.os,I.bare,I.base,I.loc,I.cell,I.free,I.freeC,I.pin,I.hok,I.len⟩
theorem SP.unwish{D:Ends}{f:Flow}{s':Shared}(h:SP (X.wish E) pins D f s'):SP X pins D f s':=by
 cases f with
 |next=>obtain⟨σ',H',I,q⟩:=h;exact⟨σ',H',I.unwish,q⟩
 |brk=>obtain⟨σ',H',I,q⟩:=h;exact⟨σ',H',I.unwish,q⟩
 |cont=>obtain⟨σ',H',I,q⟩:=h;exact⟨σ',H',I.unwish,q⟩
 |ret u=>obtain⟨v,σ',H',I,r,q⟩:=h;exact⟨v,σ',H',I.unwish,r,q⟩
theorem PSs.nox{st:List Stmt}{t:TS}(h:PSs X.nox st t):PSs X st t:=λpins s σ H D I hw=>
 wpAny_mono (h pins s σ H D (I.wish _) hw) (λ_ _ q=>q.unwish) λ_ _ z=>False.elim z
end
section
variable {X:Cx} {st:Stmt} {rest:List Stmt} {t u:TS} {e:Expr} {te:TE} {pos:Pos}
def RW:TS:=λD σ H=>D.nx σ H
def tSeq(t u:TS):TS:=λD σ H=>t { D with nx:=u D} σ H
theorem Ju:PSs X [] RW:=λ_ _ σ H _ I h=>wpAny_execs_nil ⟨σ,H,I,h⟩
theorem IK(h1:PS X st t)(h2:PSs X rest u):PSs X (st::rest) (tSeq t u):=by
 intro pins s σ H D I h
 refine wpAny_execs_cons (thn (h1 pins s σ H { D with nx:=u D} I h) λf s1 q=>?_)
 cases f with
 |next=>
  obtain⟨σ',H',I',q⟩:=q
  exact h2 pins s1 σ' H' D I' q
 |ret v=>exact q
 |brk=>exact q
 |cont=>exact q
theorem Kw(h1:PS X st t):PSs X [st] t:=by
 intro pins s σ H D I h
 refine wpAny_execs_cons (thn (h1 pins s σ H D I h) λf s1 q=>?_)
 cases f with
 |next=>exact wpAny_execs_nil q
 |ret v=>exact q
 |brk=>exact q
 |cont=>exact q
def Qy:TS:=λD σ H=>D.bk σ H
theorem HW:PS X (.Break pos) Qy:=λ_ _ σ H _ I h=>wpAny_Break ⟨σ,H,I,h⟩
theorem Inv.quiet{pins:List (Addr×Obj)}{σ:St}{H:Hp}{s:Shared}(I:Inv X pins σ H s):interactive X.env=false:=by simp[interactive,I.ok.kind]
def Uc(te:TE):TS:=λD σ H=>te σ H λ_ H1=>D.nx σ H1
theorem JF(he:PE X e te)(hs:swapsWith e none pos.line X.env=pure false:=by rfl):PS X (.Expr e pos) (Uc te):=by
 intro pins s σ H D I h
 exact wpAny_Expr_any (thn (he pins s σ H _ I h) λv s1 ⟨x,H1,I1,r1,q1⟩=>⟨σ,H1,I1,q1⟩) I.quiet hs
def tRet(te:TE):TS:=λD σ H=>te σ H D.rt
theorem QB(he:PE X e te):PS X (.Return (some e) pos) (tRet te):=by
 intro pins s σ H D I h
 exact wpAny_Return_some (thn (he pins s σ H _ I h) λv s1 ⟨x,H1,I1,r1,q1⟩=>⟨x,σ,H1,I1,r1,q1⟩)
def tIfS(c:TT)(t u:TS):TS:=λD σ H=>c σ H λb H1=>if b=true then t D σ H1 else u D σ H1
theorem Up{c:Expr}{a b:List Stmt}{tc:TT}(hc:PT X c tc)(ha:PSs X a t)(hb:PSs X b u):PS X (.If c a b pos) (tIfS tc t u):=by
 intro pins s σ H D I h
 refine wpAny_If (thn (hc pins s σ H _ I h) λd s1 zq13=>?_)
 obtain⟨H1,I1,q1⟩:=zq13
 cases d with
 |true=>exact ha pins s1 σ H1 D I1 q1
 |false=>exact hb pins s1 σ H1 D I1 q1
end
abbrev TG:=V->St->Hp->(St->Hp->Prop)->Prop
abbrev TGs:=List V->St->Hp->(St->Hp->Prop)->Prop
def PG(X:Cx)(target:Expr)(t:TG):Prop:=
 ∀(pins:List (Addr×Obj))(s:Shared)(σ:St)(H:Hp)(v:V)(u:Value)(Q:St->Hp->Prop),Inv X pins σ H s->RelV v u->t v σ H Q->
  wpAny (model X.prog X.w) X.A (assign target X.env u) (λ_ s'=>∃σ' H',Inv X pins σ' H' s'/\Q σ' H') X.xe s
def PGs(X:Cx)(ts:List Expr)(t:TGs):Prop:=
 ∀(pins:List (Addr×Obj))(s:Shared)(σ:St)(H:Hp)(vs:List V)(us:List Value)(Q:St->Hp->Prop),Inv X pins σ H s->Vals vs us->t vs σ H Q->
  wpAny (model X.prog X.w) X.A (assignInOrder ((assignEach ts X.env).map (·.2)) us) (λ_ s'=>∃σ' H',Inv X pins σ' H' s'/\Q σ' H') X.xe s
abbrev Qz:=V->V->V->Hp->(Hp->Prop)->Prop
def Ss(X:Cx)(t:Qz):Prop:=
 ∀(pins:List (Addr×Obj))(s:Shared)(σ:St)(H:Hp)(o i v:V)(ov iv u:Value)(Q:Hp->Prop),Inv X pins σ H s->RelV o ov->RelV i iv->RelV v u->t o i v H Q->
  wpAny (model X.prog X.w) X.A (setItem ov iv u) (λ_ s'=>∃H',Inv X pins σ H' s'/\Q H') X.xe s
abbrev TIp:=V->V->Hp->VK->Prop
def PIp(X:Cx)(op:Operator)(t:TIp):Prop:=
 ∀(pins:List (Addr×Obj))(s:Shared)(σ:St)(H:Hp)(x y:V)(v u:Value)(Q:VK),Inv X pins σ H s->RelV x v->RelV y u->t x y H Q->
  wpAny (model X.prog X.w) X.A (inplaceOp op v u) (EP X pins σ Q) X.xe s
section
variable {X:Cx} {pos:Pos}
def yg(i:Nat):TG:=λv σ H Q=>Q (σ.set i (some v)) H
theorem Ji{i:Nat}{x:Str}(hN:X.N.Nodup)(hi:X.N[i]? =some x)(hx:Loc X.env.scope x)(hf:X.fn x=true∨X.env.scope.names.lookup x=some .local:=by first|exact .inl rfl|exact .inr rfl|assumption):PG X (.Name x pos) (yg i):=by
 intro pins s σ H v u Q I r h
 exact wpAny_assign_Name (lV I hN hi hx r (λs' I'=>⟨_,H,I',h⟩) hf)
def gNil:TGs:=λvs σ H Q=>vs=[]/\Q σ H
def Tc(t:TG)(u:TGs):TGs:=λvs σ H Q=>∃v r,vs=v::r/\t v σ H λσ' H'=>u r σ' H' Q
theorem Lx:PGs X [] gNil:=by
 intro pins s σ H vs us Q I r h
 obtain⟨e,h⟩:=h
 subst e
 cases r
 exact assignInOrder_nil ⟨σ,H,I,h⟩
theorem Iz{e:Expr}{es:List Expr}{t:TG}{u:TGs}(h1:PG X e t)(h2:PGs X es u)
  (hs:(assignEach (e::es) X.env).map (·.2)=assign e X.env::(assignEach es X.env).map (·.2):=by rfl):PGs X (e::es) (Tc t u):=by
 intro pins s σ H vs us Q I r h
 obtain⟨v,vr,e1,h⟩:=h
 subst e1
 cases r with
 |cons r rr=>
  rw[hs]
  refine assignInOrder_cons (thn (h1 pins s σ H _ _ _ I r h) λ_ s1 zq14=>?_)
  obtain⟨σ1,H1,I1,q1⟩:=zq14
  exact h2 pins s1 σ1 H1 _ _ Q I1 rr q1
def gTup(K:PySem.W.Frag)(n:Nat)(t:TGs):TG:=λv σ H Q=>∃a xs,v= .ref a/\SqT K H a xs/\xs.length=n/\t xs σ H Q
theorem Oe{es:List Expr}{k:Nat}{t:TGs}{n:Nat}(hc:X.calm=true)(h:PGs X es t)
  (hn:(assignEach es X.env).length=n:=by rfl) (hst:(assignEach es X.env).findIdx? (·.1)=none:=by rfl):PG X (.Tuple es k pos) (gTup X.K n t):=by
 intro pins s σ H v u Q I r hw
 obtain⟨a,xs,e1,hq,hl,hw⟩:=hw
 subst e1
 cases r
 obtain⟨its,rv,ht,hz⟩:=I.tuple hq
 refine assign_Tuple_tuple (I.ok.hd hc) ht (by simp[hn,<-hl,rv.length]) hst λh' hx=>?_
 have I1:Inv X pins σ H { s with heap:=h'}:=I.kept (t':=s.toks) λb o e=>hx b o (Zk (Ze e)) e
 exact h pins _ σ H xs _ Q I1 (by simpa using rv) hw
def gSub(to ti:TE)(t:Qz):TG:=λv σ H Q=>to σ H λo H1=>ti σ H1 λi H2=>t o i v H2 λH3=>Q σ H3
theorem Qn{o i:Expr}{to ti:TE}{t:Qz}(ho:PE X o to)(hi:PE X i ti)(hs:Ss X t)
  (ha:∀v,assign (.Subscript o i pos) X.env v=(do
   let ov<-holding [v] (eval o X.env)
   let iv<-holding [v,ov] (eval i X.env)
   standAt pos
   holding [v,ov,iv] (setItem ov iv v)
   release [v,ov,iv] []):=by intro _;rfl):PG X (.Subscript o i pos) (gSub to ti t):=by
 intro pins s σ H v u Q I r h
 rw[ha]
 refine wpAny_bind (wpAny_holding (thn (ho pins s σ H _ I h) λov s1 zq15=>?_))
 obtain⟨x,H1,I1,r1,q1⟩:=zq15
 refine wpAny_bind (wpAny_holding (thn (hi pins s1 σ H1 _ I1 q1) λiv s2 zq16=>?_))
 obtain⟨y,H2,I2,r2,q2⟩:=zq16
 refine wpAny_bind (wpAny_standAt (wpAny_bind (wpAny_holding (thn (hs pins s2 σ H2 x y v ov iv u _ I2 r1 r2 r q2) λ_ s3 zq17=>?_))))
 obtain⟨H3,I3,q3⟩:=zq17
 exact wpAny_release ⟨σ,H3,I3,q3⟩
def JN(te:TE)(g:TG):TS:=λD σ H=>te σ H λx H1=>g x σ H1 D.nx
theorem IV{tg e:Expr}{te:TE}{g:TG}(he:PE X e te)(hg:PG X tg g)(hs:swapsWithSole [tg] e pos.line X.env=pure false:=by rfl)(hw:swappedStores [tg] e X.env=pure none:=by rfl)
  (h1:(assignEach [tg] X.env).map (·.2)=[assign tg X.env]:=by rfl):PS X (.Assign [tg] e pos) (JN te g):=by
 intro pins s σ H D I h
 refine wpAny_Assign_stores (thn (he pins s σ H _ I h) λv s1 ⟨x,H1,I1,r1,q1⟩=>?_) hs hw
 rw[h1]
 exact thn (hg pins s1 σ H1 x v _ I1 r1 q1) λ_ s2 q=>q
theorem QM{i:Nat}{x:Str}{e:Expr}{te:TE}{pos':Pos}(hN:X.N.Nodup)(hi:X.N[i]? =some x)(hx:Loc X.env.scope x)(he:PE X e te)(hs:swapsWith e (some (.Name x pos')) pos.line X.env=pure false:=by rfl)(hf:X.fn x=true∨X.env.scope.names.lookup x=some .local:=by first|exact .inl rfl|exact .inr rfl|assumption):
  PS X (.Assign [.Name x pos'] e pos) (JN te (yg i)):=by
 intro pins s σ H D I h
 refine wpAny_Assign_Name (thn (he pins s σ H _ I h) λv s1 zq18=>?_) hs
 obtain⟨y,H1,I1,r1,q1⟩:=zq18
 exact lV I1 hN hi hx r1 (λs2 I2=>⟨_,H1,I2,q1⟩) hf
def tPar(i j:Nat)(ta:TA):TS:=λD σ H=>ta σ H λvs H1=>∃v w,vs=[v,w]/\D.nx ((σ.set i (some v)).set j (some w)) H1
theorem OJ{i j:Nat}{x y:Str}{a b:Expr}{ta:TA}{px py pt:Pos}{kt k2 pt2}(hc:X.calm=true)(hN:X.N.Nodup)(hi:X.N[i]? =some x)(hj:X.N[j]? =some y)(hij:i≠j)
  (hx:X.env.scope.names.lookup x=some .local) (hy:X.env.scope.names.lookup y=some .local) (ha:PA X [a,b] ta)
  (hw:swappedStores [.Tuple [.Name x px,.Name y py] kt pt] (.Tuple [a,b] k2 pt2) X.env=pure (some [x,y]))
  (hs:swapsWithSole [.Tuple [.Name x px,.Name y py] kt pt] (.Tuple [a,b] k2 pt2) pos.line X.env=pure false:=by rfl):
  PS X (.Assign [.Tuple [.Name x px,.Name y py] kt pt] (.Tuple [a,b] k2 pt2) pos) (tPar i j ta):=by
 intro pins s σ H D I h
 rw[exec_Assign_arm]
 refine wpAny_bind (wpAny_standAt ?_)
 rw[hs]
 refine wpAny_bind (wpAny_pure ?_)
 rw[if_neg (by decide)]
 refine wpAny_bind (Tuple_ (thn (ha _ pins s σ H _ I h) λus s1 zq19=>?_))
 obtain⟨vs,H1,I1,r1,q1⟩:=zq19
 obtain⟨v,w,e1,q1⟩:=q1
 subst e1
 obtain⟨u1,u2,rfl,rv,rw'⟩:∃u1 u2,us=[u1,u2]/\RelV v u1/\RelV w u2:=by
  cases r1 with
  |cons p q=>
   cases q with
   |cons p' q'=>
    cases q'
    exact⟨_,_,rfl,p,p'⟩
 refine wpAny_newObj_type ?_ (by show 2<=sizeLine;decide)
 have I2:Inv X pins σ H1 { s1 with heap:=s1.heap.push { cls:=.type "tuple",data:=.seq [u1,u2].toArray} }:=I1.kept (t':=s1.toks) λb o e=>Zb _ e
 rw[hw]
 refine wpAny_bind (wpAny_pure ?_)
 show wpAny (model X.prog X.w) X.A (do rule "assign.swapped-stores";let items<-unpackItems (.ref s1.heap.objs.size) 2 none;assignInOrder [λv=>bindName X.env y v,λv=>bindName X.env x v] items.reverse;pure Flow.next) _ _ _
 refine wpAny_bind (wpAny_rule (wpAny_bind (unpackItems_tuple (items:= #[u1,u2]) (I.ok.hd hc) (IsTup.new s1.heap _) λh' hx'=>?_)))
 have I3:=I2.kept (h':=h') (t':=s1.toks) λb o e=>hx' b o (Zk (Ze e)) e
 show wpAny _ _ (assignInOrder [λv=>bindName X.env y v,λv=>bindName X.env x v] [u2,u1] >>= λ_=>pure Flow.next) _ _ _
 refine wpAny_bind (assignInOrder_cons (wpAny_bindName (lV I3 hN hj (.inl hy) rw' (λs2 I4=>?_) (.inr hy))))
 refine assignInOrder_cons (wpAny_bindName (lV I4 hN hi (.inl hx) rv (λs3 I5=>assignInOrder_nil (wpAny_pure ?_)) (.inr hx)))
 rw[List.set_comm _ _ (Ne.symm hij)]at I5
 exact⟨_,H1,I5,q1⟩
def tAug(i:Nat)(te:TE)(ti:TIp):TS:=λD σ H=>∃x,σ[i]? =some (some x)/\te σ H λy H1=>ti x y H1 λz H2=>D.nx (σ.set i (some z)) H2
theorem Qo{i:Nat}{x:Str}{e:Expr}{te:TE}{op:Operator}{ti:TIp}{pos':Pos}(hN:X.N.Nodup)(hi:X.N[i]? =some x)(hx:Loc X.env.scope x)(he:PE X e te)(ho:PIp X op ti)(hf:X.fn x=true∨X.env.scope.names.lookup x=some .local:=by first|exact .inl rfl|exact .inr rfl|assumption):
  PS X (.AugAssign (.Name x pos') op e pos) (tAug i te ti):=by
 intro pins s σ H D I h
 obtain⟨v,e1,h⟩:=h
 obtain⟨m,hn,hl⟩:=I.loc
 have vis:Vis X.env.scope x:=by rcases hx with k|k;exact .inl k;exact .inr (.inl k)
 obtain⟨u,r,l⟩:=hl i x v hi e1 vis
 refine wpAny_AugAssign_Name ?_
 have go:wpAny (model X.prog X.w) X.A (eval e X.env) (λw s₂=>wpAny (model X.prog X.w) X.A (inplaceOp op u w) (λr s₃=>wpAny (model X.prog X.w) X.A (storeName X.env x r) (λ_=>SP X pins D .next) X.xe s₃) X.xe s₂) X.xe s:=by
  refine thn (he pins s σ H _ I h) λw s1 zq20=>?_
  obtain⟨y,H1,I1,r1,q1⟩:=zq20
  refine thn (ho pins s1 σ H1 v y u w _ I1 r r1 q1) λz s2 zq21=>?_
  obtain⟨zv,H2,I2,r2,q2⟩:=zq21
  exact lV I2 hN hi hx r2 (λs3 I3=>⟨_,H2,I3,q2⟩) hf
 rcases l with⟨hk,hm⟩|⟨hk,c,hc,hcell⟩
 .exact wpAny_loadName_local I.ok.kind hk hn hm go
 .rcases hk with hk|hk
  .exact wpAny_loadName_cell I.ok.kind hk hc hcell go
  .rcases hx with k|k
   .have:X.env.scope.names.lookup x=some .free:=hk
    rw[k]at this;cases this
   .have:X.env.scope.names.lookup x=some .free:=hk
    rw[k]at this;cases this
end
section
variable {X:Cx} {pos:Pos}
def Nr(c:TT)(tb:TS):TS:=λD σ H=>∃W:Nat->St->Hp->Prop,(∃m,W m σ H)/\∀m σ H,W m σ H->
 c σ H λb H1=>if b=true then∃N:St->Hp->Prop,(∀σ' H',N σ' H'->∃m',m'<m/\W m' σ' H')/\tb { D with nx:=N,ct:=N,bk:=D.nx} σ H1 else D.nx σ H1
theorem Io{c:Expr}{body:List Stmt}{tc:TT}{tb:TS}(hp:PassesOwn (model X.prog X.w) X.A X.env X.xe)(hc:PT X c tc)(hb:PSs X body tb):PS X (.While c body [] pos) (Nr tc tb):=by
 intro pins s σ H D I h
 obtain⟨W,⟨m0,w0⟩,turn⟩:=h
 refine wpAny_While (codeAny_whileLoop (λn s'=>∃σ' H',Inv X pins σ' H' s'/\W n σ' H') ?_ m0 ⟨σ,H,I,w0⟩)
 rintro n s1 ⟨σ1,H1,I1,w1⟩
 refine wpAny_passesOwn hp (thn (hc pins s1 σ1 H1 _ I1 (turn n σ1 H1 w1)) λb s2 zq27=>?_)
 obtain⟨H2,I2,q2⟩:=zq27
 cases b with
 |true=>
  obtain⟨N,hN,q2⟩:=q2
  rw[if_pos rfl]
  refine wpAny_passesOwn hp (thn (hb pins s2 σ1 H2 _ I2 q2) λf s3 q3=>?_)
  cases f with
  |next=>
   obtain⟨σ3,H3,I3,n3⟩:=q3
   obtain⟨m',hm,w3⟩:=hN σ3 H3 n3
   exact⟨m',hm,σ3,H3,I3,w3⟩
  |cont=>
   obtain⟨σ3,H3,I3,n3⟩:=q3
   obtain⟨m',hm,w3⟩:=hN σ3 H3 n3
   exact⟨m',hm,σ3,H3,I3,w3⟩
  |brk=>exact q3
  |ret v=>exact q3
 |false=>
  rw[if_neg Zr]
  exact wpAny_execs_nil ⟨σ1,H2,I2,q2⟩
end
structure It where
 go:Nat->Hp->Prop
 yld:Nat->Hp->V->Hp->Prop
 stop:Nat->Hp->Prop
def jg(X:Cx)(pins:List (Addr×Obj))(H:Hp)(b:Addr):Prop:=
 H b=none/\b≠X.env.locals/\b∉X.fs/\(b∈X.ex∨X.s₀.heap.objs.size<=b)/\(∀x c,X.env.cells.lookup x=some c->c≠b)/\∀p∈X.pn++pins,p.1≠b
theorem Inv.fpOk{X:Cx}{pins:List (Addr×Obj)}{σ:St}{H H':Hp}{s:Shared}{b:Addr}(I:Inv X pins σ H s)(hb:s.heap.objs.size<=b)(hn:H' b=none):jg X pins H' b:=by
 refine⟨hn,Nat.ne_of_gt (Zc I.lt hb),I.nofs hb,.inr (Zl I.sz hb),λx c e z=>?_,λp hp z=>?_⟩
 .obtain⟨v,q⟩:=I.cell x c e
  exact absurd (Zc q.lt (by rw[z];exact hb)) (Nat.lt_irrefl _)
 .exact absurd (Zc (Ze (I.pin p hp).1) (by rw[z];exact hb)) (Nat.lt_irrefl _)
structure Turn(P:Program)(w:World)(K:PySem.W.Frag)(tg:Expr)(J:It)(fp:List Addr)(it:Addr)(tn:Nat->Heap->Prop):Prop where
 mem:it∈fp
 obj:∀i h,tn i h->∀b∈fp,∃o,h.get? b=some o/\∀v,o.data≠ .cell v
 keep:∀i h h',tn i h->(∀b∈fp,∀o,h.get? b=some o->h'.get? b=some o)->tn i h'
 item:∀(X:Cx),X.prog=P->X.w=w->X.K=K->X.calm=true->∀(i:Nat)(pins:List (Addr×Obj))(s:Shared)(σ:St)(H:Hp)(E:Value->Shared->Prop),Inv X pins σ H s->(∀b∈fp,jg X pins H b)->tn i s.heap->J.go i H->
  wpAny (model P w) X.A (pyNext (.ref it)) (λr s1=>∃u,r=some u/\
   wpAny (model P w) X.A (letOwnedTupleGo tg (.ref it) u) (λ_ s2=>∃x H',Inv X pins σ H' s2/\RelV x u/\J.yld i H x H'/\tn (i+1) s2.heap/\∀b∈fp,H' b=none) E s1) E s
 done:∀(X:Cx),X.prog=P->X.w=w->X.K=K->X.calm=true->∀(i:Nat)(pins:List (Addr×Obj))(s:Shared)(σ:St)(H:Hp)(E:Value->Shared->Prop),Inv X pins σ H s->(∀b∈fp,jg X pins H b)->tn i s.heap->J.stop i H->
  wpAny (model P w) X.A (pyNext (.ref it)) (λr s1=>r=none/\Inv X pins σ H s1) E s
 self:∀(A:Around)(i:Nat)(s:Shared)(Q:Value->Shared->Prop)(E:Value->Shared->Prop),tn i s.heap->Q (.ref it) s->wpAny (model P w) A (pyIter (.ref it)) Q E s
abbrev TI:=St->Hp->(It->Hp->Prop)->Prop
def PIE(X:Cx)(pins:List (Addr×Obj))(σ:St)(tg:Expr)(R:It->Hp->Prop)(itv:Value)(s2:Shared):Prop:=
 ∃(it:Addr)(fp:List Addr)(tn:Nat->Heap->Prop)(J:It)(H':Hp),itv= .ref it/\Inv X pins σ H' s2/\Turn X.prog X.w X.K tg J fp it tn/\tn 0 s2.heap/\(∀b∈fp,jg X pins H' b)/\R J H'
def PI(X:Cx)(tg iter:Expr)(wi:TI):Prop:=
 ∀(pins:List (Addr×Obj))(s:Shared)(σ:St)(H:Hp)(R:It->Hp->Prop),Inv X pins σ H s->wi σ H R->
  wpAny (model X.prog X.w) X.A (eval iter X.env) (λv s1=>wpAny (model X.prog X.w) X.A (pyIter v) (PIE X pins σ tg R) X.xe s1) X.xe s
theorem Hb{M:Model}{A:Around}{E:Value->Shared->Prop}{s:Shared}{tg:Expr}{it:Addr}{u:Value}{o:Obj}{n:String}{vs:Array Value}{Q:Unit->Shared->Prop}(ho:s.heap.get? it=some o)(hc:o.cls= .type n)(hd:o.data= .fields vs)
  (hn:["enumerate","zip","dict_itemiterator","dict_reverseitemiterator","odict_iterator","itertools.zip_longest","itertools.pairwise"].contains n=false) (hQ:Q () s):wpAny M A (letOwnedTupleGo tg (.ref it) u) Q E s:=by
 unfold letOwnedTupleGo
 cases tg<;>first
  |exact wpAny_pure hQ
  |(cases u<;>first
   |exact wpAny_pure hQ
   |(refine wpAny_bind (wpAny_load ho ?_)
     rw[hc,hd]
     show wpAny M A (if(["enumerate","zip","dict_itemiterator","dict_reverseitemiterator","odict_iterator","itertools.zip_longest","itertools.pairwise"].contains n&&vs[0]? ==some (rawInt _))=true then _ else _) Q E s
     rw[if_neg (by intro h;rw[hn,Bool.false_and]at h;cases h)]
     exact wpAny_pure hQ))
def Itl(K:PySem.W.Frag)(a:Addr):It:=
 ⟨λi H=>∃xs x,SqL K H a xs/\xs[i]? =some x,λi H x H'=>H'=H/\∀xs,SqL K H a xs->xs[i]? =some x,λi H=>∃xs,SqL K H a xs/\xs.length<=i⟩
def Itt(K:PySem.W.Frag)(a:Addr):It:=
 ⟨λi H=>∃xs x,SqT K H a xs/\xs[i]? =some x,λi H x H'=>H'=H/\∀xs,SqT K H a xs->xs[i]? =some x,λi H=>∃xs,SqT K H a xs/\xs.length<=i⟩
def Itr(lo:Int)(n:Nat):It:=⟨λi _=>i<n,λi H x H'=>H'=H/\x= .int (lo+i),λi _=>n<=i⟩
theorem wB{P:Program}{w:World}{K:PySem.W.Frag}{tg:Expr}(a it:Addr):Turn P w K tg (Itl K a) [it] it (λi h=>h.IsListIter it a i) where
 mem:=by simp
 obj:=λi h st b hb=>by
  have e:b=it:=by simpa using hb
  subst e
  obtain⟨o,e,c,d⟩:=st
  exact⟨o,e,λv z=>by rw[d]at z;cases z⟩
 keep:=λi h h' st k=>st.at λo e=>k it (by simp) o e
 item:=by
  intro X hP hw hK hc i pins s σ H E I hf st hg
  subst hP hw hK
  obtain⟨xs,x,hq,hx⟩:=hg
  obtain⟨its,rv,p,hz⟩:=I.list hq
  obtain⟨u,hu,ru⟩:=rv.get hx
  obtain⟨f0,f1,f2,f3,f4,f5⟩:=hf it (by simp)
  refine wpAny_pyNext_list_item st p.isList (x:=u) (by simpa using hu) λh' st' sb=>?_
  have I1:Inv X pins σ H { s with heap:=h'}:=I.turned (t':=s.toks) (λb o hb e=>(sb.2 b hb).trans e) f0 f1 f3 f4 f5
  obtain⟨o,e,c,d⟩:=id st'
  exact⟨u,rfl,Hb (s:={ s with heap:=h'}) e c d (by decide) ⟨x,H,I1,ru,⟨rfl,λys hy=>by rw[I.list_inj hy hq];exact hx⟩,st',λb hb=>(hf b hb).1⟩⟩
 done:=by
  intro X hP hw hK hc i pins s σ H E I hf st hg
  subst hP hw hK
  obtain⟨xs,hq,hx⟩:=hg
  obtain⟨its,rv,p,hz⟩:=I.list hq
  obtain⟨f0,f1,f2,f3,f4,f5⟩:=hf it (by simp)
  have hl:=rv.length
  exact wpAny_pyNext_list_end (I.ok.hd hc) st p.isList (by simp;omega) λh' eb=>⟨rfl,I.turned (t':=s.toks) (λb o hb e=>eb b o hb e) f0 f1 f3 f4 f5⟩
 self:=λ_ _ _ _ _ st h=>wpAny_pyIter_listiter st h
theorem ul{P:Program}{w:World}{K:PySem.W.Frag}{tg:Expr}(a it:Addr):Turn P w K tg (Itt K a) [it] it (λi h=>h.IsTupleIter it a i) where
 mem:=by simp
 obj:=λi h st b hb=>by
  have e:b=it:=by simpa using hb
  subst e
  obtain⟨o,e,c,d⟩:=st
  exact⟨o,e,λv z=>by rw[d]at z;cases z⟩
 keep:=λi h h' st k=>st.at λo e=>k it (by simp) o e
 item:=by
  intro X hP hw hK hc i pins s σ H E I hf st hg
  subst hP hw hK
  obtain⟨xs,x,hq,hx⟩:=hg
  obtain⟨its,rv,p,hz⟩:=I.tuple hq
  obtain⟨u,hu,ru⟩:=rv.get hx
  obtain⟨f0,f1,f2,f3,f4,f5⟩:=hf it (by simp)
  refine wpAny_pyNext_tuple_item st (show s.heap.IsTuple a its.toArray from p) (x:=u) (by simpa using hu) λh' st' sb=>?_
  have I1:Inv X pins σ H { s with heap:=h'}:=I.turned (t':=s.toks) (λb o hb e=>(sb.2 b hb).trans e) f0 f1 f3 f4 f5
  obtain⟨o,e,c,d⟩:=id st'
  exact⟨u,rfl,Hb (s:={ s with heap:=h'}) e c d (by decide) ⟨x,H,I1,ru,⟨rfl,λys hy=>by rw[I.tuple_inj hy hq];exact hx⟩,st',λb hb=>(hf b hb).1⟩⟩
 done:=by
  intro X hP hw hK hc i pins s σ H E I hf st hg
  subst hP hw hK
  obtain⟨xs,hq,hx⟩:=hg
  obtain⟨its,rv,p,hz⟩:=I.tuple hq
  obtain⟨f0,f1,f2,f3,f4,f5⟩:=hf it (by simp)
  have hl:=rv.length
  exact wpAny_pyNext_tuple_end (I.ok.hd hc) st (show s.heap.IsTuple a its.toArray from p) (by simp;omega) λh' eb=>⟨rfl,I.turned (t':=s.toks) (λb o hb e=>eb b o hb e) f0 f1 f3 f4 f5⟩
 self:=λ_ _ _ _ _ st h=>wpAny_pyIter_tupleiter st h
theorem Bu{P:Program}{w:World}{K:PySem.W.Frag}{tg:Expr}(it:Addr)(lo:Int)(n:Nat):Turn P w K tg (Itr lo n) [it] it (λi h=>IsRangeIter h it (lo+(i:Nat)*1) ((n:Int)-(i:Nat)) 1) where
 mem:=by simp
 obj:=λi h st b hb=>by
  have e:b=it:=by simpa using hb
  subst e
  exact⟨_,st,λv z=>by
   have z':Data.fields _=Data.cell v:=z
   cases z'⟩
 keep:=λi h h' st k=>k it (by simp) _ st
 item:=by
  intro X hP hw hK hc i pins s σ H E I hf st hg
  subst hP hw hK
  obtain⟨f0,f1,f2,f3,f4,f5⟩:=hf it (by simp)
  have W:=Walks.range (prog:=X.prog) (w:=X.w) (I.ok.hd hc) it lo 1 n
  refine W.item i s _ _ hg st λv h' tk hv st' kk=>?_
  obtain⟨t,rfl⟩:=hv
  have I1:Inv X pins σ H { s with heap:=h',toks:=tk}:=I.turned (λb o hb e=>kk b o (by simpa using hb) e) f0 f1 f3 f4 f5
  refine⟨_,rfl,Hb (s:={ s with heap:=h',toks:=tk}) (n:="range_iterator") st' rfl rfl (by decide) ⟨.int (lo+i),H,I1,⟨t,?_⟩,⟨rfl,rfl⟩,st',λb hb=>(hf b hb).1⟩⟩
  rw[Int.mul_one]
 done:=by
  intro X hP hw hK hc i pins s σ H E I hf st hg
  subst hP hw hK
  obtain⟨f0,f1,f2,f3,f4,f5⟩:=hf it (by simp)
  exact wpAny_pyNext_range_end (I.ok.hd hc) st (by have:n<=i:=hg;omega) λh' eb=>⟨rfl,I.turned (t':=s.toks) (λb o hb e=>eb b o hb e) f0 f1 f3 f4 f5⟩
 self:=λ_ _ _ _ _ st h=>wpAny_pyIter_rangeiter st h
section
variable {X:Cx} {tg:Expr}
theorem yJ{pins:List (Addr×Obj)}{σ:St}{H:Hp}{s:Shared}{R:It->Hp->Prop}{E:Value->Shared->Prop}{lo hi:Int}{t u v:Tok}{tk:Nat}(I:Inv X pins σ H s)(h1: -(2 ^ 62)<=lo)(h2:lo<2 ^ 62)(h3: -(2 ^ 62)<=hi)(h4:hi<2 ^ 62)
  (q:R (Itr lo (hi-lo).toNat) H):wpAny (model X.prog X.w) X.A (pyIter (.ref s.heap.objs.size)) (PIE X pins σ tg R) E { s with heap:=s.heap.push { cls:=.type "range",data:=.fields #[.int lo t,.int hi u,.int 1 v] },toks:=tk}:=by
 refine wpAny_pyIter_range (IsRange.new ..) (small_one h1 h2 h3 h4) ?_
 have I1:Inv X pins σ H { s with heap:=s.heap.push { cls:=.type "range",data:=.fields #[.int lo t,.int hi u,.int 1 v] },toks:=tk}:=I.kept λb o e=>Zb _ e
 refine⟨(s.heap.push { cls:=.type "range",data:=.fields #[.int lo t,.int hi u,.int 1 v] }).objs.size,[(s.heap.push { cls:=.type "range",data:=.fields #[.int lo t,.int hi u,.int 1 v] }).objs.size],_,_,H,rfl,
  I1.kept (t':=tk) λb o e=>Zb _ e,Bu _ lo (hi-lo).toNat,?_,λb hb=>?_,q⟩
 .have e1:lo+((0:Nat):Int)*1=lo:=by simp
  have e2:(((hi-lo).toNat:Nat):Int)-((0:Nat):Int)=Builtin.Range.rangeSize lo hi 1:=by rw[rangeSize_one];split<;>omega
  show IsRangeIter _ _ (lo+((0:Nat):Int)*1) ((((hi-lo).toNat:Nat):Int)-((0:Nat):Int)) 1
  rw[e1,e2]
  exact Zf _ rfl
 .have e:b=(s.heap.push { cls:=.type "range",data:=.fields #[.int lo t,.int hi u,.int 1 v] }).objs.size:=by simpa using hb
  subst e
  exact I1.fpOk (Zg _) (I1.hok.fresh (Zg _))
def SQ(ta:TA):TI:=λσ H R=>ta σ H λvs H1=>∃j:Int,vs=[.int j]/\ -(2 ^ 62)<=j/\j<2 ^ 62/\R (Itr 0 j.toNat) H1
def RC(ta:TA):TI:=λσ H R=>ta σ H λvs H1=>∃i j:Int,vs=[.int i,.int j]/\(-(2 ^ 62)<=i/\i<2 ^ 62/\ -(2 ^ 62)<=j/\j<2 ^ 62)/\R (Itr i (j-i).toNat) H1
theorem Ep{a:Expr}{ta:TA}{p pos:Pos}(hg:Gl X "range")(hm:X.mg "range"=none)(ha:PA X [a] ta)(hs:starEach [a] X.env=[(false,eval a X.env)]:=by rfl):PI X tg (.Call (.Name "range" p) [a] [] pos) (SQ ta):=by
 intro pins s σ H R I h
 refine Call_ (jK I hg hm boot_range (PyProof.Rows.callWith_type1 (thn (ha pos pins s σ H _ I h) λus s1 ⟨vs,H1,I1,r1,q1⟩=>?_) hs rfl))
 obtain⟨j,e,q1,q2,q⟩:=q1
 subst e
 cases r1 with
 |cons r rr=>
  cases rr
  obtain⟨t,rfl⟩:=r
  exact call_range_1 (yJ I1 (by omega) (by omega) q1 q2 (by simpa using q))
theorem DK{a b:Expr}{ta:TA}{p pos:Pos}(hg:Gl X "range")(hm:X.mg "range"=none)(ha:PA X [a,b] ta)(hs:starEach [a,b] X.env=[(false,eval a X.env),(false,eval b X.env)]:=by rfl)(hs2:starEach [b] X.env=[(false,eval b X.env)]:=by rfl):
  PI X tg (.Call (.Name "range" p) [a,b] [] pos) (RC ta):=by
 intro pins s σ H R I h
 refine Call_ (jK I hg hm boot_range (PyProof.Rows.callWith_type1 (thn (ha pos pins s σ H _ I h) λus s1 ⟨vs,H1,I1,r1,q1⟩=>?_) (by rw[hs,hs2]) (by rw[hs2];rfl)))
 obtain⟨i,j,e,⟨q1,q2,q3,q4⟩,q⟩:=q1
 subst e
 cases r1 with
 |cons r rr=>
  cases rr with
  |cons r' rr=>
   cases rr
   obtain⟨t,rfl⟩:=r
   obtain⟨t',rfl⟩:=r'
   exact call_range_2 (yJ I1 q1 q2 q3 q4 q)
def tFor(wi:TI)(g:TG)(tb:TS):TS:=λD σ H=>wi σ H λJ H1=>∃W:Nat->Nat->St->Hp->Prop,(∃m,W 0 m σ H1)/\∀i m σ H,W i m σ H->
 (J.stop i H/\D.nx σ H)∨(J.go i H/\∃N:St->Hp->Prop,(∀σ' H',N σ' H'->∃m',m'<m/\W (i+1) m' σ' H')/\∀x H',J.yld i H x H'->g x σ H' λσ2 H2=>tb { D with nx:=N,ct:=N,bk:=D.nx} σ2 H2)
def mx(fp:List Addr)(h:Heap):List (Addr×Obj):=fp.filterMap λb=>(h.get? b).map λo=>(b,o)
theorem dG{fp:List Addr}{h:Heap}{b:Addr}{o:Obj}(hb:b∈fp)(e:h.get? b=some o):(b,o)∈mx fp h:=List.mem_filterMap.mpr ⟨b,hb,by rw[e];rfl⟩
theorem vz{fp:List Addr}{h:Heap}{p:Addr×Obj}(hp:p∈mx fp h):p.1∈fp/\h.get? p.1=some p.2:=by
 obtain⟨b,hb,e⟩:=List.mem_filterMap.mp hp
 cases q:h.get? b with
 |none=>rw[q]at e;cases e
 |some o=>
  rw[q]at e
  have e':(b,o)=p:=Option.some.inj e
  subst e'
  exact⟨hb,q⟩
theorem Inv.pinned{pins:List (Addr×Obj)}{σ:St}{H:Hp}{s:Shared}{fp:List Addr}(I:Inv X pins σ H s)(hf:∀b∈fp,jg X pins H b)(ho:∀b∈fp,∃o,s.heap.get? b=some o/\∀v,o.data≠ .cell v):Inv X (pins++mx fp s.heap) σ H s:=
 I.pins_of λp hp=>(Zm.mp hp).elim (λz=>I.pin p (Zn _ z)) λz=>by
  obtain⟨hb,e⟩:=vz z
  obtain⟨f0,f1,f2,_⟩:=hf p.1 hb
  obtain⟨o,e',d⟩:=ho p.1 hb
  rw[e]at e';cases e'
  exact⟨e,f0,f1,f2,d⟩
theorem Inv.unpinned{pins pl:List (Addr×Obj)}{σ:St}{H:Hp}{s:Shared}(I:Inv X (pins++pl) σ H s):Inv X pins σ H s:=I.pins_of λp hp=>I.pin p (Zn _ (List.mem_append_left _ hp))
theorem PN{iter:Expr}{body:List Stmt}{wi:TI}{g:TG}{tb:TS}{pos:Pos}(hp:PassesOwn (model X.prog X.w) X.A X.env X.xe)(hc:X.calm=true)(hi:PI X tg iter wi)(hg:PG X tg g)(hb:PSs X body tb)
  (hs:∀x,foldedSetIterable iter X.env x=pure x:=by intro _;rfl):PS X (.For tg iter body [] pos) (tFor wi g tb):=by
 intro pins s σ H D I h
 refine wpAny_For (thn (hi pins s σ H _ I h) λv s1 h1=>thn h1 λitv s2 h2=>?_) hs
 obtain⟨it,fp,tn,J,H2,e,I2,T,st2,f2,W,⟨m0,w0⟩,turn⟩:=h2
 subst e
 have stat:∀{H':Hp},(∀b∈fp,H' b=none)->∀b∈fp,jg X pins H' b:=λhn b hb=>⟨hn b hb,(f2 b hb).2⟩
 refine codeAny_forLoop_any (λn s'=>∃i σ' H',Inv X pins σ' H' s'/\tn i s'.heap/\(∀b∈fp,H' b=none)/\W i n σ' H') ?_ m0 ⟨0,σ,H2,I2,st2,λb hb=>(f2 b hb).1,w0⟩
 rintro n s3 ⟨i,σ3,H3,I3,st3,fr3,w3⟩
 rcases turn i n σ3 H3 w3 with⟨stop,qn⟩|⟨go,N,hN,step⟩
 .refine wpAny_passesOwn hp (thn (T.done X rfl rfl rfl hc i pins s3 σ3 H3 X.xe I3 (stat fr3) st3 stop) λr s4 zq30=>?_)
  obtain⟨hr,I4⟩:=zq30
  subst hr
  exact wpAny_execs_nil ⟨σ3,H3,I4,qn⟩
 .refine wpAny_passesOwn hp (thn (T.item X rfl rfl rfl hc i pins s3 σ3 H3 X.xe I3 (stat fr3) st3 go) λr s4 zq31=>?_)
  obtain⟨u,hr,h4⟩:=zq31
  subst hr
  refine wpAny_passesOwn hp (thn h4 λ_ s5 zq32=>?_)
  obtain⟨x,H5,I5,r5,y5,st5,fr5⟩:=zq32
  have I5':=I5.pinned (stat fr5) (T.obj _ _ st5)
  refine wpAny_passesOwn hp (thn (hg _ s5 σ3 H5 x u _ I5' r5 (step x H5 y5)) λ_ s6 zq33=>?_)
  obtain⟨σ6,H6,I6,q6⟩:=zq33
  refine wpAny_passesOwn hp (thn (hb _ s6 σ6 H6 _ I6 q6) λf s7 q7=>?_)
  have again:∀{σ7:St}{H7:Hp},Inv X (pins++mx fp s5.heap) σ7 H7 s7->N σ7 H7->∃m,m<n/\∃i σ' H',Inv X pins σ' H' s7/\tn i s7.heap/\(∀b∈fp,H' b=none)/\W i m σ' H':=λ{σ7 H7} I7 n7=>by
   obtain⟨m',hm,w7⟩:=hN σ7 H7 n7
   refine⟨m',hm,i+1,σ7,H7,I7.unpinned,T.keep _ _ _ st5 λb hb o e=>(I7.pin (b,o) (Zn _ (Zn _ (dG hb e)))).1,λb hb=>?_,w7⟩
   obtain⟨o,e,d⟩:=T.obj _ _ st5 b hb
   exact(I7.pin (b,o) (Zn _ (Zn _ (dG hb e)))).2.1
  cases f with
  |next=>obtain⟨σ7,H7,I7,n7⟩:=q7;exact again I7 n7
  |cont=>obtain⟨σ7,H7,I7,n7⟩:=q7;exact again I7 n7
  |brk=>obtain⟨σ7,H7,I7,q7⟩:=q7;exact⟨σ7,H7,I7.unpinned,q7⟩
  |ret v=>obtain⟨x7,σ7,H7,I7,r7,q7⟩:=q7;exact⟨x7,σ7,H7,I7.unpinned,r7,q7⟩
end
abbrev R2:=V->V->Hp->VK->Prop
def OpR(X:Cx)(f:Value->Value->Sem Value)(r:R2):Prop:=
 ∀(pins:List (Addr×Obj))(s:Shared)(σ:St)(H:Hp)(x y:V)(v u:Value)(Q:VK),Inv X pins σ H s->RelV x v->RelV y u->r x y H Q->
  wpAny (model X.prog X.w) X.A (f v u) (EP X pins σ Q) X.xe s
def UnR(X:Cx)(f:Value->Sem Value)(r:V->Hp->VK->Prop):Prop:=
 ∀(pins:List (Addr×Obj))(s:Shared)(σ:St)(H:Hp)(x:V)(v:Value)(Q:VK),Inv X pins σ H s->RelV x v->r x H Q->
  wpAny (model X.prog X.w) X.A (f v) (EP X pins σ Q) X.xe s
def lL(X:Cx)(f:Value)(r:List V->Hp->VK->Prop):Prop:=
 ∀(pins:List (Addr×Obj))(s:Shared)(σ:St)(H:Hp)(xs:List V)(us:List Value)(Q:VK),Inv X pins σ H s->Vals xs us->r xs H Q->
  wpAny (model X.prog X.w) X.A (call f us) (EP X pins σ Q) X.xe s
def TruR(X:Cx)(r:V->Hp->(Bool->Hp->Prop)->Prop):Prop:=
 ∀(pins:List (Addr×Obj))(s:Shared)(σ:St)(H:Hp)(x:V)(v:Value)(Q:Bool->Hp->Prop),Inv X pins σ H s->RelV x v->r x H Q->
  wpAny (model X.prog X.w) X.A (truthy v) (TP X pins σ Q) X.xe s
def tOp(r:R2)(ta tb:TE):TE:=λσ H Q=>ta σ H λx H1=>tb σ H1 λy H2=>r x y H2 Q
def tUn(r:V->Hp->VK->Prop)(ta:TE):TE:=λσ H Q=>ta σ H λx H1=>r x H1 Q
def rI(C:Int->Int->Prop)(g:Int->Int->V):R2:=λx y H Q=>∃i j,x= .int i/\y= .int j/\C i j/\Q (g i j) H
def rI0(g:Int->Int->V):R2:=λx y H Q=>∃i j,x= .int i/\y= .int j/\Q (g i j) H
def rU(g:Int->V):V->Hp->VK->Prop:=λx H Q=>∃i,x= .int i/\Q (g i) H
section
variable {X:Cx} {a b c:Expr} {ta tb tc:TE} {pos:Pos}
theorem Qs(ha:PE X a ta)(hb:PE X b tb){pins:List (Addr×Obj)}{s:Shared}{σ:St}{H:Hp}{R:V->V->Hp->Prop}(I:Inv X pins σ H s)
  (h:ta σ H λx H1=>tb σ H1 λy H2=>R x y H2) {Q:Value->Shared->Prop} {f:Value->Value->Sem Value}
  (hf:∀v u s2 x y H2,Inv X pins σ H2 s2->RelV x v->RelV y u->R x y H2->wpAny (model X.prog X.w) X.A (f v u) Q X.xe s2):
  wpAny (model X.prog X.w) X.A (eval a X.env) (λv s₁=>wpAny (model X.prog X.w) X.A (eval b X.env) (λu s₂=>wpAny (model X.prog X.w) X.A (f v u) Q X.xe s₂) X.xe s₁) X.xe s:=by
 refine thn (ha pins s σ H _ I h) λv s1 zq34=>?_
 obtain⟨x,H1,I1,r1,q1⟩:=zq34
 refine thn (hb pins s1 σ H1 _ I1 q1) λu s2 zq35=>?_
 obtain⟨y,H2,I2,r2,q2⟩:=zq35
 exact hf v u s2 x y H2 I2 r1 r2 q2
theorem Sq{op:Operator}{r:R2}(ho:OpR X (binaryOp op) r)(ha:PE X a ta)(hb:PE X b tb):PE X (.BinOp a op b pos) (tOp r ta tb):=by
 intro pins s σ H Q I h
 exact wpAny_BinOp (Qs ha hb I h λv u s2 x y H2 I2 rx ry q=>ho pins s2 σ H2 x y v u Q I2 rx ry q)
theorem Su{op:UnaryOp}{r:V->Hp->VK->Prop}(ho:UnR X (unaryOp op) r)(ha:PE X a ta):PE X (.UnaryOp op a pos) (tUn r ta):=by
 intro pins s σ H Q I h
 exact UnaryOp_ (thn (ha pins s σ H _ I h) λv s1 ⟨x,H1,I1,r1,q1⟩=>ho pins s1 σ H1 x v Q I1 r1 q1)
theorem opI{f:Value->Value->Sem Value}{C:Int->Int->Prop}{g:Int->Int->Int}
  (rule:∀(i j:Int)(t u:Tok)(s:Shared)(Q:Value->Shared->Prop)(E:Value->Shared->Prop),C i j->Q (.int (g i j) s.toks) { s with toks:=s.toks+1}->wpAny (model X.prog X.w) X.A (f (.int i t) (.int j u)) Q E s):
  OpR X f (rI C λi j=>.int (g i j)):=by
 intro pins s σ H x y v u Q I rx ry h
 obtain⟨i,j,rfl,rfl,hc,q⟩:=h
 obtain⟨t,rfl⟩:=rx
 obtain⟨t',rfl⟩:=ry
 exact rule i j t t' s _ _ hc ⟨.int (g i j),H,I.tok _,⟨_,rfl⟩,q⟩
theorem TX{f:Value->Value->Sem Value}{g:Int->Int->Int}
  (rule:∀(i j:Int)(t u:Tok)(s:Shared)(Q:Value->Shared->Prop)(E:Value->Shared->Prop),Q (.int (g i j) s.toks) { s with toks:=s.toks+1}->wpAny (model X.prog X.w) X.A (f (.int i t) (.int j u)) Q E s):
  OpR X f (rI0 λi j=>.int (g i j)):=by
 intro pins s σ H x y v u Q I rx ry h
 obtain⟨i,j,rfl,rfl,q⟩:=h
 obtain⟨t,rfl⟩:=rx
 obtain⟨t',rfl⟩:=ry
 exact rule i j t t' s _ _ ⟨.int (g i j),H,I.tok _,⟨_,rfl⟩,q⟩
theorem Qe{f:Value->Value->Sem Value}{g:Int->Int->Bool}
  (rule:∀(i j:Int)(t u:Tok)(s:Shared)(Q:Value->Shared->Prop)(E:Value->Shared->Prop),Q (.bool (g i j)) s->wpAny (model X.prog X.w) X.A (f (.int i t) (.int j u)) Q E s):
  OpR X f (rI0 λi j=>.bl (g i j)):=by
 intro pins s σ H x y v u Q I rx ry h
 obtain⟨i,j,rfl,rfl,q⟩:=h
 obtain⟨t,rfl⟩:=rx
 obtain⟨t',rfl⟩:=ry
 exact rule i j t t' s _ _ ⟨.bl (g i j),H,I,rfl,q⟩
theorem Np:OpR X (binaryOp .Add) (rI0 λi j=>.int (i+j)):=TX λ_ _ _ _ _ _ _ q=>add_int q
theorem Pk:OpR X (binaryOp .Sub) (rI0 λi j=>.int (i-j)):=TX λ_ _ _ _ _ _ _ q=>sub_int q
theorem JV:OpR X (binaryOp .Mod) (rI (λ_ j=>j≠0) λi j=>.int (i.fmod j)):=opI λ_ _ _ _ _ _ _ hc q=>mod_int' hc q
theorem unI{f:Value->Sem Value}{g:Int->Int}
  (rule:∀(i:Int)(t:Tok)(s:Shared)(Q:Value->Shared->Prop)(E:Value->Shared->Prop),Q (.int (g i) s.toks) { s with toks:=s.toks+1}->wpAny (model X.prog X.w) X.A (f (.int i t)) Q E s):
  UnR X f (rU λi=>.int (g i)):=by
 intro pins s σ H x v Q I rx h
 obtain⟨i,rfl,q⟩:=h
 obtain⟨t,rfl⟩:=rx
 exact rule i t s _ _ ⟨.int (g i),H,I.tok _,⟨_,rfl⟩,q⟩
theorem Nq:UnR X (unaryOp .USub) (rU λi=>.int (-i)):=unI λ_ _ _ _ _ q=>neg_int q
end
section
variable {X:Cx} {a b c:Expr} {ta tb tc:TE} {pos:Pos}
theorem Hv{pins:List (Addr×Obj)}{σ:St}{H:Hp}{s:Shared}{Q:VK}{k k':Bool}(I:Inv X pins σ H s)(q:Q (.bl k) H)(e:k=k'):EP X pins σ Q (.bool k') s:=by
 subst e
 exact⟨.bl k,H,I,rfl,q⟩
theorem Sg:OpR X (compareOp .Lt) (rI0 λi j=>.bl (decide (i<j))):=Qe λ_ _ _ _ _ _ _ q=>lt_int q
theorem RJ:OpR X (compareOp .Gt) (rI0 λi j=>.bl (decide (j<i))):=Qe λ_ _ _ _ _ _ _ q=>gt_int q
theorem Td:OpR X (compareOp .GtE) (rI0 λi j=>.bl (decide (j<=i))):=Qe λ_ _ _ _ _ _ _ q=>ge_int q
theorem NT:OpR X (compareOp .Is) (λx y H Q=>y= .non/\Q (.bl (decide (x= .non))) H):=by
 intro pins s σ H x y v u Q I rx ry h
 obtain⟨rfl,q⟩:=h
 cases ry
 refine is_none_gen (Hv I q ?_)
 cases x<;>first
  |(cases rx;rfl)
  |(obtain⟨t,rfl⟩:=rx;rfl)
theorem Kl:OpR X (compareOp .IsNot) (λx y H Q=>y= .non/\Q (.bl (!decide (x= .non))) H):=by
 intro pins s σ H x y v u Q I rx ry h
 obtain⟨rfl,q⟩:=h
 cases ry
 refine isnot_none_gen (Hv I q ?_)
 cases x<;>first
  |(cases rx;rfl)
  |(obtain⟨t,rfl⟩:=rx;rfl)
theorem OpR.or{f:Value->Value->Sem Value}{r r':R2}(h:OpR X f r)(h':OpR X f r'):OpR X f (λx y H Q=>r x y H Q∨r' x y H Q):=by
 intro pins s σ H x y v u Q I rx ry q
 rcases q with q|q
 .exact h pins s σ H x y v u Q I rx ry q
 .exact h' pins s σ H x y v u Q I rx ry q
theorem Lb{op:CmpOp}{r:R2}(ho:OpR X (compareOp op) r)(ha:PE X a ta)(hb:PE X b tb)(hm:behindInMarks op b=false):PE X (.Compare a [op] [b] pos) (tOp r ta tb):=by
 intro pins s σ H Q I h
 exact wpAny_Compare1 (Qs ha hb I h λv u s2 x y H2 I2 rx ry q=>ho pins s2 σ H2 x y v u Q I2 rx ry q) hm
def Tq(t:TE):TT:=λσ H Q=>t σ H λx H'=>∃k,x= .bl k/\Q k H'
theorem La{op:CmpOp}{r:R2}(ho:OpR X (compareOp op) r)(ha:PE X a ta)(hb:PE X b tb)(hm:behindInMarks op b=false):PT X (.Compare a [op] [b] pos) (Tq (tOp r ta tb)):=by
 intro pins s σ H Q I h
 refine wpAny_isTrue_Compare1 (thn (ha pins s σ H _ I h) λv s1 ⟨x,H1,I1,r1,q1⟩=>thn (hb pins s1 σ H1 _ I1 q1) λu s2 ⟨y,H2,I2,r2,q2⟩=>
  thn (ho pins s2 σ H2 x y v u _ I2 r1 r2 q2) λc s3 ⟨z,H3,I3,r3,k,e,q3⟩=>?_) hm
 subst e
 cases r3
 exact wpAny_truthy_bool ⟨H3,I3,q3⟩
def Nv(K:PySem.W.Frag)(x:V)(H:Hp)(k:Bool):Prop:=
 match x with
 | .non=>k=false
 | .bl b=>k=b
 | .int i=>k=(i != 0)
 | .str y=>y.length<=sizeLine/\k=((y.length:Int) != 0)
 | .byt y=>y.size<=sizeLine/\k=((y.size:Int) != 0)
 | .ref p=>(∃xs,SqL K H p xs/\k= !xs.isEmpty)∨(∃xs,SqT K H p xs/\k= !xs.isEmpty)∨∃kvs,H p=some (.dK kvs)/\k= !kvs.isEmpty
 |_=>False
theorem Bg{κ:Type}{kvs:List (κ×V)}{vs:List (κ×Value)}(r:KV kvs vs):(!vs.isEmpty)= !kvs.isEmpty:=by
 cases r<;>rfl
theorem uD{xs:List V}{its:List Value}(r:Vals xs its):(!its.toArray.isEmpty)= !xs.isEmpty:=by
 cases r<;>simp
theorem oh:(sizeLine:Nat)<2 ^ 63:=by rw[sizeLine_eq];decide
theorem PJ:TruR X (λx H Q=>∃k,Nv X.K x H k/\Q k H):=by
 intro pins s σ H x v Q I rx h
 obtain⟨k,e,q⟩:=h
 have hl:=oh
 have hs:sizeLine=16777216:=sizeLine_eq
 cases x with
 |non=>
  cases rx
  have e':k=false:=e
  subst e'
  exact truthy_none ⟨H,I,q⟩
 |bl b=>
  cases rx
  have e':k=b:=e
  subst e'
  exact wpAny_truthy_bool ⟨H,I,q⟩
 |int i=>
  obtain⟨t,rfl⟩:=rx
  have e':k=(i != 0):=e
  subst e'
  exact PySem.P.truthy_int ⟨H,I,q⟩
 |str y=>
  obtain⟨t,rfl⟩:=rx
  obtain⟨hy,e'⟩:y.length<=sizeLine/\k=((y.length:Int) != 0):=e
  subst e'
  exact PySem.P.truthy_str (by omega) ⟨H,I.tok _,q⟩
 |byt y=>
  obtain⟨t,rfl⟩:=rx
  obtain⟨hy,e'⟩:y.size<=sizeLine/\k=((y.size:Int) != 0):=e
  subst e'
  exact PySem.W.truthy_bytes (by omega) ⟨H,I.tok _,q⟩
 |ref p=>
  cases rx
  have e':(∃xs,SqL X.K H p xs/\k= !xs.isEmpty)∨(∃xs,SqT X.K H p xs/\k= !xs.isEmpty)∨∃kvs,H p=some (.dK kvs)/\k= !kvs.isEmpty:=e
  rcases e' with⟨xs,hx,e'⟩|⟨xs,hx,e'⟩|⟨kvs,hx,e'⟩
  .subst e'
   obtain⟨its,r,pl,hz⟩:=I.list hx
   have hlen:=r.length
   exact wpAny_truthy_list pl.isList (by simp only[Zd];omega) ⟨H,I.tok _,by rw[uD r];exact q⟩
  .subst e'
   obtain⟨its,r,pl,hz⟩:=I.tuple hx
   have hlen:=r.length
   exact truthy_tuple pl (by simp only[Zd];omega) ⟨H,I.tok _,by rw[uD r];exact q⟩
  .subst e'
   obtain⟨hz,hS,vs,r,m⟩:kvs.length<=sizeLine/\(p==sysModules)=false/\∃vs,KV kvs vs/\s.heap.DictOf (xM X.prog X.w) p vs:=I.hok p _ hx
   have hlen:kvs.length=vs.length:=Paired.length r
   exact wpAny_truthy_dict hS m (by omega) ⟨H,I.tok _,by rw[Bg r];exact q⟩
 |_=>exact(show False from e).elim
theorem Fp(ha:PE X a ta)(he:∀whole,isTrue a X.env whole=(do let v<-whole;standAt a.pos;holding [v] (truthy v))):
  PT X a (λσ H Q=>ta σ H λx H'=>∃k,Nv X.K x H' k/\Q k H'):=by
 intro pins s σ H Q I h
 exact isTrue_plain (thn (ha pins s σ H _ I h) λv s1 ⟨x,H1,I1,r1,q1⟩=>PJ pins s1 σ H1 x v Q I1 r1 q1) (he _)
theorem An:OpR X (binaryOp .Add) (λx y H Q=>∃i j,x= .str i/\y= .str j/\i.length+j.length<=sizeLine/\Q (.str (i++j)) H):=by
 intro pins s σ H x y v u Q I rx ry h
 obtain⟨i,j,rfl,rfl,hz,q⟩:=h
 obtain⟨t,rfl⟩:=rx
 obtain⟨t',rfl⟩:=ry
 exact add_str (λt' tk=>⟨.str (i++j),H,I.tok _,⟨_,rfl⟩,q⟩) hz
theorem vals1{x:V}{us:List Value}(r:Vals [x] us):∃u,us=[u]/\RelV x u:=by
 cases r with
 |cons r1 r2=>cases r2;exact⟨_,rfl,r1⟩
theorem vals2{x y:V}{us:List Value}(r:Vals [x,y] us):∃u w',us=[u,w']/\RelV x u/\RelV y w':=by
 cases r with
 |cons r1 r2=>
  cases r2 with
  |cons r3 r4=>cases r4;exact⟨_,_,rfl,r1,r3⟩
theorem Gf:lL X (.builtin "abs") (λxs H Q=>∃i,xs=[.int i]/\Q (.int (if i<0 then -i else i)) H):=by
 intro pins s σ H xs us Q I r h
 obtain⟨i,rfl,q⟩:=h
 obtain⟨u,rfl,t,rfl⟩:=vals1 r
 exact call_abs_int λu tk=>⟨.int (if i<0 then -i else i),H,I.tok _,⟨_,rfl⟩,q⟩
theorem Ek(hc:X.calm=true):lL X (.builtin "min") (λxs H Q=>∃i j,xs=[.int i,.int j]/\Q (.int (if j<i then j else i)) H):=by
 intro pins s σ H xs us Q I r h
 obtain⟨i,j,rfl,q⟩:=h
 obtain⟨u,w',rfl,⟨t,rfl⟩,⟨t',rfl⟩⟩:=vals2 r
 refine min_two_ints (I.ok.hd hc) λh' tk k=>⟨_,H,I.kept k,?_,q⟩
 by_cases hj:j<i
 .rw[if_pos hj,if_pos hj];exact⟨_,rfl⟩
 .rw[if_neg hj,if_neg hj];exact⟨_,rfl⟩
end
def Hf(f:Str)(v:V):List (Str×V)->List (Str×V)
 | []=>[(f,v)]
 |(g,x)::r=>if g=f then(g,v)::r else(g,x)::Hf f v r
structure gW(k:Nat)(A:Around):Prop where
 hd:A.handled=none
 dp:A.depth+3*k+5<recursionLimit
 un:A.units+16*k+200<cLine
theorem gW.mono{j k:Nat}{A:Around}(r:gW k A)(h:j<=k):gW j A:=⟨r.hd,by have:=r.dp;omega,by have:=r.un;omega⟩
theorem gW.deeper{k:Nat}{A:Around}(r:gW (k+1) A)(env:Env):gW k (A.deeper env):=
 ⟨r.hd,by have:=r.dp;show A.depth+1+3*k+5<_;omega,by have:=r.un;show A.units+3+16*k+200<_;omega⟩
theorem gW.depth{k:Nat}{A:Around}(r:gW k A):A.depth<recursionLimit:=by have:=r.dp;omega
def tNil:TA:=λ_ H Q=>Q [] H
def Rr(ta:TE)(tr:TA):TA:=λσ H Q=>ta σ H λx H1=>tr σ H1 λxs H2=>Q (x::xs) H2
section
variable {X:Cx} {e:Expr} {es:List Expr} {te:TE} {t:TA} {pos:Pos}
theorem Bt:PA X [] tNil:=λ_ _ _ _ H Q I h=>Calls.spliced_nil ⟨[],H,I,.nil,h⟩
theorem rW(ha:PE X e te)(hr:PA X es t)(hs:starEach (e::es) X.env=(false,eval e X.env)::starEach es X.env:=by rfl):PA X (e::es) (Rr te t):=by
 intro pos pins s σ H Q I h
 rw[hs]
 show wpAny _ _ (spliced ((false,eval e X.env)::backTo pos (starEach es X.env))) _ _ s
 refine Calls.spliced_cons (thn (ha pins s σ H _ I h) λu s1 zq46=>?_)
 obtain⟨x,H1,I1,r1,q1⟩:=zq46
 exact thn (hr pos pins s1 σ H1 _ I1 q1) λus s2 ⟨xs,H2,I2,r2,q2⟩=>⟨x::xs,H2,I2,.cons r1 r2,q2⟩
def tTup(t:TA):TE:=λσ H Q=>t σ H λxs H1=>xs.length<=sizeLine/\∀p,H1 p=none->Q (.ref p) (upd H1 p (.tup xs))
def tLst(t:TA):TE:=λσ H Q=>t σ H λxs H1=>xs.length<=sizeLine/\∀p,H1 p=none->Q (.ref p) (upd H1 p (.lst xs))
theorem NB{x1}(h:PA X es t):PE X (.Tuple es x1 pos) (tTup t):=by
 intro pins s σ H Q I hq
 refine wpAny_Tuple_spliced (thn (h pos pins s σ H _ I hq) λus s1 ⟨xs,H1,I1,r,z,q⟩=>⟨by rw[<-r.length];exact z,?_⟩)
 have hf:H1 s1.heap.objs.size=none:=I1.hok.fresh (Zg _)
 refine⟨.ref s1.heap.objs.size,upd H1 s1.heap.objs.size (.tup xs),I1.laid (t':=s1.toks) (λb u e=>Zb _ e) (Zg _) ?_,rfl,q _ hf⟩
 exact⟨z,us,r,⟨_,Zf _ rfl,rfl,_,rfl⟩⟩
theorem GD(h:PA X es t):PE X (.List es pos) (tLst t):=by
 intro pins s σ H Q I hq
 refine wpAny_List_spliced (thn (h pos pins s σ H _ I hq) λus s1 ⟨xs,H1,I1,r,z,q⟩=>⟨by rw[<-r.length];exact z,?_⟩)
 have hf:H1 s1.heap.objs.size=none:=I1.hok.fresh (Zg _)
 refine⟨.ref s1.heap.objs.size,upd H1 s1.heap.objs.size (.lst xs),I1.laid (t':=s1.toks) (λb u e=>Zb _ e) (Zg _) ?_,rfl,q _ hf⟩
 exact⟨z,us,0,r,Zf _ rfl⟩
end
abbrev Sp:=List V->Hp->VK->XK->Prop
abbrev CXT:=List Env->Hp->Shared->XK->Value->Shared->Prop
structure Jo(P:Program)(w:World)(K:PySem.W.Frag)(mg:Str->Option Value)(base:Heap)(A:Around)(outer:List Env)(s:Shared)(H:Hp):Prop where
 frames:A.frames=some outer
 mod:Mod K mg base
 bs:∀b o,base.get? b=some o->s.heap.get? b=some o/\H b=none
 bsz:base.objs.size<=s.heap.objs.size
 funs:s.heap.FunFrames base outer
 frf:∀b∈frs outer,H b=none
 hok:HOk P w H s.heap
 bare:AllBare s.gens
def CE(outer:List Env)(P:Program)(w:World)(H:Hp)(s:Shared)(Q:VK)(u:Value)(s':Shared):Prop:=
 ∃v H',s'.os=s.os/\GK s.gens s'.gens/\Un (frs outer) [] H H' s.heap s'.heap/\HOk P w H' s'.heap/\RelV v u/\Q v H'
def CR(CX:CXT)(outer:List Env)(P:Program)(w:World)(H:Hp)(s:Shared)(Q:VK)(E:XK)(r:Result)(s':Shared):Prop:=
 match r with
 | .ok (.ret u)=>CE outer P w H s Q u s'
 | .ok _=>False
 | .error e=>CX outer H s E e s'
structure nW(P:Program)(w:World)(K:PySem.W.Frag)(mg:Str->Option Value)(base:Heap)(CX:CXT)(k:Nat)(f:Addr)(fd:FuncData)(ps:List Str)(sp:Sp):Prop where
 len:∀vs H Q E,sp vs H Q E->vs.length=ps.length
 run:∀(A:Around)(outer:List Env)(s:Shared)(H:Hp)(args:Args)(us:List Value)(vs:List V)(Q:VK)(E:XK),gW k A->Jo P w K mg base A outer s H->BindsTo s fd args (ps.zip us)->Vals vs us->sp vs H Q E->
  codeAny (model P w) A (.call (.ref f) args) (CR CX outer P w H s Q E) s
theorem nW.mono{P:Program}{w:World}{K:PySem.W.Frag}{mg:Str->Option Value}{base:Heap}{CX:CXT}{j k:Nat}{f:Addr}{fd:FuncData}{ps:List Str}{sp:Sp}(F:nW P w K mg base CX j f fd ps sp)(h:j<=k):
  nW P w K mg base CX k f fd ps sp:=⟨F.len,λA outer s H args us vs Q E hr=>F.run A outer s H args us vs Q E (hr.mono h)⟩
theorem nW.imp{P:Program}{w:World}{K:PySem.W.Frag}{mg:Str->Option Value}{base:Heap}{CX:CXT}{k:Nat}{f:Addr}{fd:FuncData}{ps:List Str}{sp sp':Sp}(F:nW P w K mg base CX k f fd ps sp)
  (h:∀vs H Q E,sp' vs H Q E->sp vs H Q E):nW P w K mg base CX k f fd ps sp':=
 ⟨λvs H Q E q=>F.len vs H Q E (h _ _ _ _ q),λA outer s H args us vs Q E hr he hb hv hs=>F.run A outer s H args us vs Q E hr he hb hv (h _ _ _ _ hs)⟩
section
variable {X:Cx} {pins:List (Addr×Obj)} {σ:St} {H:Hp} {s s':Shared}
theorem Inv.env0(I:Inv X pins σ H s):Jo X.prog X.w X.K X.mg X.base X.A X.stack s H:=
 ⟨I.ok.frames,I.ok.mod,I.bs,Zl I.ok.bsz I.sz,I.stack,I.stkFree,I.hok,I.bare.bare⟩
theorem Inv.after{Q:VK}{u:Value}(I:Inv X pins σ H s)(h:CE X.stack X.prog X.w H s Q u s'):EP X pins σ Q u s':=by
 obtain⟨v,H',os,bare,un,hok,r,q⟩:=h
 obtain⟨hh,g,d,t,os'⟩:=s'
 obtain rfl:os'=s.os:=os
 exact⟨v,H',I.call (h':=hh) (g':=g) (d':=d) (t':=t) (ch:=[]) un hok bare (λb z=>absurd z (by simp)),r,q⟩
end
def Uo(sp:Sp)(dvs:List V)(E:XK)(t:TA):TE:=λσ H Q=>t σ H λvs H1=>sp (vs++dvs) H1 Q E
def Binds(K:PySem.W.Frag)(fd:FuncData)(ps:List Str)(ds:List Value):Prop:=
 ∀(s:Shared)(us:List Value),K.In s.heap->(us++ds).length=ps.length->BindsTo s fd ⟨us,[]⟩ (ps.zip (us++ds))
theorem Binds.all{K:PySem.W.Frag}{fd:FuncData}{ps:List Str}(h:∀us:List Value,us.length=ps.length->bindArgs fd ⟨us,[]⟩=pure (ps.zip us)):Binds K fd ps []:=λs us _ hl=>by
 rw[List.append_nil]at hl ⊢
 exact .of_eq (h us hl)
def BK(CX:CXT)(X:Cx)(E:XK):Prop:=∀(pins:List (Addr×Obj))(σ:St)(H:Hp)(s:Shared)(e:Value)(s':Shared),Inv X pins σ H s->CX X.stack H s E e s'->X.xe e s'
section
variable {X:Cx} {CX:CXT} {k:Nat} {f C:Addr} {fd:FuncData} {ps:List Str} {sp:Sp} {dvs:List V} {ds:List Value} {E:XK} {x m:Str} {p pos apos:Pos} {e o:Expr} {es:List Expr} {ta:TE} {t:TA}
theorem QJ{pins:List (Addr×Obj)}{σ:St}{H:Hp}{s:Shared}{Q:VK}{us:List Value}{vs:List V}(F:nW X.prog X.w X.K X.mg X.base CX k f fd ps sp)(hr:gW k X.A)(hb:Binds X.K fd ps ds)(hd:Vals dvs ds)(hx:BK CX X E)
  (I:Inv X pins σ H s) (r:Vals vs us) (h:sp (vs++dvs) H Q E):wpAny (model X.prog X.w) X.A (call (.ref f) us) (EP X pins σ Q) X.xe s:=by
 have r2:Vals (vs++dvs) (us++ds):=r.append hd
 have hl:(us++ds).length=ps.length:=by rw[<-r2.length];exact F.len _ _ _ _ h
 refine wpAny_call (codeAny_mono (F.run X.A X.stack s H ⟨us,[]⟩ (us++ds) (vs++dvs) Q E hr I.env0 (hb s us I.kIn hl) r2 h) λr s' hq=>?_)
 cases r with
 |error e=>exact hx pins σ H s e s' I hq
 |ok fl=>
  cases fl with
  |ret u=>exact I.after hq
  |next=>exact False.elim hq
  |brk=>exact False.elim hq
  |cont=>exact False.elim hq
theorem Km(F:nW X.prog X.w X.K X.mg X.base CX k f fd ps sp)(hr:gW k X.A)(hg:Gl X x)(hm:X.mg x=some (.ref f))(hk:PySem.W.keepIn X.K (.ref f)=true)(hb:Binds X.K fd ps ds)(hd:Vals dvs ds)(hx:BK CX X E)
  (ha:PA X (e::es) t) (hdb:(x==("__debug__":Str))=false:=by decide) (he:starEach (e::es) X.env=(false,eval e X.env)::starEach es X.env:=by rfl) (hpl:(backTo pos (starEach es X.env)).any (·.1)=false:=by rfl):
  PE X (.Call (.Name x p) (e::es) [] pos) (Uo sp dvs E t):=by
 intro pins s σ H Q I h
 refine wpAny_Call_Name_kw (Lg I hg hm ?_ hdb)
 refine PySem.W.callWith_K (h₀:=X.base) I.ok.mod.kin hk (thn (ha pos pins s σ H _ I h) λus s1 ⟨vs,H1,I1,r,q⟩=>⟨I1.kIn,?_⟩) he hpl
 exact QJ F hr hb hd hx I1 r q
end
def PK(X:Cx)(kws:List Keyword)(t:TA):Prop:=
 ∀(pos:Pos)(pins:List (Addr×Obj))(s:Shared)(σ:St)(H:Hp)(Q:List V->Hp->Prop),Inv X pins σ H s->t σ H Q->wpAny (model X.prog X.w) X.A (evalAll ((backToKw pos (keywordEach kws X.env)).map (·.2))) (AP X pins σ Q) X.xe s
structure aX(N P:List Str)(sc:Scope):Prop where
 kind:sc.kind= .function
 co:sc.isCoroutine=false
 gen:sc.isGenerator=false
 nd:N.Nodup
 pre:N.take P.length=P
 par:∀x∈P,sc.names.lookup x=some .local∨sc.names.lookup x=some .cell
 nofree:∀y∈sc.names,y.2≠ .free
theorem uX{kindOf:Str->Option NameKind}{x:Str}:∀{binds:List (Str×Value)}{m:Str->Option Value},(∀v,(x,v)∉binds)->bindL kindOf binds m x=m x
 | [],_,_=>rfl
 |(n,v)::r,m,h=>by
  unfold bindL
  rw[uX λw hw=>h w (List.mem_cons_of_mem _ hw)]
  split
  .have:x≠n:=by rintro rfl;exact h v List.mem_cons_self
   simp[this]
  .rfl
theorem vH{kindOf:Str->Option NameKind}{x:Str}:∀{binds:List (Str×Value)}{m:Str->Option Value},(∀v,(x,v)∉binds)->bindC kindOf binds m x=m x
 | [],_,_=>rfl
 |(n,v)::r,m,h=>by
  unfold bindC
  rw[vH λw hw=>h w (List.mem_cons_of_mem _ hw)]
  split
  .rfl
  .have:x≠n:=by rintro rfl;exact h v List.mem_cons_self
   simp[this]
theorem vL{kindOf:Str->Option NameKind}{x:Str}{v:Value}:∀{P:List Str}{vs:List Value}{i:Nat}{m:Str->Option Value},P.Nodup->P[i]? =some x->vs[i]? =some v->kindOf x=some .local->
  bindL kindOf (P.zip vs) m x=some v
 | [],_,_,_,_,h,_,_=>by simp at h
 |_::_,[],_,_,_,_,h,_=>by simp at h
 |p::P,w::vs,0,m,nd,h1,h2,hk=>by
  simp at h1 h2;subst h1;subst h2
  show bindL kindOf ((p,w)::P.zip vs) m p=_
  unfold bindL
  rw[uX λv hv=>(List.nodup_cons.mp nd).1 (List.of_mem_zip hv).1,if_pos hk]
  simp
 |p::P,w::vs,i+1,m,nd,h1,h2,hk=>by
  show bindL kindOf ((p,w)::P.zip vs) m x=_
  unfold bindL
  exact vL (i:=i) (List.nodup_cons.mp nd).2 (by simpa using h1) (by simpa using h2) hk
theorem vp{kindOf:Str->Option NameKind}{x:Str}{v:Value}:∀{P:List Str}{vs:List Value}{i:Nat}{m:Str->Option Value},P.Nodup->P[i]? =some x->vs[i]? =some v->kindOf x≠some .local->
  bindC kindOf (P.zip vs) m x=some v
 | [],_,_,_,_,h,_,_=>by simp at h
 |_::_,[],_,_,_,_,h,_=>by simp at h
 |p::P,w::vs,0,m,nd,h1,h2,hk=>by
  simp at h1 h2;subst h1;subst h2
  show bindC kindOf ((p,w)::P.zip vs) m p=_
  unfold bindC
  rw[vH λv hv=>(List.nodup_cons.mp nd).1 (List.of_mem_zip hv).1,if_neg hk]
  simp
 |p::P,w::vs,i+1,m,nd,h1,h2,hk=>by
  show bindC kindOf ((p,w)::P.zip vs) m x=_
  unfold bindC
  exact vp (i:=i) (List.nodup_cons.mp nd).2 (by simpa using h1) (by simpa using h2) hk
def start(N:List Str)(vs:List V):St:=vs.map some++List.replicate (N.length-vs.length) none
def Bq(CX:CXT)(P:Program)(w:World)(K:PySem.W.Frag)(mg:Str->Option Value)(base:Heap)(N:List Str)(qual:Str)(scope:Scope)(f:Addr)(cd:Value)(A:Around)(outer:List Env)(s:Shared)(H:Hp)(E:XK):Cx where
 prog:=P
 w:=w
 K:=K
 mg:=mg
 base:=base
 A:=A.deeper (envOfC qual scope s.heap.objs.size f cd)
 N:=N
 s₀:=s
 H₀:=H
 env:=envOfC qual scope s.heap.objs.size f cd
 outer:=outer
 stack:=envOfC qual scope s.heap.objs.size f cd::outer
 ex:=[]
 calm:=true
 fn:=λ_=>true
 pn:=[]
 xe:=λe s'=>wpAny (model P w) (A.deeper (envOfC qual scope s.heap.objs.size f cd)) (leaving (envOfC qual scope s.heap.objs.size f cd) e) (λ_ s''=>CX outer H s E e s'') (λe' s''=>CX outer H s E e' s'') s'
theorem zG{sc:Scope}{n:Nat}{x:Str}(h:sc.names.lookup x=some .cell):∃c,(cellsFrom n sc.names []).lookup x=some c:=by
 have q:=PySem.W.cellsFrom_some sc.names n [] (.inl h)
 exact Option.isSome_iff_exists.mp q
theorem DQ{CX:CXT}{P:Program}{w:World}{K:PySem.W.Frag}{mg:Str->Option Value}{base:Heap}{N ps:List Str}{qual:Str}{scope:Scope}{f:Addr}{cd:Value}{A:Around}{outer:List Env}{s s1:Shared}{H:Hp}{E:XK}{us:List Value}{vs:List V}
  (S:aX N ps scope) (hd:A.handled=none) (e0:Jo P w K mg base A outer s H) (hl:vs.length=ps.length) (r:Vals vs us)
  (x:InCallC s s.heap.objs.size (bindL (envOfC qual scope s.heap.objs.size f cd).kindOf (ps.zip us) λ_=>none) (cellsFrom (s.heap.objs.size+1) scope.names []) (bindC (envOfC qual scope s.heap.objs.size f cd).kindOf (ps.zip us) λ_=>none) s1):
  Inv (Bq CX P w K mg base N qual scope f cd A outer s H E) [] (start N vs) H s1:=by
 have hpl:ps.length<=N.length:=by have:=congrArg List.length S.pre;rw[List.length_take]at this;omega
 obtain⟨h1,tk,rfl,hk⟩:=x.done
 have noA:∀b:Addr,b∉(Bq CX P w K mg base N qual scope f cd A outer s H E).ex:=λb z=>absurd (show b∈([]:List Addr)from z) (by simp)
 refine⟨⟨e0.mod,S.kind,rfl,rfl,Zg _,λy z c h1 h2=>?_,λy hy=>?_,λy c _ h=>?_,λ_=>hd,Around.frames_deeper e0.frames,.inr ⟨rfl,rfl⟩,λb z=>absurd z (noA b),e0.bs,e0.bsz,λb _ _=>noA b,λb z=>absurd z (noA b),e0.funs,e0.frf⟩,
  rfl,GK.refl e0.bare,Un.kept hk,⟨_,x.toInCall.ns,λi y v h1 h2 h3=>?_⟩,λy c h=>⟨_,x.cell y c h⟩,e0.hok.fresh (Zg _),λy c h=>?_,λp hp=>absurd (show p∈([]:List (Addr×Obj))from hp) (by simp),e0.hok.kept hk,?_⟩
 .exact name_of_addr x.apart (Zt h1) (Zt h2)
 .have hy:scope.names.lookup y=some .cell∨scope.names.lookup y=some .free:=hy
  rcases hy with hy|hy
  .exact zG hy
  .exact absurd rfl (S.nofree _ (Zt hy))
 .exact Nat.le_of_lt (x.above y c (Zt h))
 .have hi:i<vs.length:=by
   unfold start at h2
   by_cases hi:i<vs.length
   .exact hi
   .rw[List.getElem?_append_right (by simpa using hi)]at h2
    rw[List.getElem?_replicate]at h2
    split at h2<;>cases h2
  have ha:vs[i]? =some v:=by
   unfold start at h2
   rw[Zs (by simpa using hi),List.getElem?_map]at h2
   cases e:vs[i]? with
   |none=>rw[e]at h2;cases h2
   |some a=>rw[e]at h2;cases h2;rfl
  obtain⟨u,hu,rv⟩:=r.get ha
  have hp:ps[i]? =some y:=by
   rw[<-S.pre,List.getElem?_take_of_lt (by omega)];exact h1
  have ndP:ps.Nodup:=by rw[<-S.pre];exact S.nd.sublist (List.take_sublist _ _)
  refine⟨u,rv,?_⟩
  rcases S.par y (List.mem_of_getElem? hp)with k|k
  .exact .inl ⟨k,vL ndP hp hu k⟩
  .obtain⟨c,e⟩:=zG (n:=s.heap.objs.size+1) k
   refine .inr ⟨.inl k,c,e,?_⟩
   have q:=x.cell y c e
   rw[vp ndP hp hu (by show scope.names.lookup y≠_;rw[k];decide)]at q
   exact q
 .exact e0.hok.fresh (Nat.le_of_lt (x.above y c (Zt h)))
 .unfold start
  show _=N.length
  rw[List.length_append,Zu,List.length_replicate]
  omega
theorem Mx{CX:CXT}{P:Program}{w:World}{K:PySem.W.Frag}{mg:Str->Option Value}{base:Heap}{k:Nat}{f:Addr}{name qual:Str}{params:Arguments}{body:List Stmt}{scope:Scope}{dV kV doc pm cdv ct oc:Value}{an od:Option Addr}
  {osl:Array (Option Value)} {N ps:List Str} {sp:Sp} (lk:K.lookup f=some ⟨oc,od,.func (PySem.W.fnOf name qual params body scope dV kV doc pm an cdv ct),osl⟩) (hcd:PySem.W.codeIn K cdv qual=true) (S:aX N ps scope)
  (len:∀vs H Q E,sp vs H Q E->vs.length=ps.length)
  (hbody:∀(A:Around)(outer:List Env)(s:Shared)(H:Hp)(vs:List V)(Q:VK)(E:XK),gW k (A.deeper (envOfC qual scope s.heap.objs.size f cdv))->sp vs H Q E->
   ∃t,PSs (Bq CX P w K mg base N qual scope f cdv A outer s H E) body t/\t { nx:=λ_ H'=>Q .non H',rt:=Q} (start N vs) H):
  nW P w K mg base CX (k+1) f (PySem.W.fnOf name qual params body scope dV kV doc pm an cdv ct) ps sp:=by
 refine⟨len,λA outer s H args us vs Q E hr e0 hb r hsp=>?_⟩
 have hl:=len _ _ _ _ hsp
 have KX:K.In s.heap:=e0.mod.kin.keeps λb o e=>(e0.bs b o e).1
 have lim:s.heap.NoLimit:=e0.mod.nolimit.keeps λb o e=>(e0.bs b o e).1
 have hkind:∀y∈ps.zip us,scope.names.lookup y.1=some .local∨(scope.names.lookup y.1=some .cell/\((cellsFrom (s.heap.objs.size+1) scope.names []).lookup y.1).isSome=true):=λzq49 hy=>by
  obtain⟨n,v⟩:=zq49
  rcases S.par n (List.of_mem_zip hy).1 with q|q
  .exact .inl q
  .exact .inr ⟨q,PySem.W.cellsFrom_some _ _ _ (.inl q)⟩
 refine codeAny_call_function hr.depth (KX _ _ lk) rfl S.co S.gen rfl (PySem.W.codeRec_of KX hcd) (hb _ _ _ _ ?_)
 refine wpAny_newFunctionEnv_cells S.kind hkind λenv he s1 x=>?_
 subst he
 refine⟨lim.keeps x.toInCall.keep,codeAny_func ?_⟩
 obtain⟨t,ht,hq⟩:=hbody A outer s H vs Q E (hr.deeper _) hsp
 have I:Inv (Bq CX P w K mg base N qual scope f cdv A outer s H E) [] (start N vs) H s1:=DQ S hr.hd e0 hl r x
 refine wpAny_mono (ht [] s1 (start N vs) H _ I hq) (λfl s' hs=>?_) λe s' hs=>hs
 have fin:∀{σ':St}{H':Hp}{v:V}{u:Value},Inv (Bq CX P w K mg base N qual scope f cdv A outer s H E) [] σ' H' s'->RelV v u->Q v H'->CE outer P w H s Q u s':=
  λ{σ' H' v u} J rv q=>⟨v,H',J.os,J.bare,J.base,J.hok,rv,q⟩
 cases fl with
 |ret u=>
  obtain⟨v,σ',H',J,rv,q⟩:=hs
  exact fin J rv q
 |next=>
  obtain⟨σ',H',J,q⟩:=hs
  exact fin (v:=V.non) (u:=Value.none) J rfl q
 |brk=>
  obtain⟨_,_,_,q⟩:=hs
  exact False.elim q
 |cont=>
  obtain⟨_,_,_,q⟩:=hs
  exact False.elim q
section
variable {X:Cx} {x:Str} {p pos:Pos} {e:Expr} {es:List Expr} {t:TA} {id T:String} {r:List V->Hp->VK->Prop}
def tCB(r:List V->Hp->VK->Prop)(t:TA):TE:=λσ H Q=>t σ H λvs H1=>r vs H1 Q
theorem ph(hc:lL X (.builtin id) r)(hg:Gl X x)(hm:X.mg x=none)(hv:bootBuiltins x=some (.builtin id))(ha:PA X (e::es) t)(hn:x≠"__name__":=by decide)(hdb:(x==("__debug__":Str))=false:=by decide)
  (he:starEach (e::es) X.env=(false,eval e X.env)::starEach es X.env:=by rfl) (hpl:(backTo pos (starEach es X.env)).any (·.1)=false:=by rfl):PE X (.Call (.Name x p) (e::es) [] pos) (tCB r t):=by
 intro pins s σ H Q I h
 refine wpAny_Call_Name_kw (jK I hg hm hv ?_ hn hdb)
 exact PyProof.Rows.callWith_builtin1 (thn (ha pos pins s σ H _ I h) λus s1 ⟨vs,H1,I1,r1,q1⟩=>hc pins s1 σ H1 vs us Q I1 r1 q1) he hpl
theorem DN(hc:lL X (.type T) r)(hg:Gl X x)(hm:X.mg x=none)(hv:bootBuiltins x=some (.type T))(ha:PA X (e::es) t)(hn:x≠"__name__":=by decide)(hdb:(x==("__debug__":Str))=false:=by decide)
  (he:starEach (e::es) X.env=(false,eval e X.env)::starEach es X.env:=by rfl) (hpl:(backTo pos (starEach es X.env)).any (·.1)=false:=by rfl):PE X (.Call (.Name x p) (e::es) [] pos) (tCB r t):=by
 intro pins s σ H Q I h
 refine wpAny_Call_Name_kw (jK I hg hm hv ?_ hn hdb)
 exact PyProof.Rows.callWith_type1 (thn (ha pos pins s σ H _ I h) λus s1 ⟨vs,H1,I1,r1,q1⟩=>hc pins s1 σ H1 vs us Q I1 r1 q1) he hpl
end
end L2
namespace HT
open PySem PyProof.Rows
section
variable {prog:Program} {w:World} {A:Around} {E:Value->Shared->Prop} {s:Shared}
theorem cat_tup{t b:Addr}{vs ws:List Value}{Q:Value->Shared->Prop}(ht:IsTup s.heap t vs.toArray)(hb:IsTup s.heap b ws.toArray)(hv:vs≠[])
  (h1:ws=[]->Q (.ref t) s) (h2:ws≠[]->Q (.ref s.heap.objs.size) { s with heap:=s.heap.push { cls:=.type "tuple",data:=.seq (vs++ws).toArray} })
  (hsz:vs.length+ws.length<=sizeLine):wpAny (model prog w) A (binaryOp .Add (.ref t) (.ref b)) Q E s:=by
 obtain⟨⟨cls,dd,data,sl⟩,ho,hc,n,hd⟩:=id ht
 obtain⟨⟨cls2,dd2,data2,sl2⟩,ho2,hc2,n2,hd2⟩:=id hb
 simp only at hc hd hc2 hd2
 subst hc hd hc2 hd2
 have e:vs.toArray++ws.toArray=(vs++ws).toArray:=by simp
 by_cases hw:ws=[]
 .exact concat_meets ⟨_,ho,rfl⟩ ⟨_,ho2,rfl⟩ noFill_tuple_add seq_tuple_add PySem.F.slot_tuple_add PySem.F.entry_tuple_add (PySem.F.args_tuple_add_2 _ _)
   (tuple_addW1 t b vs.toArray ws.toArray n n2 dd dd2 sl sl2 (by simpa using hv) (by simp[hw])) ⟨ho,ho2,h1 hw⟩
 .refine concat_meets ⟨_,ho,rfl⟩ ⟨_,ho2,rfl⟩ noFill_tuple_add seq_tuple_add PySem.F.slot_tuple_add PySem.F.entry_tuple_add (PySem.F.args_tuple_add_2 _ _)
   (tuple_addW2 t b vs.toArray ws.toArray n n2 dd dd2 sl sl2 (by simpa using hv) (by simpa using hw) (by rw[Zd,Zd];exact hsz)) ⟨ho,ho2,?_⟩
  rw[e]
  exact h2 hw
def sIx(n d:Nat):Option Int->Nat
 |none=>d
 |some v=>if v<0 then(v+(n:Int)).toNat else min v.toNat n
theorem Qw(n d:Nat)(hd:d<=n)(o:Option Int):sIx n d o<=n:=by
 cases o with
 |none=>exact hd
 |some v=>
  show(if v<0 then(v+(n:Int)).toNat else min v.toNat n)<=n
  by_cases hv:v<0
  .rw[if_pos hv];omega
  .rw[if_neg hv];exact Nat.min_le_right _ _
theorem Dc(v:Int)(n d:Nat):(if v<0 then max (v+(n:Int)) 0 else min v (n:Int))=((sIx n d (some v):Nat):Int):=by
 show(if v<0 then max (v+(n:Int)) 0 else min v (n:Int))=(((if v<0 then(v+(n:Int)).toNat else min v.toNat n):Nat):Int)
 by_cases hv:v<0
 .simp only[if_pos hv];omega
 .simp only[if_neg hv];omega
theorem Bb(lo hi:Option Int)(n:Nat):Builtin.Slice.sliceAdjust lo hi 1 (n:Int)=(((sIx n 0 lo:Nat):Int),((sIx n n hi:Nat):Int)):=by
 have h1:¬((1:Int)<0):=by omega
 unfold Builtin.Slice.sliceAdjust
 simp only[h1,if_false]
 refine Prod.ext ?_ ?_
 .cases lo with
  |none=>rfl
  |some v=>exact Dc v n 0
 .cases hi with
  |none=>rfl
  |some v=>exact Dc v n n
theorem Bo(i j:Nat):Builtin.Slice.slicePlaces (i:Int) (j:Int) 1=j-i:=by
 unfold Builtin.Slice.slicePlaces
 have h1:(1:Int)>0:=by omega
 simp only[h1,if_true,Int.ediv_one]
 split<;>omega
theorem uh{v:Value}{o:Option Int}{Q:Option Int->Shared->Prop}(p:IsPart v o)(h:Q o s):wpAny (model prog w) A (Builtin.Slice.slicePartIndex v) Q E s:=by
 cases p with
 |none=>exact slicePart_none h
 |int i t=>exact slicePart_int h
theorem kW{sl:Addr}{vl vu:Value}{lo hi:Option Int}{n:Nat}{Q:Int×Int×Nat->Shared->Prop}(hs:s.heap.IsSliceOf sl vl vu .none)(pl:IsPart vl lo)(pu:IsPart vu hi)
  (h:Q (((sIx n 0 lo:Nat):Int),1,sIx n n hi-sIx n 0 lo) s):wpAny (model prog w) A (Builtin.Slice.sliceApplied (.ref sl) (pure (n:Int))) Q E s:=by
 obtain⟨os,hos,hcs,hds⟩:=id hs
 unfold Builtin.Slice.sliceApplied Builtin.Slice.sliceFields
 refine wpAny_bind (wpAny_bind (wpAny_field hos hds (x:=vl) rfl (wpAny_bind (wpAny_field hos hds (x:=vu) rfl (wpAny_bind (wpAny_field hos hds (x:=.none) rfl (wpAny_pure ?_)))))))
 refine wpAny_bind (slicePart_none ?_)
 show wpAny _ _ (if((1:Int)==0)=true then _ else _) _ _ s
 rw[if_neg (by decide)]
 refine wpAny_bind (uh pl (wpAny_bind (uh pu (wpAny_bind (wpAny_pure ?_)))))
 show wpAny _ _ (match Builtin.Slice.sliceAdjust lo hi 1 (n:Int)with|(lo,hi)=>pure (lo,(1:Int),Builtin.Slice.slicePlaces lo hi 1)) _ _ s
 rw[Bb lo hi n]
 show wpAny _ _ (pure (((sIx n 0 lo:Nat):Int),(1:Int),Builtin.Slice.slicePlaces ((sIx n 0 lo:Nat):Int) ((sIx n n hi:Nat):Int) 1)) _ _ s
 rw[Bo]
 exact wpAny_pure h
theorem Fo(xs:Array Value)(i k:Nat):((List.range k).filterMap λ(m:Nat)=>xs[((i:Int)+(m:Int)*1).toNat]?).toArray=((xs.toList.drop i).take k).toArray:=by
 have e:(λ(m:Nat)=>xs[((i:Int)+(m:Int)*1).toNat]?)=λm=>xs[i+m]? :=by
  funext m
  have:((i:Int)+(m:Int)*1).toNat=i+m:=by omega
  rw[this]
 rw[e]
 have:=pick_run xs i k
 rw[List.filterMap_map]at this
 have e2:((λx=>xs[x]?)∘λx=>i+x)=λm=>xs[i+m]? :=rfl
 rw[e2]at this
 rw[this]
theorem getItem_tuple_cut{t sl:Addr}{items:Array Value}{vl vu:Value}{lo hi:Option Int}{Q:Value->Shared->Prop}(ht:IsTup s.heap t items)(hs:s.heap.IsSliceOf sl vl vu .none)(pl:IsPart vl lo)(pu:IsPart vu hi)
  (hw:¬(sIx items.size 0 lo=0/\sIx items.size items.size hi=items.size))
  (h:Q (.ref s.heap.objs.size) { s with heap:=s.heap.push { cls:=.type "tuple",data:=.seq ((items.toList.drop (sIx items.size 0 lo)).take (sIx items.size items.size hi-sIx items.size 0 lo)).toArray} })
  (hsz:items.size<=sizeLine):wpAny (model prog w) A (getItem (.ref t) (.ref sl)) Q E s:=by
 have htake:sizeOk (.seq ((items.toList.drop (sIx items.size 0 lo)).take (sIx items.size items.size hi-sIx items.size 0 lo)).toArray):=by
  show((items.toList.drop (sIx items.size 0 lo)).take (sIx items.size items.size hi-sIx items.size 0 lo)).toArray.size<=sizeLine
  rw[Zd,List.length_take,List.length_drop,Array.length_toList]
  omega
 have hj:sIx items.size items.size hi<=items.size:=Qw _ _ (Zg _) hi
 obtain⟨os,hos,hcs,hds⟩:=id hs
 have hTs:s.TypeIs (.ref sl) "slice":=⟨os,hos,hcs⟩
 unfold getItem
 try with_reducible refine wpAny_holding ?_
 first|refine wpAny_bind (wpAny_pure ?_)|skip
 refine wpAny_bind (wpAny_sequenceKey ht.typeIs (by decide) ?_)
 refine wpAny_bind (wpAny_callSpecial?_slot (name:=Str.ofString "__getitem__") ht.typeIs PyProof.Rows.slot_tuple_getitem
  (wpAny_call_entry PyProof.Rows.slot_tuple_getitem ht.typeIs entry_tuple_getitem ?_ (args_tuple_getitem _ _)))
 show wpAny _ _ (Builtin.Tuple.tupleItemsOf (.ref t) >>= _) _ _ s
 refine wpAny_bind (tupleItemsOf_ ht ?_)
 refine wpAny_bind (wpAny_typeOf hTs ?_)
 rw[if_pos (by decide)]
 refine wpAny_bind (kW hs pl pu ?_)
 have hno:¬((((sIx items.size 0 lo:Nat):Int)==0&&(1:Int)==1&&(sIx items.size items.size hi-sIx items.size 0 lo)==items.size)=true):=by
  intro q
  rw[Zo,Zo]at q
  have q1:((sIx items.size 0 lo:Nat):Int)=0:=eq_of_beq q.1.1
  have q2:sIx items.size items.size hi-sIx items.size 0 lo=items.size:=eq_of_beq q.2
  exact hw ⟨by omega,by omega⟩
 show wpAny _ _ (if(((sIx items.size 0 lo:Nat):Int)==0&&(1:Int)==1&&(sIx items.size items.size hi-sIx items.size 0 lo)==items.size)=true then _ else _) _ _ s
 rw[if_neg hno,Fo]
 first
  |exact wpAny_bind (m:=Builtin.Tuple.tupleExact _) (wpAny_newObj_type (wpAny_pure ⟨_,rfl,wpAny_pure h⟩) htake)
  |exact wpAny_bind (m:=Builtin.Tuple.tupleExact _) (wpAny_newObj_type (wpAny_bind (wpAny_pure (wpAny_pure ⟨_,rfl,wpAny_pure h⟩))) htake)
  |exact wpAny_bind (wpAny_bind (m:=Builtin.Tuple.tupleExact _) (wpAny_newObj_type (wpAny_pure (wpAny_pure ⟨_,rfl,wpAny_pure h⟩)) htake))
  |exact wpAny_bind (wpAny_bind (m:=Builtin.Tuple.tupleExact _) (wpAny_newObj_type (wpAny_pure ⟨_,rfl,wpAny_pure h⟩) htake))
end
end HT
namespace L2
open PySem PySem.Spec PyProof.Rows
abbrev TO:=St->Hp->(Option Int->Hp->Prop)->Prop
def PO(X:Cx)(e:Option Expr)(t:TO):Prop:=
 ∀(pins:List (Addr×Obj))(s:Shared)(σ:St)(H:Hp)(Q:Option Int->Hp->Prop),Inv X pins σ H s->t σ H Q->
  wpAny (model X.prog X.w) X.A (evalPart e X.env) (λu s'=>∃o H',Inv X pins σ H' s'/\IsPart u o/\Q o H') X.xe s
def Jw:TO:=λ_ H Q=>Q none H
def Ro(t:TE):TO:=λσ H Q=>t σ H λx H1=>∃i,x= .int i/\Q (some i) H1
section
variable {X:Cx} {e:Expr} {te:TE} {lo hi:Option Expr} {tl th:TO} {pos p2:Pos}
theorem Js:PO X none Jw:=by
 intro pins s σ H Q I h
 rw[evalPart_none]
 exact wpAny_pure ⟨none,H,I,.none,h⟩
theorem Lj(h:PE X e te):PO X (some e) (Ro te):=by
 intro pins s σ H Q I hw
 rw[evalPart_some]
 refine thn (h pins s σ H _ I hw) λu s1 zq50=>?_
 obtain⟨x,H1,I1,r1,q1⟩:=zq50
 obtain⟨i,rfl,q⟩:=q1
 obtain⟨t,rfl⟩:=r1
 exact⟨some i,H1,I1,.int i t,q⟩
def SlR(X:Cx)(r:V->Option Int->Option Int->Hp->VK->Prop):Prop:=
 ∀(pins:List (Addr×Obj))(s:Shared)(σ:St)(H:Hp)(x:V)(v vl vu:Value)(lo hi:Option Int)(sl:Addr)(Q:VK),Inv X pins σ H s->RelV x v->s.heap.IsSliceOf sl vl vu .none->IsPart vl lo->IsPart vu hi->r x lo hi H Q->
  ∃T id,typeLookup (.type T) "__getitem__"=pure (some (.builtin id))/\s.TypeIs v T/\wpAny (model X.prog X.w) X.A (getItem v (.ref sl)) (EP X pins σ Q) X.xe s
theorem SlR.or{r r':V->Option Int->Option Int->Hp->VK->Prop}(h:SlR X r)(h':SlR X r'):SlR X (λx lo hi H Q=>r x lo hi H Q∨r' x lo hi H Q):=by
 intro pins s σ H x v vl vu lo hi sl Q I rx hs pl pu q
 rcases q with q|q
 .exact h pins s σ H x v vl vu lo hi sl Q I rx hs pl pu q
 .exact h' pins s σ H x v vl vu lo hi sl Q I rx hs pl pu q
def tSl(r:V->Option Int->Option Int->Hp->VK->Prop)(te:TE)(tl th:TO):TE:=λσ H Q=>te σ H λx H1=>tl σ H1 λl H2=>th σ H2 λu H3=>r x l u H3 Q
theorem Fb{r:V->Option Int->Option Int->Hp->VK->Prop}(hr:SlR X r)(he:PE X e te)(hl:PO X lo tl)(hu:PO X hi th):PE X (.Subscript e (.Slice lo hi none p2) pos) (tSl r te tl th):=by
 intro pins s σ H Q I h
 refine Subscript_ (thn (he pins s σ H _ I h) λv s1 zq51=>?_)
 obtain⟨x,H1,I1,r1,q1⟩:=zq51
 refine wpAny_Slice (thn (hl pins s1 σ H1 _ I1 q1) λvl s2 ⟨l,H2,I2,pl,q2⟩=>thn (hu pins s2 σ H2 _ I2 q2) λvu s3 zq52=>?_)
 obtain⟨u,H3,I3,pu,q3⟩:=zq52
 rw[evalPart_none]
 refine wpAny_pure ?_
 have I4:Inv X pins σ H3 { s3 with heap:=s3.heap.push { cls:=.type "slice",data:=.fields #[vl,vu,.none] } }:=I3.kept (t':=s3.toks) λb ob q=>Zb _ q
 obtain⟨T,id,hT,ht,hg⟩:=hr pins { s3 with heap:=s3.heap.push { cls:=.type "slice",data:=.fields #[vl,vu,.none] } } σ H3 x v vl vu l u s3.heap.objs.size Q I4 r1 (Heap.IsSliceOf.new ..) pl pu q3
 show wpAny (model X.prog X.w) X.A (subscriptTail e (.Slice lo hi none p2) v (.ref s3.heap.objs.size)) (EP X pins σ Q) X.xe { s3 with heap:=s3.heap.push { cls:=.type "slice",data:=.fields #[vl,vu,.none] } }
 exact tail_any (ops:=[.ref s3.heap.objs.size,v]) ht hT hg (by with_unfolding_all rfl)
def yK(xs:List V)(lo hi:Option Int):List V:=(xs.drop (HT.sIx xs.length 0 lo)).take (HT.sIx xs.length xs.length hi-HT.sIx xs.length 0 lo)
theorem qZ(xs:List V)(lo hi:Option Int):(yK xs lo hi).length<=xs.length:=by
 unfold yK
 rw[List.length_take,List.length_drop]
 omega
def rSlT(K:PySem.W.Frag):V->Option Int->Option Int->Hp->VK->Prop:=λx lo hi H Q=>∃a xs,x= .ref a/\SqT K H a xs/\
 ¬(HT.sIx xs.length 0 lo=0/\HT.sIx xs.length xs.length hi=xs.length)/\∀p,H p=none->Q (.ref p) (upd H p (.tup (yK xs lo hi)))
theorem Pn:SlR X (rSlT X.K):=by
 intro pins s σ H x v vl vu lo hi sl Q I rx hs pl pu h
 obtain⟨a,xs,rfl,hx,hw,q⟩:=h
 cases rx
 obtain⟨its,r,ht,hz⟩:=I.tuple hx
 have hlen:its.toArray.size=xs.length:=by rw[Zd];exact r.length.symm
 refine⟨"tuple",_,PyProof.Rows.slot_tuple_getitem.lookup,ht.typeIs,?_⟩
 refine HT.getItem_tuple_cut ht hs pl pu (by rw[hlen];exact hw) ?_ (by rw[hlen];exact hz)
 rw[hlen]
 refine⟨.ref s.heap.objs.size,_,I.laid (t':=s.toks) (o:=.tup (yK xs lo hi)) (λb ob q=>Zb _ q) (Zg _) ?_,rfl,q _ (I.hok.fresh (Zg _))⟩
 exact⟨Zl (qZ xs lo hi) hz,_,(r.drop (HT.sIx xs.length 0 lo)).take (HT.sIx xs.length xs.length hi-HT.sIx xs.length 0 lo),IsTup.new _ _⟩
def Ui(K:PySem.W.Frag):R2:=λx y H Q=>∃a b xs ys,x= .ref a/\y= .ref b/\SqT K H a xs/\SqT K H b ys/\xs≠[]/\xs.length+ys.length<=sizeLine/\
 (ys=[]->Q (.ref a) H)/\(ys≠[]->∀p,H p=none->Q (.ref p) (upd H p (.tup (xs++ys))))
theorem Vals.lr{xs:List V}{us:List Value}(r:Vals xs us):us=[]↔xs=[]:=by
 cases r with
 |nil=>simp
 |cons _ _=>simp
theorem Jk:OpR X (binaryOp .Add) (Ui X.K):=by
 intro pins s σ H x y v u Q I rx ry h
 obtain⟨a,b,xs,ys,rfl,rfl,ha,hb,hx,hz,q1,q2⟩:=h
 cases rx
 cases ry
 obtain⟨its,r1,p1,_⟩:=I.tuple ha
 obtain⟨its2,r2,p2,_⟩:=I.tuple hb
 refine HT.cat_tup p1 p2 (λz=>hx (r1.lr.mp z)) (λz=>⟨.ref a,H,I,rfl,q1 (r2.lr.mp z)⟩) (λz=>?_) (by rw[<-r1.length,<-r2.length];exact hz)
 refine⟨.ref s.heap.objs.size,_,I.laid (t':=s.toks) (o:=.tup (xs++ys)) (λb ob q=>Zb _ q) (Zg _) ?_,rfl,q2 (λw=>z (r2.lr.mpr w)) _ (I.hok.fresh (Zg _))⟩
 exact⟨by rw[List.length_append];exact hz,_,r1.append r2,IsTup.new _ _⟩
end
def ixN(n:Nat)(i:Int):Option Nat:=if 0<=i then(if i<n then some i.toNat else none)else if -(n:Int)<=i then some (i+n).toNat else none
def atI{α:Type}(xs:List α)(i:Int):Option α:=(ixN xs.length i).bind λj=>xs[j]?
theorem Ci{n:Nat}{i:Int}{j:Nat}(h:ixN n i=some j):seqIndex? i n=some j/\j<n/\ -(n:Int)<=i/\i<n:=by
 unfold ixN at h
 by_cases h0:0<=i
 .rw[if_pos h0]at h
  by_cases h1:i<n
  .rw[if_pos h1]at h
   have e:i.toNat=j:=Option.some.inj h
   exact⟨by rw[seqIndex_of h0 h1,e],by omega,by omega,h1⟩
  .rw[if_neg h1]at h;cases h
 .rw[if_neg h0]at h
  by_cases h1: -(n:Int)<=i
  .rw[if_pos h1]at h
   have e:(i+n).toNat=j:=Option.some.inj h
   exact⟨by rw[seqIndex_neg (by omega) h1,e],by omega,h1,by omega⟩
  .rw[if_neg h1]at h;cases h
theorem xT{α:Type}{xs:List α}{i:Int}{v:α}(h:atI xs i=some v):∃j,seqIndex? i xs.length=some j/\xs[j]? =some v/\j<xs.length/\ -(xs.length:Int)<=i/\i<xs.length:=by
 unfold atI at h
 cases e:ixN xs.length i with
 |none=>rw[e]at h;cases h
 |some j=>
  rw[e]at h
  obtain⟨h1,h2,h3,h4⟩:=Ci e
  exact⟨j,h1,h,h2,h3,h4⟩
theorem Lw{α:Type}{xs:List α}{j:Nat}{v:α}(h:xs[j]? =some v):atI xs (j:Int)=some v:=by
 have hj:j<xs.length:=(Zh.mp h).1
 have e:ixN xs.length (j:Int)=some j:=by
  unfold ixN
  rw[if_pos (by omega),if_pos (by omega)];simp
 unfold atI;rw[e];exact h
theorem yW{α:Type}(xs:List α)(v:α):atI (xs++[v]) (-1)=some v:=by
 have hl:(xs++[v]).length=xs.length+1:=by simp
 have e:ixN (xs++[v]).length (-1)=some xs.length:=by
  unfold ixN
  rw[hl,if_neg (by decide),if_pos (by omega)]
  congr 1
  omega
 unfold atI
 rw[e]
 show(xs++[v])[xs.length]? =some v
 simp
def Dk(b:Expr):Prop:=∀o i,subscripted b false o i=operate [o,i] (getItem o i)
def IxR(X:Cx)(r:R2):Prop:=
 ∀(value slice:Expr)(pins:List (Addr×Obj))(s:Shared)(σ:St)(H:Hp)(x y:V)(v u:Value)(Q:VK),Inv X pins σ H s->RelV x v->RelV y u->r x y H Q->
  subscripted slice false v u=operate [v,u] (getItem v u)->wpAny (model X.prog X.w) X.A (subscriptTail value slice v u) (EP X pins σ Q) X.xe s
def MtR(X:Cx)(id:String)(r:V->List V->Hp->VK->Prop):Prop:=
 ∀(pins:List (Addr×Obj))(s:Shared)(σ:St)(H:Hp)(x:V)(xs:List V)(v:Value)(us:List Value)(Q:VK),Inv X pins σ H s->RelV x v->Vals xs us->r x xs H Q->
  wpAny (model X.prog X.w) X.A (call (.builtin id) (v::us)) (EP X pins σ Q) X.xe s
section
variable {X:Cx} {a b:Expr} {ta tb:TE} {pos:Pos}
theorem IxR.or{r r':R2}(h:IxR X r)(h':IxR X r'):IxR X (λx y H Q=>r x y H Q∨r' x y H Q):=by
 intro value slice pins s σ H x y v u Q I rx ry q hs
 rcases q with q|q
 .exact h value slice pins s σ H x y v u Q I rx ry q hs
 .exact h' value slice pins s σ H x y v u Q I rx ry q hs
theorem Tr{r:R2}(hr:IxR X r)(ha:PE X a ta)(hb:PE X b tb)(hs:Dk b):PE X (.Subscript a b pos) (tOp r ta tb):=by
 intro pins s σ H Q I h
 exact Subscript_ (Qs ha hb I h λv u s2 x y H2 I2 rx ry q=>hr a b pins s2 σ H2 x y v u Q I2 rx ry q (hs _ _))
def Tw(K:PySem.W.Frag):R2:=λx y H Q=>∃p xs i v,x= .ref p/\y= .int i/\SqL K H p xs/\atI xs i=some v/\Q v H
def Rn(K:PySem.W.Frag):R2:=λx y H Q=>∃p xs i v,x= .ref p/\y= .int i/\SqT K H p xs/\atI xs i=some v/\Q v H
def Uh:R2:=λx y H Q=>∃z i c,x= .str z/\y= .int i/\z.length<=sizeLine/\atI z.cps.toList i=some c/\Q (.str ⟨#[c]⟩) H
theorem Jm:IxR X (Tw X.K):=by
 intro value slice pins s σ H x y v u Q I rx ry h hs
 obtain⟨p,xs,i,z,rfl,rfl,hq,he,q⟩:=h
 cases rx
 obtain⟨t,rfl⟩:=ry
 obtain⟨its,r,pl,hz⟩:=I.list hq
 obtain⟨j,h1,h2,h3,h4,h5⟩:=xT he
 obtain⟨w,ew,rw'⟩:=r.get h2
 have hl:=r.length
 have hn:=oh
 have fin:EP X pins σ Q w s:=⟨z,H,I,rw',q⟩
 by_cases h0:0<=i
 .have hj:i.toNat=j:=by
   rw[seqIndex_of h0 h5]at h1
   exact Option.some.inj h1
  exact item_listR pl.isList h0 (by omega) (by rw[hj];simpa using ew) fin hs
 .have hj:(i+(its.toArray.size:Int)).toNat=j:=by
   rw[seqIndex_neg (by omega) h4]at h1
   rw[Zd,<-hl]
   exact Option.some.inj h1
  exact subscriptTail_builtinR (x:=w) pl.isList.typeIs slot_list_getitem.lookup
   (wpAny_getItem_list_neg (Q:=λr s'=>r=w/\EP X pins σ Q r s') pl.isList (by omega) (by rw[Zd]<;>omega) (by omega) (by rw[hj];simpa using ew) ⟨rfl,fin⟩) hs
theorem Oi:IxR X (Rn X.K):=by
 intro value slice pins s σ H x y v u Q I rx ry h hs
 obtain⟨p,xs,i,z,rfl,rfl,hq,he,q⟩:=h
 cases rx
 obtain⟨t,rfl⟩:=ry
 obtain⟨its,r,pl,hz⟩:=I.tuple hq
 obtain⟨j,h1,h2,h3,h4,h5⟩:=xT he
 obtain⟨w,ew,rw'⟩:=r.get h2
 have hl:=r.length
 have hn:=oh
 have fin:EP X pins σ Q w s:=⟨z,H,I,rw',q⟩
 exact subscriptTail_builtinR (x:=w) pl.typeIs slot_tuple_getitem.lookup
  (getItem_tuple (j:=j) (Q:=λr s'=>r=w/\EP X pins σ Q r s') pl (by omega) (by omega) (by rw[Zd,<-hl];exact h1) (by simpa using ew) ⟨rfl,fin⟩) hs
theorem QV:IxR X Uh:=by
 intro value slice pins s σ H x y v u Q I rx ry h hs
 obtain⟨z,i,c,rfl,rfl,hz,he,q⟩:=h
 obtain⟨t,rfl⟩:=rx
 obtain⟨t',rfl⟩:=ry
 obtain⟨j,h1,h2,h3,h4,h5⟩:=xT he
 have hl:z.cps.toList.length=z.length:=by simp[Str.length]
 rw[hl]at h1 h4 h5
 have hn:=oh
 exact tail_any (typeIs_str s z t) slot_str_getitem.lookup (getItem_str (c:=c) (by
  have e1:decide (i< -(2 ^ 63:Int))=false:=decide_eq_false (by omega)
  have e2:decide (i>=2 ^ 63)=false:=decide_eq_false (by omega)
  rw[e1,e2,Bool.or_false]) (by rw[h1];simpa using h2) ⟨.str ⟨#[c]⟩,H,I.tok _,⟨_,rfl⟩,q⟩) hs
def rIx(K:PySem.W.Frag):R2:=λx y H Q=>Tw K x y H Q∨Rn K x y H Q∨Uh x y H Q
theorem Og:IxR X (rIx X.K):=Jm.or (Oi.or QV)
theorem Ax(its:List Value)(n j:Nat)(u:Value):Obj.mapSeq (·.setIfInBounds j u) { cls:=.type "list",data:=.seq its.toArray n}={ cls:=.type "list",data:=.seq (its.set j u).toArray n}:=by
 simp[Obj.mapSeq]
theorem Inv.lst{pins:List (Addr×Obj)}{σ:St}{H:Hp}{s:Shared}{p:Addr}{xs:List V}(I:Inv X pins σ H s)(h:H p=some (.lst xs)):
  ∃(its:List Value)(n:Nat),Vals xs its/\s.heap.get? p=some { cls:=.type "list",data:=.seq its.toArray n}/\xs.length<=sizeLine:=by
 obtain⟨z,its,n,r,e⟩:=I.hok p _ h
 exact⟨its,n,r,e,z⟩
theorem Inv.lstUpd{pins:List (Addr×Obj)}{σ:St}{H:Hp}{s:Shared}{p:Addr}{xs ys:List V}{its its':List Value}{n n':Nat}{f:Obj->Obj}(I:Inv X pins σ H s)(h:H p=some (.lst xs))
  (ho:s.heap.get? p=some { cls:=.type "list",data:=.seq its.toArray n}) (hf:f { cls:=.type "list",data:=.seq its.toArray n}={ cls:=.type "list",data:=.seq its'.toArray n'}) (r:Vals ys its') (hz:ys.length<=sizeLine) (t:Nat):
  Inv X pins σ (upd H p (.lst ys)) { s with heap:=s.heap.update p f,toks:=t}:=by
 have e:(s.heap.update p f).get? p=some { cls:=.type "list",data:=.seq its'.toArray n'}:=by
  rw[Heap.get?_update_self f ho (by rw[hf]<;>rfl),hf]
 refine I.write (x:=p) (e:=p) (by rw[h];trivial) (.inl rfl) (λb u hb q=>(Heap.get?_update_other _ _ (Ne.symm hb)).trans q) ⟨_,e⟩ ?_
 exact⟨hz,its',n',r,e⟩
def SJ:V->V->V->Hp->(Hp->Prop)->Prop:=λo i v H Q=>∃p xs k j,o= .ref p/\i= .int k/\H p=some (.lst xs)/\ixN xs.length k=some j/\Q (upd H p (.lst (xs.set j v)))
theorem set_list:Ss X SJ:=by
 intro pins s σ H o i v ov iv u Q I ro ri rv h
 obtain⟨p,xs,k,j,rfl,rfl,hp,hj,q⟩:=h
 cases ro
 obtain⟨t,rfl⟩:=ri
 obtain⟨its,n,r,ho,hz⟩:=I.lst hp
 obtain⟨h1,h2,h3,h4⟩:=Ci hj
 have hl:=r.length
 have hn:=oh
 have I':Inv X pins σ (upd H p (.lst (xs.set j v))) { s with heap:=s.heap.update p (Obj.mapSeq (·.setIfInBounds j u)) }:=
  I.lstUpd hp ho (Ax its n j u) (r.set rv j) (by rw[List.length_set];exact hz) s.toks
 by_cases h0:0<=k
 .have hk:k.toNat=j:=by
   rw[seqIndex_of h0 h4]at h1
   exact Option.some.inj h1
  exact PySem.W.ki_setAt ho h0 (by omega) (by rw[Zd,<-hl];exact h4) (by rw[hk];exact⟨_,I',q⟩)
 .have hk:(k+(its.toArray.size:Int)).toNat=j:=by
   rw[seqIndex_neg (by omega) h3]at h1
   rw[Zd,<-hl]
   exact Option.some.inj h1
  exact PySem.W.ki_setBack ho (by omega) (by rw[Zd,<-hl];exact h3) (by omega) (by rw[hk];exact⟨_,I',q⟩)
theorem wI(lo hi:Option Int)(n:Nat):(sliceBounds lo hi none n).1=((HT.sIx n 0 lo:Nat):Int)/\(sliceBounds lo hi none n).2.1=((HT.sIx n n hi:Nat):Int)/\(sliceBounds lo hi none n).2.2=1:=by
 refine⟨?_,?_,rfl⟩
 .cases lo with
  |none=>simp[sliceBounds,HT.sIx]
  |some i=>
   simp only[sliceBounds,HT.sIx,Option.getD_none,show(1:Int)>0 by decide,if_true]
   by_cases h:i<0
   .simp only[h,if_true]<;>omega
   .simp only[h,if_false]<;>omega
 .cases hi with
  |none=>simp[sliceBounds,HT.sIx]
  |some i=>
   simp only[sliceBounds,HT.sIx,Option.getD_none,show(1:Int)>0 by decide,if_true]
   by_cases h:i<0
   .simp only[h,if_true]<;>omega
   .simp only[h,if_false]<;>omega
theorem uM(its:List Value)(lo hi:Option Int):slicePick its.toArray lo hi none=((its.drop (HT.sIx its.length 0 lo)).take (HT.sIx its.length its.length hi-HT.sIx its.length 0 lo)).toArray:=by
 obtain⟨h1,h2,h3⟩:=wI lo hi its.toArray.size
 unfold slicePick
 rw[h1,h2,h3]
 simp only[sliceRange_one,pick_run,Zd]<;>rfl
def rSlL(K:PySem.W.Frag):V->Option Int->Option Int->Hp->VK->Prop:=λx lo hi H Q=>∃a xs,x= .ref a/\SqL K H a xs/\∀p,H p=none->Q (.ref p) (upd H p (.lst (yK xs lo hi)))
theorem Jl:SlR X (rSlL X.K):=by
 intro pins s σ H x v vl vu lo hi sl Q I rx hs pl pu h
 obtain⟨a,xs,rfl,hx,q⟩:=h
 cases rx
 obtain⟨its,r,ht,hz⟩:=I.list hx
 have hlen:=r.length
 refine⟨"list",_,slot_list_getitem.lookup,ht.isList.typeIs,?_⟩
 refine wpAny_getItem_list_slice ht.isList hs pl pu .none (by simp) ?_ (by rw[Zd]<;>omega)
 rw[uM,<-hlen]
 refine⟨.ref s.heap.objs.size,_,I.laid (t':=s.toks) (o:=.lst (yK xs lo hi)) (λb ob q=>Zb _ q) (Zg _) ?_,rfl,q _ (I.hok.fresh (Zg _))⟩
 exact⟨Zl (qZ xs lo hi) hz,_,0,(r.drop (HT.sIx xs.length 0 lo)).take (HT.sIx xs.length xs.length hi-HT.sIx xs.length 0 lo),Zf _ rfl⟩
def nO:V->Bool
 | .non=>true
 | .bl _=>true
 | .int _=>true
 | .str _=>true
 |_=>false
def eqV:V->V->Bool
 | .non,.non=>true
 | .bl a,.bl b=>a==b
 | .bl a,.int b=>(if a then 1 else 0)==b
 | .int a,.bl b=>a==(if b then 1 else 0)
 | .int a,.int b=>a==b
 | .str a,.str b=>a==b
 |_,_=>false
theorem Oc{A:Around}{s:Shared}{y x:V}{u v:Value}(ry:RelV y u)(rx:RelV x v)(fy:nO y=true)(fx:nO x=true):SeqAt.EqAt A s u v (eqV y x):=by
 cases y with
 |non=>
  cases ry
  cases x with
  |non=>cases rx;exact SeqAt.EqAt.same _
  |bl b=>cases rx;exact SeqAt.EqAt.none_bool b
  |int b=>obtain⟨t,rfl⟩:=rx;exact SeqAt.EqAt.none_int b t
  |str b=>obtain⟨t,rfl⟩:=rx;exact SeqAt.EqAt.none_str b t
  |_=>exact absurd (show false=true from fx) Zr
 |bl a=>
  cases ry
  cases x with
  |non=>cases rx;exact SeqAt.EqAt.bool_none a
  |bl b=>cases rx;exact SeqAt.EqAt.bool_bool a b
  |int b=>obtain⟨t,rfl⟩:=rx;exact SeqAt.EqAt.bool_int a b t
  |str b=>obtain⟨t,rfl⟩:=rx;exact SeqAt.EqAt.bool_str a b t
  |_=>exact absurd (show false=true from fx) Zr
 |int a=>
  obtain⟨t',rfl⟩:=ry
  cases x with
  |non=>cases rx;exact SeqAt.EqAt.int_none a t'
  |bl b=>cases rx;exact SeqAt.EqAt.int_bool a t' b
  |int b=>obtain⟨t,rfl⟩:=rx;exact SeqAt.EqAt.int_int a t' b t
  |str b=>obtain⟨t,rfl⟩:=rx;exact SeqAt.EqAt.int_str a t' b t
  |_=>exact absurd (show false=true from fx) Zr
 |str a=>
  obtain⟨t',rfl⟩:=ry
  cases x with
  |non=>cases rx;exact SeqAt.EqAt.str_none a t'
  |bl b=>cases rx;exact SeqAt.EqAt.str_bool a t' b
  |int b=>obtain⟨t,rfl⟩:=rx;exact SeqAt.EqAt.str_int a t' b t
  |str b=>obtain⟨t,rfl⟩:=rx;exact SeqAt.EqAt.str_str a t' b t
  |_=>exact absurd (show false=true from fx) Zr
 |_=>exact absurd (show false=true from fy) Zr
def eqU(x:V)(u:Value):Bool:=match u with
 | .none=>eqV .non x
 | .bool b=>eqV (.bl b) x
 | .int i _=>eqV (.int i) x
 | .str z _=>eqV (.str z) x
 |_=>false
theorem Gv{x y:V}{u:Value}(r:RelV y u)(f:nO y=true):eqU x u=eqV y x:=by
 cases y with
 |non=>cases r;rfl
 |bl b=>cases r;rfl
 |int i=>obtain⟨t,rfl⟩:=r;rfl
 |str z=>obtain⟨t,rfl⟩:=r;rfl
 |_=>exact absurd (show false=true from f) Zr
theorem oW{x:V}:∀{xs:List V}{us:List Value},Vals xs us->xs.all nO=true->us.any (eqU x)=xs.any λy=>eqV y x
 |_,_,.nil,_=>rfl
 |y::xs,u::us,.cons r t,f=>by
  rw[List.all_cons,Zo]at f
  rw[List.any_cons,List.any_cons,Gv r f.1,oW t f.2]
theorem my{A:Around}{s:Shared}{x:V}{v:Value}(rx:RelV x v)(fx:nO x=true):∀{xs:List V}{us:List Value},Vals xs us->xs.all nO=true->∀u∈us,SeqAt.EqAt A s u v (eqU x u)
 |_,_,.nil,_=>λu hu=>by cases hu
 |y::xs,u::us,.cons r t,f=>λu' hu=>by
  rw[List.all_cons,Zo]at f
  rcases Zi.mp hu with rfl|hu
  .rw[Gv r f.1];exact Oc r rx f.1 fx
  .exact my rx fx t f.2 u' hu
def inV(x:V)(xs:List V):Bool:=xs.any λy=>eqV y x
def rIn(K:PySem.W.Frag)(neg:Bool):R2:=λx y H Q=>∃p xs,y= .ref p/\(SqL K H p xs∨SqT K H p xs)/\nO x=true/\xs.all nO=true/\Q (.bl (if neg then !inV x xs else inV x xs)) H
theorem Dq:OpR X (compareOp .In) (rIn X.K false):=by
 intro pins s σ H x y v u Q I rx ry h
 obtain⟨p,xs,rfl,hq,fx,fs,q⟩:=h
 cases ry
 rcases hq with hq|hq
 .obtain⟨its,r,pl,hz⟩:=I.list hq
  refine SeqAt.in_listAt (eqU x) pl.isList (λw hw=>my rx fx r fs w (by simpa using hw)) ⟨.bl _,H,I,rfl,?_⟩
  rw[show its.toArray.any (eqU x)=its.any (eqU x) by simp,oW r fs]
  exact q
 .obtain⟨its,r,pl,hz⟩:=I.tuple hq
  refine SeqAt.in_tupleAt (eqU x) pl (λw hw=>my rx fx r fs w (by simpa using hw)) ⟨.bl _,H,I,rfl,?_⟩
  rw[show its.toArray.any (eqU x)=its.any (eqU x) by simp,oW r fs]
  exact q
theorem wK:OpR X (compareOp .NotIn) (rIn X.K true):=by
 intro pins s σ H x y v u Q I rx ry h
 obtain⟨p,xs,rfl,hq,fx,fs,q⟩:=h
 cases ry
 rcases hq with hq|hq
 .obtain⟨its,r,pl,hz⟩:=I.list hq
  refine SeqAt.notIn_listAt (eqU x) pl.isList (λw hw=>my rx fx r fs w (by simpa using hw)) ⟨.bl _,H,I,rfl,?_⟩
  rw[show its.toArray.any (eqU x)=its.any (eqU x) by simp,oW r fs]
  exact q
 .obtain⟨its,r,pl,hz⟩:=I.tuple hq
  refine SeqAt.notIn_tupleAt (eqU x) pl (λw hw=>my rx fx r fs w (by simpa using hw)) ⟨.bl _,H,I,rfl,?_⟩
  rw[show its.toArray.any (eqU x)=its.any (eqU x) by simp,oW r fs]
  exact q
theorem wW:lL X (.builtin "len") (λxs H Q=>∃p ys,xs=[.ref p]/\(SqL X.K H p ys∨SqT X.K H p ys)/\Q (.int ys.length) H):=by
 intro pins s σ H xs us Q I r h
 obtain⟨p,ys,rfl,hq,q⟩:=h
 obtain⟨u,rfl,rx⟩:=vals1 r
 cases rx
 have hn:=oh
 rcases hq with hq|hq
 .obtain⟨its,r',pl,hz⟩:=I.list hq
  have hlen:=r'.length
  exact Calls.call_len_list pl.isList (by simp only[Zd]<;>omega) ⟨.int ys.length,H,I.tok _,⟨s.toks+1,by rw[Zd,hlen]⟩,q⟩
 .obtain⟨its,r',pl,hz⟩:=I.tuple hq
  have hlen:=r'.length
  exact len_tuple pl (by simp only[Zd]<;>omega) ⟨.int ys.length,H,I.tok _,⟨s.toks+1,by rw[Zd,hlen]⟩,q⟩
theorem xm:lL X (.builtin "len") (λxs H Q=>∃z,xs=[.str z]/\z.length<=sizeLine/\Q (.int z.length) H):=by
 intro pins s σ H xs us Q I r h
 obtain⟨z,rfl,hz,q⟩:=h
 obtain⟨u,rfl,t,rfl⟩:=vals1 r
 have hn:=oh
 exact len_str (by omega) ⟨.int z.length,H,I.tok _,⟨_,rfl⟩,q⟩
theorem lL.or{f:Value}{r r':List V->Hp->VK->Prop}(h:lL X f r)(h':lL X f r'):lL X f (λxs H Q=>r xs H Q∨r' xs H Q):=by
 intro pins s σ H xs us Q I rs q
 rcases q with q|q
 .exact h pins s σ H xs us Q I rs q
 .exact h' pins s σ H xs us Q I rs q
theorem uR:lL X (.type "tuple") (λxs H Q=>∃p ys,xs=[.ref p]/\((SqL X.K H p ys/\∀l,H l=none->Q (.ref l) (upd H l (.tup ys)))∨(SqT X.K H p ys/\Q (.ref p) H))):=by
 intro pins s σ H xs us Q I r h
 obtain⟨p,ys,rfl,h⟩:=h
 obtain⟨u,rfl,rx⟩:=vals1 r
 cases rx
 rcases h with⟨hq,q⟩|⟨hq,q⟩
 .obtain⟨its,r',pl,hz⟩:=I.list hq
  have hlen:=r'.length
  refine call_tuple_list pl.isList (λh' kp=>?_) (by simp only[Zd]<;>omega)
  have I1:Inv X pins σ H { s with heap:=h'}:=I.kept (t':=s.toks) kp
  have I2:Inv X pins σ (upd H h'.objs.size (.tup ys)) { s with heap:=h'.push { cls:=.type "tuple",data:=.seq its.toArray} }:=
   I1.laid (t':=s.toks) (λb o e=>Zb _ e) (Zg _) (show jT X.prog X.w _ _ _ (.tup ys)from⟨hz,its,r',IsTup.new _ _⟩)
  exact⟨.ref h'.objs.size,_,I2,rfl,q _ (I1.hok.fresh (Zg _))⟩
 .obtain⟨its,r',pl,hz⟩:=I.tuple hq
  exact call_tuple_same pl ⟨.ref p,H,I,rfl,q⟩
def tyV(K:PySem.W.Frag)(T:String)(x:V)(H:Hp):Prop:=match x with
 | .str _=>T="str"
 | .int _=>T="int"
 | .ref p=>(T="list"/\∃xs,SqL K H p xs)∨(T="tuple"/\∃o,K.lookup p=some o/\o.cls= .type "tuple"/\o.dict=none)∨
   (T="dict"/\((∃kvs,H p=some (.dK kvs))∨∃kvs,H p=some (.dT kvs)))∨(T="set"/\∃S n,H p=some (.set S n))
 |_=>False
theorem Ox{pins:List (Addr×Obj)}{σ:St}{H:Hp}{s:Shared}{T:String}{x:V}{v:Value}(I:Inv X pins σ H s)(r:RelV x v)(ty:tyV X.K T x H):
  s.TypeIs v T/\∀a,v= .ref a->∃ob,s.heap.get? a=some ob/\ob.dict=none:=by
 cases x with
 |str z=>
  obtain⟨t,rfl⟩:=r
  cases (show T="str" from ty)
  exact⟨typeIs_str s z t,λ_ e=>nomatch e⟩
 |int i=>
  obtain⟨t,rfl⟩:=r
  cases (show T="int" from ty)
  exact⟨typeIs_int s i t,λ_ e=>nomatch e⟩
 |ref p=>
  cases r
  rcases ty with⟨rfl,xs,hq⟩|⟨rfl,o,hk,hc,hd⟩|⟨rfl,hk⟩|⟨rfl,S,n,hk⟩
  .obtain⟨its,_,pl,_⟩:=I.list hq
   refine⟨pl.isList.typeIs,λa e=>?_⟩
   cases e
   obtain⟨o,n,e,c,hd,_⟩:=pl
   exact⟨o,e,hd⟩
  .refine⟨⟨o,I.kIn p o hk,hc⟩,λa e=>?_⟩
   cases e
   exact⟨o,I.kIn _ o hk,hd⟩
  .have z:∃o,s.heap.get? p=some o/\o.ExactDict:=by
    rcases hk with⟨kvs,hk⟩|⟨kvs,hk⟩
    .obtain⟨_,_,_,_,o,_,_,e,ex,_⟩:=I.hok p _ hk
     exact⟨o,e,ex⟩
    .obtain⟨_,_,_,_,o,_,_,e,ex,_⟩:=I.hok p _ hk
     exact⟨o,e,ex⟩
   obtain⟨o,e,ex⟩:=z
   refine⟨⟨o,e,ex.1⟩,λa e2=>?_⟩
   cases e2
   exact⟨o,e,ex.2.1⟩
  .obtain⟨o,_,_,_,e,ex,_⟩:=I.hok p _ hk
   refine⟨⟨o,e,ex.1⟩,λa e2=>?_⟩
   cases e2
   exact⟨o,e,ex.2.1⟩
 |_=>exact False.elim ty
def tBM(K:PySem.W.Frag)(T:String)(r:V->List V->Hp->VK->Prop)(to:TE)(t:TA):TE:=λσ H Q=>to σ H λx H1=>tyV K T x H1/\t σ H1 λxs H2=>r x xs H2 Q
variable {o e:Expr} {es:List Expr} {to:TE} {t:TA} {name:Str} {apos cpos:Pos} {T id:String} {r:V->List V->Hp->VK->Prop}
theorem Nj(pa:PlainAttrs T)(slot:Slot T name id)(hty:typeOf (.builtin id)=pure (.type "method_descriptor"))(hm:MtR X id r)(ho:PE X o to)(ha:PA X (e::es) t)
  (hbase:attributeBase o name X.env (eval o X.env)=eval o X.env:=by rfl)
  (hfew:((backTo cpos (starEach (e::es) X.env)).all (λx=>!x.1)&&(backToKw cpos (keywordEach [] X.env)).all (λx=>x.1.isSome)
   &&decide ((e::es).length+([]:List Keyword).length+(if([]:List Keyword).isEmpty then 0 else 1)<30))=true:=by rfl)
  (hline:(apos.endLine==cpos.line)=true:=by rfl) (hs:starEach (e::es) X.env=(false,eval e X.env)::starEach es X.env:=by rfl) (hplain:(backTo cpos (starEach es X.env)).any (·.1)=false:=by rfl):
  PE X (.Call (.Attribute o name apos) (e::es) [] cpos) (tBM X.K T r to t):=by
 intro pins s σ H Q I h
 refine wpAny_Call_method_late hbase hfew hline rfl (thn (ho pins s σ H _ I h) λv s1 zq54=>?_)
 obtain⟨x,H1,I1,r1,ty,q1⟩:=zq54
 obtain⟨h1,h2⟩:=Ox I1 r1 ty
 refine⟨T,id,pa,slot,hty,h1,h2,?_⟩
 have hA:=ha cpos pins s1 σ H1 _ I1 q1
 rw[hs]at hA ⊢
 refine Calls.callWith_builtin (by show(false||(backTo cpos (starEach es X.env)).any (·.1))=false;rw[hplain]<;>rfl) (Calls.evalArgs_plain ?_)
 exact thn hA λus s2 ⟨vs,H2,I2,r2,q2⟩=>hm pins s2 σ H2 x vs v us Q I2 r1 r2 q2
end
def MtM(X:Cx)(id:String)(r:V->List V->Hp->VK->Prop):Prop:=
 ∀(pins:List (Addr×Obj))(s:Shared)(σ:St)(H:Hp)(x:V)(xs:List V)(v:Value)(us:List Value)(Q:VK),Inv X pins σ H s->RelV x v->Vals xs us->r x xs H Q->
  wpAny (model X.prog X.w) X.A (call (.builtin id) (v::us)) (EP X pins σ Q) X.xe s
theorem Vals.one:∀{x:V}{us:List Value},Vals [x] us->∃u,us=[u]/\RelV x u
 |_,_,.cons r .nil=>⟨_,rfl,r⟩
theorem Vals.eraseIdx:∀{xs:List V}{us:List Value}(i:Nat),Vals xs us->Vals (xs.eraseIdx i) (us.eraseIdx i)
 |_,_,_,.nil=>.nil
 |_,_,0,.cons _ t=>t
 |_,_,i+1,.cons r t=>.cons r (Vals.eraseIdx i t)
theorem Vals.rep{xs:List V}{us:List Value}(h:Vals xs us):∀k:Nat,Vals (List.replicate k xs).flatten (List.replicate k us).flatten
 |0=>.nil
 |k+1=>by
  rw[List.replicate_succ,List.replicate_succ,List.flatten_cons,List.flatten_cons]
  exact Vals.append h (Vals.rep h k)
theorem wu{α:Type}:∀(l:List α)(i:Nat),(l.eraseIdx i).length<=l.length
 | [],_=>Zg _
 |_::_,0=>Nat.le_succ _
 |_::r,i+1=>Nat.succ_le_succ (wu r i)
theorem foldl_rep(its:List Value):∀(k:Nat)(acc:List Value),
  List.foldl (λx1 x2=>x1++x2) acc.toArray (List.replicate k its.toArray)=(acc++(List.replicate k its).flatten).toArray
 |0,acc=>by simp
 |k+1,acc=>by
  have e:acc.toArray++its.toArray=(acc++its).toArray:=by simp
  have e2:(acc++its)++(List.replicate k its).flatten=acc++(List.replicate (k+1) its).flatten:=by
   rw[List.replicate_succ,List.flatten_cons,List.append_assoc]
  rw[<-e2,<-foldl_rep its k (acc++its),<-e,List.replicate_succ,List.foldl_cons]
section
variable {X:Cx} {pins:List (Addr×Obj)} {σ:St} {H:Hp} {s:Shared} {l b:Addr} {xs ys zs:List V}
theorem Inv.lset{its its':List Value}{n:Nat}{f:Array Value->Array Value}{t':Nat}(I:Inv X pins σ H s)(hH:H l=some (.lst xs))
  (e:s.heap.get? l=some { cls:=.type "list",data:=.seq its.toArray n}) (hf:f its.toArray=its'.toArray) (hv:Vals ys its') (hz:ys.length<=sizeLine):
  Inv X pins σ (upd H l (.lst ys)) { s with heap:=s.heap.update l (Obj.mapSeq f),toks:=t'}:=by
 have q:=PySem.IsL.update e f
 rw[hf]at q
 refine I.write (x:=l) (e:=l) (by rw[hH];exact trivial) (.inl rfl) (λb' u hb hu=>(Heap.get?_update_other s.heap (Obj.mapSeq f) (Ne.symm hb)).trans hu) ⟨_,q⟩ ?_
 exact⟨hz,its',_,hv,q⟩
theorem Inv.lnew{its:List Value}{t':Nat}(I:Inv X pins σ H s)(hv:Vals ys its)(hz:ys.length<=sizeLine):
  Inv X pins σ (upd H s.heap.objs.size (.lst ys)) { s with heap:=s.heap.push { cls:=.type "list",data:=.seq its.toArray},toks:=t'}:=
 I.laid (λ_ _ q=>Zb _ q) (Zg _) ⟨hz,its,0,hv,Zf _ rfl⟩
theorem Inv.fresh(I:Inv X pins σ H s):H s.heap.objs.size=none:=I.hok.fresh (Zg _)
theorem Inv.lstM(I:Inv X pins σ H s)(hH:H l=some (.lst xs)):xs.length<=sizeLine/\∃(its:List Value)(n:Nat),Vals xs its/\xs.length=its.length/\s.heap.get? l=some { cls:=.type "list",data:=.seq its.toArray n}:=by
 obtain⟨z,its,n,r,e⟩:=I.hok l _ hH
 exact⟨z,its,n,r,r.length,e⟩
theorem yI{n:Nat}(h:n<=sizeLine):Builtin.List.listTooLong n=false:=by
 unfold Builtin.List.listTooLong
 exact decide_eq_false (by omega)
end
section
variable {X:Cx}
def KN:V->List V->Hp->VK->Prop:=λx vs H Q=>∃l xs y,x= .ref l/\vs=[y]/\H l=some (.lst xs)/\xs.length<sizeLine/\Q .non (upd H l (.lst (xs++[y])))
theorem Ec:MtM X "list.append" KN:=by
 intro pins s σ H x vs v us Q I rx rv h
 obtain⟨l,xs,y,rfl,rfl,hH,hz,q⟩:=h
 cases rx
 obtain⟨u,rfl,ru⟩:=rv.one
 obtain⟨z,its,n,r,hl,e⟩:=I.lstM hH
 refine call_meets F.slot_list_append ⟨_,e,rfl⟩ F.entry_list_append (F.args_list_append_2 _ _) (PySem.list_append l its.toArray n u (by rw[Zd];omega)) ⟨e,?_⟩
 refine⟨.non,_,I.lset (its':=its++[u]) hH e (by simp) (r.append (.cons ru .nil)) ?_,rfl,q⟩
 rw[List.length_append,List.length_singleton]
 omega
def JT:V->List V->Hp->VK->Prop:=λx vs H Q=>∃l b xs zs,x= .ref l/\vs=[.ref b]/\H l=some (.lst xs)/\H b=some (.lst zs)/\xs.length+zs.length<=sizeLine/\Q .non (upd H l (.lst (xs++zs)))
theorem Rb:MtM X "list.extend" JT:=by
 intro pins s σ H x vs v us Q I rx rv h
 obtain⟨l,b,xs,zs,rfl,rfl,hH,hB,hz,q⟩:=h
 cases rx
 obtain⟨u,rfl,ru⟩:=rv.one
 cases ru
 obtain⟨z,its,n,r,hl,e⟩:=I.lstM hH
 obtain⟨z2,its2,n2,r2,hl2,e2⟩:=I.lstM hB
 have hsz:its.toArray.size+its2.toArray.size<=sizeLine:=by rw[Zd,Zd];omega
 have hlong:¬(!its.toArray.isEmpty&&Builtin.List.listTooLong (its.toArray.size+its2.toArray.size))=true:=by
  rw[yI hsz,Bool.and_false]
  exact Zr
 refine call_meets F.slot_list_extend ⟨_,e,rfl⟩ F.entry_list_extend (F.args_list_extend_2 _ _)
  (AutoSeq1.list_extend_list_list_0 l its.toArray n b its2.toArray n2 hlong (by rw[Zd];omega) (by omega)) ⟨e,e2,?_⟩
 refine⟨.non,_,I.lset (its':=its++its2) hH e (by simp) (r.append r2) ?_,rfl,q⟩
 rw[List.length_append]
 omega
def Oh:V->List V->Hp->VK->Prop:=λx vs H Q=>∃l xs i k y,x= .ref l/\vs=[.int i]/\H l=some (.lst xs)/\ -(2 ^ 63)<=i/\i<2 ^ 63/\seqIndex? i xs.length=some k/\xs[k]? =some y/\Q y (upd H l (.lst (xs.eraseIdx k)))
theorem Ie:MtM X "list.pop" Oh:=by
 intro pins s σ H x vs v us Q I rx rv h
 obtain⟨l,xs,i,k,y,rfl,rfl,hH,h1,h2,hk,hy,q⟩:=h
 cases rx
 obtain⟨u,rfl,ru⟩:=rv.one
 obtain⟨t,rfl⟩:=ru
 obtain⟨z,its,n,r,hl,e⟩:=I.lstM hH
 obtain⟨w,hw,rw'⟩:=r.get hy
 refine call_meets F.slot_list_pop ⟨_,e,rfl⟩ F.entry_list_pop (F.args_list_pop_2 _ _)
  (MeetsSeq.list_pop_at l its.toArray n i t k w (fitsIndex_both h1 h2) (by rw[Zd,<-hl];exact hk) (by rw[<-Array.getElem?_toList];exact hw) (by rw[Zd];omega)) ⟨e,?_⟩
 refine⟨y,_,I.lset (its':=its.eraseIdx k) hH e ?_ (r.eraseIdx k) ?_,rw',q⟩
 .show its.toArray.eraseIdxIfInBounds k=(its.eraseIdx k).toArray
  rw[List.eraseIdxIfInBounds_toArray]
 .have:=wu xs k
  omega
def rCat:R2:=λx y H Q=>∃l b xs zs,x= .ref l/\y= .ref b/\H l=some (.lst xs)/\H b=some (.lst zs)/\xs.length+zs.length<=sizeLine/\∀p,H p=none->Q (.ref p) (upd H p (.lst (xs++zs)))
theorem Oa:OpR X (binaryOp .Add) rCat:=by
 intro pins s σ H x y v u Q I rx ry h
 obtain⟨l,b,xs,zs,rfl,rfl,hH,hB,hz,q⟩:=h
 cases rx
 cases ry
 obtain⟨z,its,n,r,hl,e⟩:=I.lstM hH
 obtain⟨z2,its2,n2,r2,hl2,e2⟩:=I.lstM hB
 refine PySem.P.add_list e e2 ?_ (by rw[Zd,Zd];omega)
 have ea:its.toArray++its2.toArray=(its++its2).toArray:=by simp
 rw[ea]
 exact⟨.ref _,_,I.lnew (t':=s.toks) (r.append r2) (by rw[List.length_append];omega),rfl,q _ I.fresh⟩
def rRep:R2:=λx y H Q=>∃l k xs,x= .ref l/\y= .int k/\H l=some (.lst xs)/\ -(2 ^ 63)<=k/\k<2 ^ 63/\xs.length*k.toNat<=sizeLine/\
 ∀p,H p=none->Q (.ref p) (upd H p (.lst (List.replicate k.toNat xs).flatten))
theorem len_rep{α:Type}(xs:List α)(k:Nat):(List.replicate k xs).flatten.length=k*xs.length:=by
 induction k with
 |zero=>simp
 |succ k ih=>rw[List.replicate_succ,List.flatten_cons,List.length_append,ih,Nat.succ_mul,Nat.add_comm]
theorem Pq:OpR X (binaryOp .Mult) rRep:=by
 intro pins s σ H x y v u Q I rx ry h
 obtain⟨l,k,xs,rfl,rfl,hH,h1,h2,hz,q⟩:=h
 cases rx
 obtain⟨t,rfl⟩:=ry
 obtain⟨z,its,n,r,hl,e⟩:=I.lstM hH
 have hlen:its.toArray.size*k.toNat<=sizeLine:=by rw[Zd,<-hl];exact hz
 have hcap:¬its.toArray.size*k.toNat>(2 ^ 63-1) / 8:=by
  have:(sizeLine:Nat)<=(2 ^ 63-1) / 8:=by decide
  omega
 have hfit:¬(!Builtin.List.listFitsIndex k)=true:=by
  rw[fitsIndex_both h1 h2]
  exact Zr
 have hlong:¬Builtin.List.listTooLong (its.toArray.size*k.toNat)=true:=by
  rw[yI hlen]
  exact Zr
 have hnew:List.foldl (λx1 x2=>x1++x2) #[] (List.replicate (if its.toArray.isEmpty=true then 0 else k.toNat) its.toArray)=(List.replicate k.toNat its).flatten.toArray:=by
  have f0:∀m:Nat,List.foldl (λx1 x2=>x1++x2) #[] (List.replicate m its.toArray)=(List.replicate m its).flatten.toArray:=λm=>by
   have:=foldl_rep its m []
   rw[List.nil_append]at this
   exact this
  rw[f0]
  cases its with
  |nil=>simp
  |cons a r'=>rw[if_neg (by simp)]
 refine wpAny_binaryOp_repeat_ref (T:="list") (U:="int") (by decide) ⟨_,e,rfl⟩ (λs'=>typeIs_int s' k t) noFill_list_mul F.fills_int_mul F.slot_int_rmul repeat_list F.slot_int_index.lookup
  (call_meets F.slot_int_rmul (typeIs_int s k t) F.entry_int_rmul (F.args_int_rmul_2 _ _) (int___rmul___int_list k t l its.toArray n)
   ⟨e,rfl,⟨_,e,rfl⟩,call_meets F.slot_list_mul ⟨_,e,rfl⟩ F.entry_list_mul (F.args_list_mul_2 _ _) (AutoListH.list___mul___list_int_3 l its.toArray n k t hfit hcap hlong) ⟨e,?_⟩⟩)
 rw[hnew]
 exact⟨.ref _,_,I.lnew (t':=s.toks) (r.rep k.toNat) (by rw[len_rep,Nat.mul_comm];exact hz),rfl,q _ I.fresh⟩
end
end L2
namespace Att
open PySem PySem.W PySem.Calls PyProof.Rows
theorem rK{P:Params}{h:Heap}:∀(ns:List Int)(vs:List Value),WellAll P h vs (ns.map WData.int)->IntsAre vs ns:=by
 intro ns
 induction ns with
 |nil=>
  intro vs w
  rw[List.map_nil]at w
  cases w
  exact .nil
 |cons n ns ih=>
  intro vs w
  rw[Zj]at w
  cases w with
  |cons a b=>
   cases a
   exact .cons _ _ (ih _ b)
theorem DP{l:OpenLaw}{n:Nat}(hn:l.most=some n){P:Params}{h:Heap}{args:List WData}{vals:List Value}
  (hpre:l.row.toRowW.claim.pre args=true) (hwl:WellAll P h vals args):
  ∃a vs ns,vals=[Value.ref a]/\args=[WData.list (ns.map WData.int)]/\h.get? a=some { cls:=.type "list",data:=.seq vs.toArray}/\IntsAre vs ns/\ns.length<=n:=by
 have hsh:WShape.hasAll [] args [.list .int]=true:=(pre_splitW hpre).1
 have hc:l.pre.holds [] { args:=args}=true:=(pre_splitW hpre).2
 obtain⟨d,r,rfl,h1,h2⟩:=hasAllW_cons hsh
 obtain rfl:=hasAllW_nil h2
 obtain⟨xs,rfl,h3⟩:=hasW_list h1
 obtain⟨ns,rfl⟩:=items_int h3
 have hlen:ns.length<=n:=by
  unfold OpenLaw.pre at hc
  have h4:(WTm.not (.lt (.lit (.int (n:Int))) (.len (.arg 0)))).holds [] { args:=[.list (ns.map .int)] }=true:=by
   have h4:=(holds_andW hc).1
   rw[hn]at h4
   exact h4
  have h5:=condW_of h4 (w_not (w_lt w_lit (w_len_list (w_arg rfl))))
  rw[Zu]at h5
  refine Nat.le_of_not_lt λq=>?_
  have q':(n:Int)<((ns.length:Nat):Int):=by omega
  first
   |(rw[decide_eq_true q']at h5;exact absurd h5 (by decide))
   |(simp at h5;omega)
 cases hwl with
 |cons w1 w2=>
  cases w2
  cases w1 with
  |list ho hall=>exact⟨_,_,ns,rfl,rfl,ho,rK ns _ hall,hlen⟩
theorem Dw(l:OpenLaw)(args:List WData):l.row.toRowW.claim.post args (.bool true) args=true:=
 postW_of (r:=l.row.toRowW) (X:=(true==true))
  (show WShape.has [] (.bool true) .bool=true by first|rfl|decide|simp[WShape.has,WShape.arms,WShape.armsAll])
  (show(WTm.eq .res (.lit (.bool true))).value [] { args:=args,res:=some (.bool true),after:=args}=some (.bool (true==true))from w_eq_bool (w_res rfl) w_lit) rfl
theorem attach_call{l:OpenLaw}{n:Nat}{q:Program}{loose:List Str}{XP:(Str->Option Value)->Heap->Prop}{YP:World->Heap->Prop}{d:DefRec}
  (hn:l.most=some n) (hdf:d.params.defaults=[])
  (call:∀(w:World)(s₀ s₁:Shared)(mg mb:Str->Option Value)(fa:Addr)(o:Obj)(pm cd doc:Value)(a:Addr)(vs:List Value)(ns:List Int),
   Ground q loose [] XP w s₀ mg mb s₁.heap->YP w s₁.heap->
   s₁.heap.get? fa=some o->o.data= .func (docDef d.name d.params d.body d.scope pm cd doc)->s₁.heap.CodeRec cd d.name->mg d.name=some (.ref fa)->
   s₁.heap.get? a=some { cls:=.type "list",data:=.seq vs.toArray}->IntsAre vs ns->ns.length<=n->s₁.gens= #[]->
   codeAny (model l.prog w) callerA (.call (.ref fa) ⟨[.ref a],[]⟩) (λr s'=>r= .ok (.ret (.bool true))/\OldK s₁.heap s'.heap/\s'.os=s₁.os/\AllBare s'.gens) s₁):
  WalkO q loose XP YP l.row.toRowW d [] (λf vs=>PySem.call f vs):=by
 intro w s₀ s₁ mg mb G Y fa o pm cd doc dV kV ho hd hcd hD hmg hg args vals as hpre hlay hrd hwl hlo
 obtain rfl:dV= .none:=Dflts.none hD hdf
 obtain rfl:kV= .none:=Dflts.noKw hD
 obtain⟨a,vs,ns,rfl,rfl,hobj,hints,hlen⟩:=DP hn hpre hwl
 refine enter_call (codeAny_mono (call w s₀ s₁ mg mb fa o pm cd doc a vs ns G Y ho (fd_plain hd) hcd hmg hobj hints hlen hg) λr s' hq=>?_)
 obtain⟨rfl,h2,h3,h4⟩:=hq
 exact⟨.inl ⟨.bool true,.bool true,[],rfl,λ_=>rfl,.bool true,Dw l _,λ_=>⟨List.Pairwise.nil,λ_ hm=>(nomatch hm)⟩⟩,h2,h3,h4⟩
end Att
namespace L2
open PySem PySem.Spec PyProof.Rows
theorem vU:∀{vs:List Value}{ns:List Int},IntsAre vs ns->Vals (ns.map V.int) vs
 |_,_,.nil=>.nil
 |_,_,.cons n t h=>.cons ⟨t,rfl⟩ (vU h)
def jP(s:Stmt):Arguments:=match s with
 | .FunctionDef _ a _ _ _ _ _ _ _ _=>a
 |_=>{ posonlyargs:=[],args:=[],vararg:=none,kwonlyargs:=[],kw_defaults:=[],kwarg:=none,defaults:=[] }
def iD(s:Stmt):List Stmt:=match s with
 | .FunctionDef _ _ b _ _ _ _ _ _ _=>b
 |_=>[]
def aK(s:Stmt):Scope:=match s with
 | .FunctionDef _ _ _ _ _ _ sc _ _ _=>sc
 |_=>{ kind:=.function,names:=[],isGenerator:=false,isCoroutine:=false}
abbrev CX0:CXT:=λ_ _ _ _ _ _=>False
abbrev E0:XK:=λ_ _ _=>False
theorem SX{X:Cx}:BK CX0 X E0:=λ_ _ _ _ _ _ _ h=>h.elim
def lN(H H':Hp):Prop:=∀b o,H b=some o->H' b=some o
theorem lN.refl(H:Hp):lN H H:=λ_ _ h=>h
theorem lN.trans{H H1 H2:Hp}(a:lN H H1)(b:lN H1 H2):lN H H2:=λc o h=>b c o (a c o h)
def yQ(X:Cx):List Nat->List Str->Prop
 | [],[]=>True
 |i::is,x::xs=>(X.N[i]? =some x/\(X.env.kindOf x=some .cell∨X.env.kindOf x=some .free))/\yQ X is xs
 |_,_=>False
theorem yQ.length{X:Cx}:∀{is:List Nat}{xs:List Str},yQ X is xs->is.length=xs.length
 | [],[],_=>rfl
 |_::_,_::_,h=>by rw[List.length_cons,List.length_cons,yQ.length h.2]
theorem yQ.get{X:Cx}:∀{is:List Nat}{xs:List Str}{j i:Nat},yQ X is xs->is[j]? =some i->∃x,xs[j]? =some x/\X.N[i]? =some x/\(X.env.kindOf x=some .cell∨X.env.kindOf x=some .free)
 | [],[],_,_,_,e=>by simp at e
 |i::is,x::xs,0,k,h,e=>by
  simp at e;subst e
  exact⟨x,rfl,h.1⟩
 |i::is,x::xs,j+1,k,h,e=>by
  obtain⟨y,e1,e2⟩:=yQ.get (j:=j) (i:=k) h.2 (by simpa using e)
  exact⟨y,by simpa using e1,e2⟩
def uy(σ:St)(is:List Nat):St:=is.map λi=>(σ[i]?).join
theorem vm{σ:St}{is:List Nat}{j:Nat}{v:V}(e:(uy σ is)[j]? =some (some v)):∃i,is[j]? =some i/\σ[i]? =some (some v):=by
 unfold uy at e
 rw[List.getElem?_map]at e
 cases q:is[j]? with
 |none=>rw[q]at e;cases e
 |some i=>
  rw[q]at e
  have e1:(σ[i]?).join=some v:=by simpa using e
  cases q2:σ[i]? with
  |none=>rw[q2]at e1;cases e1
  |some o=>
   rw[q2]at e1
   have e2:o=some v:=e1
   subst e2
   exact⟨i,rfl,q2⟩
def cG(env:Env):List (Str×NameKind)->List (Str×Addr)->List (Str×Addr)
 | [],acc=>acc
 |(n,k)::r,acc=>cG env r (if k== .free then(match env.cells.lookup n with|some c=>(n,c)::acc|none=>acc)else acc)
theorem zx{env:Env}:∀(names:List (Str×NameKind))(acc:List (Str×Addr)),(∀y∈names,y.2= .free->∃c,env.cells.lookup y.1=some c)->
  (forIn names acc λ(p:Str×NameKind)(r:List (Str×Addr))=>if p.2== .free then(do let c<-cellOf env p.1;pure (ForInStep.yield ((p.1,c)::r)))else pure (ForInStep.yield r):Sem (List (Str×Addr)))=pure (cG env names acc)
 | [],acc,_=>rfl
 |(n,k)::r,acc,h=>by
  have hr:=zx (env:=env) r
  rw[List.forIn_cons]
  unfold cG
  by_cases hk:(k==NameKind.free)=true
  .obtain⟨c,hc⟩:=h (n,k) List.mem_cons_self (by simpa using hk)
   simp only[hk,if_true]
   unfold cellOf
   simp only at hc
   rw[hc]
   simp only[pure_bind]
   exact hr _ λy hy=>h y (List.mem_cons_of_mem _ hy)
  .simp only[hk]
   simp only[pure_bind,Bool.false_eq_true,if_false]
   exact hr _ λy hy=>h y (List.mem_cons_of_mem _ hy)
theorem iG{scope:Scope}{env:Env}(h:∀y∈scope.names,y.2= .free->∃c,env.cells.lookup y.1=some c):closureFor scope env=pure (cG env scope.names []):=by
 have e:=zx (env:=env) scope.names [] h
 rw[<-e]
 unfold closureFor
 simp only[bind_pure]
theorem mR{env:Env}:∀{names:List (Str×NameKind)}{acc:List (Str×Addr)}{p:Str×Addr},p∈cG env names acc->p∈acc∨env.cells.lookup p.1=some p.2
 | [],acc,p,h=>.inl h
 |(n,k)::r,acc,p,h=>by
  unfold cG at h
  rcases mR h with h|h
  .split at h
   .split at h
    .rename_i c hc
     rcases Zi.mp h with e|h
     .subst e;exact .inr hc
     .exact .inl h
    .exact .inl h
   .exact .inl h
  .exact .inr h
theorem qj{env:Env}{x:Str}:∀{names:List (Str×NameKind)}{acc:List (Str×Addr)},(∀k,(x,k)∈names->k≠ .free)->(cG env names acc).lookup x=acc.lookup x
 | [],acc,_=>rfl
 |(n,k)::r,acc,h=>by
  unfold cG
  rw[qj λk hk=>h k (List.mem_cons_of_mem _ hk)]
  by_cases hk:(k==NameKind.free)=true
  .rw[if_pos hk]
   have hne:x≠n:=by
    rintro rfl
    exact h k List.mem_cons_self (by simpa using hk)
   split
   .rw[List.lookup_cons]
    have:(x==n)=false:=by simpa using hne
    rw[this]
   .rfl
  .rw[if_neg hk]
theorem mO{env:Env}{x:Str}{c:Addr}(hc:env.cells.lookup x=some c):∀{names:List (Str×NameKind)}{acc:List (Str×Addr)},(x,NameKind.free)∈names∨acc.lookup x=some c->(cG env names acc).lookup x=some c
 | [],acc,h=>by
  rcases h with h|h
  .simp at h
  .exact h
 |(n,k)::r,acc,h=>by
  unfold cG
  apply mO hc
  by_cases hr:(x,NameKind.free)∈r
  .exact .inl hr
  .right
   by_cases hx:x=n
   .subst hx
    by_cases hk:(k==NameKind.free)=true
    .rw[if_pos hk,hc]
     simp
    .rw[if_neg hk]
     rcases h with h|h
     .rcases Zi.mp h with e|h
      .exfalso;apply hk
       cases e;rfl
      .exact absurd h hr
     .exact h
   .have h':acc.lookup x=some c:=by
     rcases h with h|h
     .rcases Zi.mp h with e|h
      .cases e;exact absurd rfl hx
      .exact absurd h hr
     .exact h
    have hxn:(x==n)=false:=by simpa using hx
    split
    .split
     .rw[List.lookup_cons,hxn];exact h'
     .exact h'
    .exact h'
structure CO(lo:Nat)(h:Heap)(acc:List (Str×Addr)):Prop where
 lt:∀p∈acc,p.2<h.objs.size
 em:∀p∈acc,lo<=p.2->h.IsCell p.2 none
 ap:∀p∈acc,∀q∈acc,p.2=q.2->lo<=p.2->p.1=q.1
theorem CO.go{lo:Nat}:∀(names:List (Str×NameKind))(h:Heap)(acc:List (Str×Addr)),CO lo h acc->lo<=h.objs.size->CO lo (pushCells h names) (cellsFrom h.objs.size names acc)
 | [],h,acc,x,_=>x
 |(n,k)::r,h,acc,x,hl=>by
  unfold pushCells cellsFrom
  by_cases hk:(k==NameKind.cell)=true
  .rw[if_pos hk,if_pos hk]
   have:=CO.go (lo:=lo) r (h.push { cls:=.type "cell",data:=.cell none}) ((n,h.objs.size)::acc) ⟨λp hp=>?_,λp hp hlo=>?_,λp hp q hq e hlo=>?_⟩ (by rw[Heap.size_push];omega)
   .rwa[Heap.size_push]at this
   .rw[Heap.size_push]
    rcases Zi.mp hp with e|hp
    .subst e;exact Nat.lt_succ_self _
    .exact Nat.lt_succ_of_lt (x.lt p hp)
   .rcases Zi.mp hp with e|hp
    .subst e;exact⟨_,Zf _ rfl,rfl⟩
    .exact(x.em p hp hlo).keeps λb o e=>Zb _ e
   .rcases Zi.mp hp with e1|hp<;>rcases Zi.mp hq with e2|hq
    .subst e1;subst e2;rfl
    .subst e1
     have e':h.objs.size=q.2:=e
     exact absurd (x.lt q hq) (by rw[<-e'];exact Nat.lt_irrefl _)
    .subst e2
     have e':p.2=h.objs.size:=e
     exact absurd (x.lt p hp) (by rw[e'];exact Nat.lt_irrefl _)
    .exact x.ap p hp q hq e hlo
  .rw[if_neg hk,if_neg hk]
   exact CO.go r h acc x hl
theorem wR:∀{names:List (Str×NameKind)}{m:Nat}{acc:List (Str×Addr)}{p:Str×Addr},p∈cellsFrom m names acc->p∈acc∨m<=p.2
 | [],m,acc,p,h=>.inl h
 |(n,k)::r,m,acc,p,h=>by
  unfold cellsFrom at h
  by_cases hk:(k==NameKind.cell)=true
  .rw[if_pos hk]at h
   rcases wR h with h|h
   .rcases Zi.mp h with e|h
    .subst e;exact .inr (Zg _)
    .exact .inl h
   .exact .inr (by omega)
  .rw[if_neg hk]at h
   exact wR h
theorem Af{x:Str}:∀{names:List (Str×NameKind)}{m:Nat}{acc:List (Str×Addr)},(∀k,(x,k)∈names->k≠ .cell)->(cellsFrom m names acc).lookup x=acc.lookup x
 | [],m,acc,_=>rfl
 |(n,k)::r,m,acc,h=>by
  unfold cellsFrom
  by_cases hk:(k==NameKind.cell)=true
  .rw[if_pos hk,Af λk hk=>h k (List.mem_cons_of_mem _ hk),List.lookup_cons]
   have hne:x≠n:=by
    rintro rfl
    exact h k List.mem_cons_self (by simpa using hk)
   have:(x==n)=false:=by simpa using hne
   rw[this]
  .rw[if_neg hk]
   exact Af λk hk=>h k (List.mem_cons_of_mem _ hk)
section
variable {M:Model} {A:Around} {E:Value->Shared->Prop} {s:Shared}
theorem jZ{scope:Scope}{globals:Addr}{closure:List (Str×Addr)}{qual:Str}{func:Option Addr}{code:Value}{around:Option Env}{builtins:Addr}{Q:Env->Shared->Prop}
  (h:Q (newEnv scope s.heap.objs.size globals (cellsFrom (s.heap.objs.size+1) scope.names closure) qual func code around builtins)
   { s with heap:=pushCells (s.heap.push { cls:=.type (if around.isSome then "dict" else "frame"),data:=.dict #[] }) scope.names}):
  wpAny M A (newFunctionEnv scope globals closure [] qual func code around builtins) Q E s:=by
 simp only[newFunctionEnv]
 refine wpAny_bind (wpAny_alloc ?_)
 refine wpAny_bind (wpAny_layCells _ (λname kind cells=>by cases hkc:kind==NameKind.cell<;>simp[hkc]) _ _ _ _ ?_)
 rw[List.forIn_nil]
 refine wpAny_bind (wpAny_pure (wpAny_pure ?_))
 have e:(s.heap.push ({ cls:=.type (if around.isSome then "dict" else "frame"),data:=.dict #[] }:Obj)).objs.size=s.heap.objs.size+1:=Heap.size_push ..
 rw[<-e]at h
 cases around<;>exact h
end
structure dZ(X:Cx)(own cap:List Str)(capI:List Nat)(scope:Scope):Prop where
 kind:scope.kind= .function
 nd:(scope.names.map (·.1)).Nodup
 caps:yQ X capI cap
 fre:∀y∈scope.names,y.2= .free->y.1∈cap
 cfr:∀x∈cap,(x,NameKind.free)∈scope.names
theorem uq{x:Str}{k k':NameKind}:∀{names:List (Str×NameKind)},(names.map (·.1)).Nodup->(x,k)∈names->(x,k')∈names->k=k'
 | [],_,h,_=>by simp at h
 |p::r,nd,h1,h2=>by
  rw[Zj,List.nodup_cons]at nd
  rcases Zi.mp h1 with e1|h1<;>rcases Zi.mp h2 with e2|h2
  .rw[<-e2]at e1;exact(Prod.mk.inj e1).2
  .exact absurd (by rw[<-e1];exact Zq.mpr ⟨_,h2,rfl⟩) nd.1
  .exact absurd (by rw[<-e2];exact Zq.mpr ⟨_,h1,rfl⟩) nd.1
  .exact uq nd.2 h1 h2
theorem cX{α:Type}{x:Str}{k:α}:∀{names:List (Str×α)},(names.map (·.1)).Nodup->(x,k)∈names->names.lookup x=some k
 | [],_,h=>by simp at h
 |(n,k')::r,nd,h=>by
  rw[Zj,List.nodup_cons]at nd
  rw[List.lookup_cons]
  rcases Zi.mp h with e|hr
  .cases e;simp
  .have hne:x≠n:=by
    intro e
    subst e
    exact nd.1 (Zq.mpr ⟨_,hr,rfl⟩)
   have:(x==n)=false:=by simpa using hne
   rw[this]
   exact cX nd.2 hr
theorem qY{scope:Scope}{env:Env}{x:Str}{k:NameKind}(h:(x,k)∈(relabel scope env).names):(x,k)∈scope.names∨(k= .cell/\(x,NameKind.free)∈scope.names):=by
 unfold relabel at h
 obtain⟨⟨n,k'⟩,hm,e⟩:=Zq.mp h
 dsimp only at e
 split at e
 .rename_i hc
  cases e
  have hk:k'=NameKind.free:=by
   simp only[Zo,beq_iff_eq]at hc
   exact hc.1.1
  subst hk
  exact .inr ⟨rfl,hm⟩
 .cases e;exact .inl hm
theorem xQ{scope:Scope}{env:Env}:(relabel scope env).names.map (·.1)=scope.names.map (·.1):=by
 unfold relabel
 rw[List.map_map]
 apply List.map_congr_left
 rintro⟨n,k⟩ _
 show(if _ then(n,NameKind.cell)else(n,k)).1=n
 split<;>rfl
theorem xf{scope:Scope}{env:Env}{x:Str}(nd:(scope.names.map (·.1)).Nodup)(h:(x,NameKind.free)∈scope.names):(relabel scope env).names.lookup x=some .cell∨(relabel scope env).names.lookup x=some .free:=by
 have nd':((relabel scope env).names.map (·.1)).Nodup:=by rw[xQ];exact nd
 by_cases hc:(NameKind.free==NameKind.free&&env.scope.kind== .function&&env.kindOf x==some .cell)=true
 .left
  refine cX nd' ?_
  unfold relabel
  refine Zq.mpr ⟨(x,NameKind.free),h,?_⟩
  dsimp only
  rw[if_pos hc]
 .right
  refine cX nd' ?_
  unfold relabel
  refine Zq.mpr ⟨(x,NameKind.free),h,?_⟩
  dsimp only
  rw[if_neg hc]
def bw(X:Cx)(own cap:List Str)(scope:Scope)(cs:List (Str×Addr))(C:Addr)(fp:List Addr)(s2:Shared)(H2:Hp):Cx where
 prog:=X.prog
 w:=X.w
 K:=X.K
 mg:=X.mg
 base:=X.base
 A:=X.A
 N:=own++cap
 s₀:=s2
 H₀:=H2
 env:=compEnvC scope cs C X.env
 outer:=X.stack
 stack:=X.stack
 ex:=fp
 fn:=λx=>own.contains x
 calm:=X.calm
 pn:=[]
 xe:=λ_ _=>False
def bT(own:List Str)(σ:St)(capI:List Nat):St:=List.replicate own.length none++uy σ capI
section
variable {X:Cx} {pins:List (Addr×Obj)} {σ:St} {H:Hp} {s:Shared} {own cap:List Str} {capI:List Nat} {scope:Scope}
theorem dZ.cells(B:dZ X own cap capI scope)(I:Inv X pins σ H s):∀y∈scope.names,y.2= .free->∃c,X.env.cells.lookup y.1=some c:=λy hy e=>by
 have hm:=B.fre y hy e
 obtain⟨j,hj⟩:=List.getElem?_of_mem hm
 have hlt:j<capI.length:=by rw[B.caps.length];exact(Zh.mp hj).1
 obtain⟨x,e1,_,k⟩:=B.caps.get (j:=j) (i:=capI[j]) (by simp[hlt])
 rw[hj]at e1
 cases e1
 exact I.ok.has _ k
theorem Inv.comp{fp:List Addr}{h0 h1:Heap}{C:Addr}{tk:Nat}(I:Inv X pins σ H s)(B:dZ X own cap capI scope)(hown:∀x∈own,(x,NameKind.free)∉scope.names)(hf:∀b∈fp,jg X pins H b)(ho:∀b∈fp,∃o,s.heap.get? b=some o)
  (hk0:∀b o,s.heap.get? b=some o->h0.get? b=some o) (hsz:s.heap.objs.size<=h0.objs.size) (hC:C=h0.objs.size) (h1e:h1=pushCells (h0.push { cls:=.type "dict",data:=.dict #[] }) scope.names):
  Inv (bw X own cap scope (cellsFrom (C+1) scope.names (cG X.env scope.names [])) C fp s H) [] (bT own σ capI) H { s with heap:=h1,toks:=tk}:=by
 have hCs:s.heap.objs.size<=C:=by rw[hC];exact hsz
 have hpush:(h0.push ({ cls:=.type "dict",data:=.dict #[] }:Obj)).objs.size=C+1:=by rw[hC];exact Heap.size_push ..
 have keep1:∀b o,h0.get? b=some o->h1.get? b=some o:=λb o e=>by rw[h1e];exact pushCells_keeps _ _ _ _ (Zb _ e)
 have keep:∀b o,s.heap.get? b=some o->h1.get? b=some o:=λb o e=>keep1 b o (hk0 b o e)
 have hCo:h1.get? C=some { cls:=.type "dict",data:=.dict #[] }:=by
  rw[h1e]
  refine pushCells_keeps _ _ _ _ ?_
  rw[hC];exact Zf _ rfl
 have clo_old:∀p∈cG X.env scope.names [],X.env.cells.lookup p.1=some p.2:=λp hp=>(mR hp).elim (λz=>by simp at z) id
 have old_lt:∀x c,X.env.cells.lookup x=some c->c<s.heap.objs.size:=λx c e=>let⟨v,q⟩:=I.cell x c e;q.lt
 have co0:CO (C+1) (h0.push { cls:=.type "dict",data:=.dict #[] }) (cG X.env scope.names []):=by
  refine⟨λp hp=>?_,λp hp hlo=>?_,λp hp q hq e hlo=>?_⟩
  .rw[hpush];exact Nat.lt_succ_of_lt (Zc (old_lt _ _ (clo_old p hp)) hCs)
  .exact absurd (Zc (old_lt _ _ (clo_old p hp)) (Zl hCs (Zl (Nat.le_succ _) hlo))) (Nat.lt_irrefl _)
  .exact absurd (Zc (old_lt _ _ (clo_old p hp)) (Zl hCs (Zl (Nat.le_succ _) hlo))) (Nat.lt_irrefl _)
 have co:=CO.go scope.names _ _ co0 (by rw[hpush];exact Zg _)
 rw[hpush,<-h1e]at co
 have csm:∀x c,(cellsFrom (C+1) scope.names (cG X.env scope.names [])).lookup x=some c->(X.env.cells.lookup x=some c/\c<s.heap.objs.size)∨(C+1<=c/\h1.IsCell c none):=λx c e=>by
  have hm:=Zt e
  rcases wR hm with z|z
  .have q:=clo_old _ z
   exact .inl ⟨q,old_lt _ _ q⟩
  .exact .inr ⟨z,co.em _ hm z⟩
 have fresh:∀b,s.heap.objs.size<=b->H b=none:=λb hb=>I.hok.fresh hb
 have eout:(bw X own cap scope (cellsFrom (C+1) scope.names (cG X.env scope.names [])) C fp s H).fs=frs X.stack:=rfl
 refine⟨⟨I.ok.mod,?_,I.ok.glob,I.ok.blt,hCs,?_,?_,?_,I.ok.hd,I.ok.frames,.inl rfl,?_,I.bs,Zl I.ok.bsz I.sz,?_,?_,I.stack,I.stkFree⟩,rfl,I.bare.again,Un.kept keep,?_,?_,fresh C hCs,?_,?_,I.hok.kept keep,?_⟩
 .exact B.kind
 .
  intro x y c e1 e2
  have e1':(cellsFrom (C+1) scope.names (cG X.env scope.names [])).lookup x=some c:=e1
  have e2':(cellsFrom (C+1) scope.names (cG X.env scope.names [])).lookup y=some c:=e2
  rcases csm x c e1' with⟨z1,l1⟩|⟨z1,_⟩
  .rcases csm y c e2' with⟨z2,_⟩|⟨z2,_⟩
   .exact I.ok.inj x y c z1 z2
   .exact absurd (Zc l1 (Zl hCs (Zl (Nat.le_succ _) z2))) (Nat.lt_irrefl _)
  .exact co.ap _ (Zt e1') _ (Zt e2') rfl z1
 .
  intro x hx
  have hx':(relabel scope X.env).names.lookup x=some .cell∨(relabel scope X.env).names.lookup x=some .free:=hx
  have hm:(x,NameKind.cell)∈scope.names∨(x,NameKind.free)∈scope.names:=by
   rcases hx' with e|e
   .rcases qY (Zt e)with q|q
    .exact .inl q
    .exact .inr q.2
   .rcases qY (Zt e)with q|q
    .exact .inr q
    .cases q.1
  rcases hm with q|q
  .exact Option.isSome_iff_exists.mp (PySem.W.cellsFrom_some scope.names (C+1) _ (.inl (cX B.nd q)))
  .obtain⟨c,hc⟩:=B.cells I _ q rfl
   exact Option.isSome_iff_exists.mp (PySem.W.cellsFrom_some scope.names (C+1) _ (.inr (by rw[mO hc (.inl q)];rfl)))
 .
  intro x c hx e
  have e':(cellsFrom (C+1) scope.names (cG X.env scope.names [])).lookup x=some c:=e
  have hxo:x∈own:=by simpa[bw]using hx
  rcases wR (Zt e')with z|z
  .exfalso
   have nf:=hown x hxo
   have:(cG X.env scope.names []).lookup x=none:=by
    rw[qj λk hk=>by rintro rfl;exact nf hk];rfl
   have hl:(cellsFrom (C+1) scope.names (cG X.env scope.names [])).lookup x=some c:=e'
   have q:∀(l:List (Str×Addr)),(x,c)∈l->l.lookup x≠none:=by
    intro l
    induction l with
    |nil=>intro h;simp at h
    |cons p r ih=>
     intro h
     obtain⟨n,d⟩:=p
     rw[List.lookup_cons]
     by_cases hn:(x==n)=true
     .rw[hn];simp
     .have hn':(x==n)=false:=by simpa using hn
      rw[hn']
      rcases Zi.mp h with e|h
      .cases e;simp at hn'
      .exact ih h
   exact q _ z this
  .exact Zl hCs (Zl (Nat.le_succ _) z)
 .
  intro b hb
  obtain⟨o,hbo⟩:=ho b hb
  have hlt:=Ze hbo
  refine⟨Zk (Zc hlt hCs),λx c e=>?_⟩
  rcases csm x c e with⟨z,_⟩|⟨z,_⟩
  .exact(hf b hb).2.2.2.2.1 x c z
  .exact Nat.ne_of_gt (Zc hlt (Zl hCs (Zl (Nat.le_succ _) z)))
 .
  intro b o e hb
  rcases(hf b hb).2.2.2.1 with z|z
  .exact I.ok.noex b o e z
  .exact absurd (Zc (Ze e) (Zl I.ok.bsz z)) (Nat.lt_irrefl _)
 .
  intro b hb hz
  rcases Zi.mp (I.stkSub b hz)with z|z
  .exact(hf b hb).2.1 z
  .exact(hf b hb).2.2.1 z
 .
  obtain⟨m,hn,hl⟩:=I.loc
  refine⟨λ_=>none,⟨_,#[],0,hCo,rfl,by intro e he;simp at he,λ_=>rfl⟩,λi x v e1 e2 hv=>?_⟩
  have e2':(bT own σ capI)[i]? =some (some v):=e2
  have e1':(own++cap)[i]? =some x:=e1
  unfold bT at e2'
  by_cases hi:i<own.length
  .rw[Zs (by simpa using hi),List.getElem?_replicate]at e2'
   split at e2'<;>cases e2'
  .rw[List.getElem?_append_right (by simpa using hi)]at e2'
   rw[List.getElem?_append_right (by simpa using hi)]at e1'
   rw[List.length_replicate]at e2'
   obtain⟨i0,q1,q2⟩:=vm e2'
   obtain⟨y,q3,q4,q5⟩:=B.caps.get q1
   rw[e1']at q3
   cases q3
   have hxf:(x,NameKind.free)∈scope.names:=B.cfr x (List.mem_of_getElem? e1')
   have vis:Vis X.env.scope x:=by
    rcases q5 with q5|q5
    .exact .inr (.inl q5)
    .exact .inr (.inr q5)
   obtain⟨u,ru,lk⟩:=hl i0 x v q4 q2 vis
   refine⟨u,ru,.inr ⟨xf B.nd hxf,?_⟩⟩
   rcases lk with⟨k,_⟩|⟨_,c,ec,hc⟩
   .rcases q5 with q5|q5<;>rw[k]at q5<;>cases q5
   .refine⟨c,?_,hc.keeps keep⟩
    show(cellsFrom (C+1) scope.names (cG X.env scope.names [])).lookup x=some c
    rw[Af λk hk=>?_]
    .exact mO ec (.inl hxf)
    .rintro rfl
     cases uq B.nd hk hxf
 .
  intro x c e
  rcases csm x c e with⟨z,_⟩|⟨_,z⟩
  .obtain⟨v,q⟩:=I.cell x c z
   exact⟨v,q.keeps keep⟩
  .exact⟨none,z⟩
 .
  intro x c e
  rcases csm x c e with⟨z,_⟩|⟨z,_⟩
  .exact I.freeC x c z
  .exact fresh c (Zl hCs (Zl (Nat.le_succ _) z))
 .intro p hp
  exact absurd (show p∈([]:List (Addr×Obj))from hp) (by simp)
 .show(bT own σ capI).length=(own++cap).length
  unfold bT uy
  rw[List.length_append,List.length_append,List.length_replicate,Zu,B.caps.length]
end
section
variable {prog:Program} {w:World} {A:Around} {R:Result->Shared->Prop} {s:Shared}
theorem wk{elt target iter:Expr}{ifs:List Expr}{scope:Scope}{pos:Pos}{it acc:Value}{env:Env}{E':Value->Shared->Prop}(I:Nat->Shared->Prop)
  (hE:∀e s',E' e s'->notedBy (model prog w) A env (λe s'=>R (.error e) s') e s')
  (turn:∀n s,I n s->wpAny (model prog w) A (pyNext it) (λr s₁=>match r with
   |none=>R (.ok .next) s₁
   |some v=>wpAny (model prog w) A (letOwnedTupleGo target it v) (λ_ s₂=>wpAny (model prog w) A (assign target env v) (λ_ s₃=>
    wpAny (model prog w) A (forIn ifs true λc r=>if r=true then do let ok<-isTrue c env (eval c env);pure (ForInStep.yield ok)else pure (ForInStep.yield r)) (λok s₄=>
     if ok=true then wpAny (model prog w) A (eval elt env) (λx s₅=>
      wpAny (model prog w) A (call (.builtin "list.append") [acc,x]) (λ_ s₆=>∃m,m<n/\I m s₆) E' s₅) E' s₄
     else∃m,m<n/\I m s₄) E' s₃) E' s₂) E' s₁) E' s)
  (n:Nat) (h:I n s):
  codeAny (model prog w) A (.compLoop (.ListComp elt [⟨target,iter,ifs,0⟩] scope pos) 0 it acc env) R s:=by
 refine codeAny_loop rfl I (λn s hI=>?_) n h
 show wpAny _ A ((compTurn (.ListComp elt [⟨target,iter,ifs,0⟩] scope pos) 0 it acc env).onRaise (λx=>do noteFrame x env;theTreesLotGoes x)) _ _ s
 refine wpAny_noted ?_
 rw[compTurn_list]
 refine wpAny_bind (wpAny_standAt (wpAny_bind (wpAny_mono (turn n s hI) (λr s₁ h₁=>?_) hE)))
 cases r with
 |none=>exact wpAny_pure h₁
 |some v=>
  refine wpAny_bind (wpAny_mono h₁ (λ_ s₂ h₂=>?_) hE)
  refine wpAny_bind (wpAny_mono h₂ (λ_ s₂ h₂=>wpAny_bind (wpAny_mono h₂ (λok s₃ h₃=>?_) hE)) hE)
  cases ok with
  |false=>exact wpAny_pure ⟨rfl,h₃⟩
  |true=>
   exact wpAny_bind (wpAny_bind (wpAny_mono h₃ (λx s₄ h₄=>wpAny_bind (wpAny_mono h₄ (λ_ s₅ h₅=>wpAny_pure (wpAny_pure ⟨rfl,h₅⟩)) hE)) hE))
end
def PIf(X:Cx)(ifs:List Expr)(t:TT):Prop:=
 ∀(pins:List (Addr×Obj))(s:Shared)(σ:St)(H:Hp)(Q:Bool->Hp->Prop),Inv X pins σ H s->t σ H Q->
  wpAny (model X.prog X.w) X.A (forIn ifs true λc r=>if r=true then do let ok<-isTrue c X.env (eval c X.env);pure (ForInStep.yield ok)else pure (ForInStep.yield r)) (TP X pins σ Q) X.xe s
def tYes:TT:=λ_ H Q=>Q true H
section
variable {X:Cx} {c:Expr} {t:TT}
theorem JS:PIf X [] tYes:=λ_ _ _ H _ I h=>wpAny_tests_nil ⟨H,I,h⟩
theorem KQ(h:PT X c t):PIf X [c] t:=λpins s σ H Q I hq=>wpAny_tests_one (h pins s σ H Q I hq)
end
def Fits(a b:St):Prop:=b.length=a.length/\∀(i:Nat) v,a[i]? =some (some v)->b[i]? =some (some v)
def tLC(own:List Str)(capI:List Nat)(wi:TI)(g:TG)(tt:TT)(te:TE):TE:=λσ H Q=>wi σ H λJ H1=>∃W:Nat->Nat->List V->Hp->Prop,(∃m,W 0 m [] H1)/\∀i m ys H,W i m ys H->
 (J.stop i H/\∀l,H l=none->Q (.ref l) (upd H l (.lst ys)))∨
 (J.go i H/\ys.length<sizeLine/\∀x H',J.yld i H x H'->g x (bT own σ capI) H' λσ2 H2=>Fits (bT own σ capI) σ2/\tt σ2 H2 λb H3=>
  if b=true then te σ2 H3 (λy H4=>∃m',m'<m/\W (i+1) m' (ys++[y]) H4)else∃m',m'<m/\W (i+1) m' ys H3)
abbrev aR(us:List Value)(k:Nat):Obj:={ cls:=.type "list",data:=.seq us.toArray k}
section
variable {X:Cx} {tg iter elt:Expr} {ifs:List Expr} {wi:TI} {g:TG} {tt:TT} {te:TE} {own cap:List Str} {capI:List Nat} {scope:Scope} {pos:Pos}
theorem Inv.compEnd{X':Cx}{pins pins':List (Addr×Obj)}{σ σ':St}{H H2:Hp}{s2 s1:Shared}{fp:List Addr}{l C:Addr}{ys:List V}{us:List Value}{k:Nat}{h':Heap}
  (I2:Inv X pins σ H2 s2) (f2:∀b∈fp,jg X pins H2 b) (hP:X'.prog=X.prog) (hw:X'.w=X.w) (hfs:X'.fs=frs X.stack) (hex:X'.ex=fp) (hs:X'.s₀=s2) (hH:X'.H₀=H2) (hC:X'.env.locals=C)
  (I:Inv X' pins' σ' H s1) (hl:s2.heap.objs.size<=l) (hlC:l≠C) (hCs:s2.heap.objs.size<=C) (ho:s1.heap.get? l=some (aR us k)) (hn:H l=none) (hv:Vals ys us) (hz:ys.length<=sizeLine)
  (sb:Heap.SameBut C s1.heap h'):Inv X pins σ (upd H l (.lst ys)) { s1 with heap:=h'}:=by
 subst hs hH hC
 have ne2:∀b o,X'.s₀.heap.get? b=some o->b≠X'.env.locals/\b≠l:=λb o e=>⟨Zk (Zc (Ze e) hCs),Zk (Zc (Ze e) hl)⟩
 have ub:=I.base
 rw[hfs,hex]at ub
 have nl:∀b u,H b=some u->b≠l:=λb u e z=>by rw[z,hn]at e;cases e
 have nC:∀b u,H b=some u->b≠X'.env.locals:=λb u e z=>by rw[z,I.free]at e;cases e
 refine I2.call' (ch:=fp) (s':={ s1 with heap:=h'}) I.os ⟨λb o e n hb hx=>?_,λb o e n hb hx=>?_,λb o e n hx=>?_,λb o e hx=>?_,λb xs e=>?_,λb o u e=>?_,λb ps e=>?_⟩ ?_ I.bare λb hb=>?_
 .exact(sb.2 b (ne2 b o e).1).trans (ub.keep b o e n hb hx)
 .obtain⟨sl,q⟩:=ub.slot b o e n hb hx
  exact⟨sl,(sb.2 b (ne2 b o e).1).trans q⟩
 .rw[aM (ne2 b o e).2]
  exact ub.free b o e n hx
 .obtain⟨o',q⟩:=ub.there b o e hx
  exact⟨o',(sb.2 b (ne2 b o e).1).trans q⟩
 .have q:=ub.tups b xs e
  rw[aM (nl b _ q)];exact q
 .have q:=ub.frzs b o u e
  rw[aM (nl b _ q)];exact q
 .obtain⟨more,q⟩:=ub.tbls b ps e
  exact⟨more,by rw[aM (nl b _ q)];exact q⟩
 .intro a o e
  have hok:=I.hok
  rw[hP,hw]at hok
  by_cases ha:a=l
  .subst ha
   rw[fK]at e
   cases e
   exact⟨hz,us,k,hv,(sb.2 a hlC).trans ho⟩
  .rw[aM ha]at e
   refine(hok a o e).stay (λb u hb q=>(sb.2 b ?_).trans q) (λb q=>by rw[aM (nl b _ q)];exact q) λb xs q=>by rw[aM (nl b _ q)];exact q
   rcases hb with z|z
   .rw[z];exact nC a o e
   .exact nC b _ z
 .obtain⟨q0,q1,q2,q3,q4,q5⟩:=f2 b hb
  exact⟨q3.imp id λz=>z,q1,q4,q5⟩
theorem Sh(hc:X.calm=true)(B:dZ X own cap capI scope)(hown:∀x∈own,(x,NameKind.free)∉scope.names)(hi:PI X tg iter wi)
  (hg:∀cs C fp s2 H2,PG (bw X own cap scope cs C fp s2 H2) tg g) (ht:∀cs C fp s2 H2,PIf (bw X own cap scope cs C fp s2 H2) ifs tt) (he:∀cs C fp s2 H2,PE (bw X own cap scope cs C fp s2 H2) elt te)
  (hs:∀x,foldedSetIterable iter X.env x=pure x:=by intro _;rfl):PE X (.ListComp elt [⟨tg,iter,ifs,0⟩] scope pos) (tLC own capI wi g tt te):=by
 intro pins s σ H Q I h
 rw[eval_ListComp]
 refine wpAny_comprehension_free (use:=none) (cl:=cG X.env scope.names []) rfl hs (iG (B.cells I)) B.kind (λy hy e=>cX B.nd (by rw[<-e];exact hy)) ?_
 refine thn (hi pins s σ H _ I h) λv s1 h1=>thn h1 λitv s2 h2=>?_
 obtain⟨it,fp,tn,J,H2,e,I2,T,st2,f2,W,⟨m0,w0⟩,turn⟩:=h2
 subst e
 refine wpAny_newObj_type (jZ ?_)
 dsimp only
 generalize hl:s2.heap.objs.size=l
 generalize hh0:s2.heap.push { cls:=.type "list",dict:=none,data:=.seq ([]:List Value).toArray}=h0
 have hsz0:h0.objs.size=l+1:=by rw[<-hh0,Heap.size_push,hl]
 generalize hC:h0.objs.size=C
 generalize hh1:pushCells (h0.push { cls:=.type (if(some X.env).isSome=true then "dict" else "frame"),data:=.dict #[] }) scope.names=h1
 have hl0:h0.get? l=some (aR [] 0):=by rw[<-hh0,<-hl];exact Zf _ rfl
 have hk0:∀b o,s2.heap.get? b=some o->h0.get? b=some o:=λb o e=>by rw[<-hh0];exact Zb _ e
 have hlC:l≠C:=by rw[<-hC,hsz0];exact Zk (Nat.lt_succ_self _)
 have hls:s2.heap.objs.size<=l:=Nat.le_of_eq hl
 have hCs:s2.heap.objs.size<=C:=by rw[<-hC,hsz0,hl];exact Nat.le_succ _
 have ho2:∀b∈fp,∃o,s2.heap.get? b=some o:=λb hb=>let⟨o,e,_⟩:=T.obj 0 _ st2 b hb;⟨o,e⟩
 have hfl:∀b∈fp,b≠l/\b≠C:=λb hb=>let⟨o,e⟩:=ho2 b hb;⟨Zk (Zc (Ze e) hls),Zk (Zc (Ze e) hCs)⟩
 have hl1:h1.get? l=some (aR [] 0):=by rw[<-hh1];exact pushCells_keeps _ _ _ _ (Zb _ hl0)
 have keep1:∀b o,s2.heap.get? b=some o->h1.get? b=some o:=λb o e=>by rw[<-hh1];exact pushCells_keeps _ _ _ _ (Zb _ (hk0 b o e))
 generalize hcs:cellsFrom (C+1) scope.names (cG X.env scope.names [])=cs
 have I0:Inv (bw X own cap scope cs C fp s2 H2) [] (bT own σ capI) H2 { s2 with heap:=h1}:=by
  have q:=I2.comp (tk:=s2.toks) B hown f2 ho2 hk0 (by rw[hsz0,hl];exact Nat.le_succ _) hC.symm hh1.symm
  rw[hcs]at q
  exact q
 have henv:(newEnv scope C X.env.globals cs X.env.qual none .none (some X.env) builtinsNs)={ compEnvC scope cs C X.env with scope:=scope}:=rfl
 have henv2:({ newEnv scope C X.env.globals cs X.env.qual none .none (some X.env) builtinsNs with scope:=relabel scope X.env}:Env)=(bw X own cap scope cs C fp s2 H2).env:=rfl
 generalize hX':bw X own cap scope cs C fp s2 H2=X' at I0 henv2
 have eP:X'.prog=X.prog:=by rw[<-hX'];rfl
 have eW:X'.w=X.w:=by rw[<-hX'];rfl
 have eK:X'.K=X.K:=by rw[<-hX'];rfl
 have eA:X'.A=X.A:=by rw[<-hX'];rfl
 have eFs:X'.fs=frs X.stack:=by rw[<-hX'];rfl
 have eEx:X'.ex=fp:=by rw[<-hX'];rfl
 have eS:X'.s₀=s2:=by rw[<-hX'];rfl
 have eH:X'.H₀=H2:=by rw[<-hX'];rfl
 have eL:X'.env.locals=C:=by rw[<-hX'];rfl
 have eC:X'.calm=true:=by rw[<-hX'];exact hc
 have eX:X'.xe=λ_ _=>False:=by rw[<-hX'];rfl
 have ePn:X'.pn=[]:=by rw[<-hX'];rfl
 have hg':PG X' tg g:=by rw[<-hX'];exact hg cs C fp s2 H2
 have ht':PIf X' ifs tt:=by rw[<-hX'];exact ht cs C fp s2 H2
 have he':PE X' elt te:=by rw[<-hX'];exact he cs C fp s2 H2
 have stat:∀{H':Hp}{P:List (Addr×Obj)},X'.Ok->(∀b∈fp,H' b=none)->(∀p∈P,p.1=l)->∀b∈fp,jg X' P H' b:=λ{H' P} ok hn hP b hb=>by
  refine⟨hn b hb,?_,?_,.inl (by rw[eEx];exact hb),?_,λp hp=>?_⟩
  .exact(ok.exf b (by rw[eEx];exact hb)).1
  .exact ok.exfs b (by rw[eEx];exact hb)
  .exact(ok.exf b (by rw[eEx];exact hb)).2
  .rw[ePn,List.nil_append]at hp
   rw[hP p hp]
   exact Ne.symm (hfl b hb).1
 have lfs:X'.Ok->l∉X'.fs:=λok hz=>by
  rw[eFs]at hz
  exact(Inv.nofs (X:=X) I2 hls) ((Zi.mp (I2.stkSub l hz)).elim (λz=>absurd I2.lt (by rw[<-z,hl];exact Nat.lt_irrefl _)) id)
 have pinL:∀{σ':St}{H':Hp}{s':Shared}{us:List Value}{k:Nat},Inv X' [] σ' H' s'->s'.heap.get? l=some (aR us k)->H' l=none->Inv X' [(l,aR us k)] σ' H' s':=λ{σ' H' s' us k} I' e n=>
  I'.pins_of λp hp=>by
   obtain rfl:p=(l,aR us k):=by simpa using hp
   exact⟨e,n,by rw[eL];exact hlC,lfs I'.ok,λv z=>by cases z⟩
 have loop:∀s3:Shared,s3={ s2 with heap:=h1}->codeAny (model X.prog X.w) X.A (.compLoop (.ListComp elt [⟨tg,iter,ifs,0⟩] scope pos) 0 (.ref it) (.ref l) X'.env) (compPost (model X.prog X.w) X.A X.xe none (EP X pins σ Q) (.ref l) C) s3:=by
  rintro s3 rfl
  refine wk (E':=λ_ _=>False) (λn s'=>∃i ys us k H',Inv X' [] (bT own σ capI) H' s'/\tn i s'.heap/\(∀b∈fp,H' b=none)/\W i n ys H'/\Vals ys us/\s'.heap.get? l=some (aR us k)/\H' l=none/\ys.length<=sizeLine) (λ_ _ z=>z.elim) ?_ m0
   ⟨0,[],[],0,H2,I0,T.keep _ _ _ st2 λb _ o e=>keep1 b o e,λb hb=>(f2 b hb).1,w0,.nil,hl1,I2.hok.fresh hls,Nat.zero_le _⟩
  rintro n s3 ⟨i,ys,us,k,H3,I3,st3,fr3,w3,v3,o3,n3,z3⟩
  have I3p:=pinL I3 o3 n3
  have P1:∀p∈[(l,aR us k)],p.1=l:=λp hp=>by
   obtain rfl:p=(l,aR us k):=by simpa using hp
   rfl
  rcases turn i n ys H3 w3 with⟨stop,qn⟩|⟨go,hlt,step⟩
  .have q:=T.done X' eP eW eK eC i _ s3 _ H3 (λ_ _=>False) I3p (stat I3.ok fr3 P1) st3 stop
   rw[eA]at q
   refine wpAny_mono q (λr s4 ⟨hr,I4⟩=>?_) λ_ _ z=>z
   subst hr
   have pl:=I4.pin (l,aR us k) (by simp)
   obtain⟨m4,hn4,_⟩:=I4.loc
   rw[eL]at hn4
   refine⟨m4,hn4,λh' sb=>⟨.ref l,upd H3 l (.lst ys),?_,rfl,qn l n3⟩⟩
   exact I2.compEnd f2 eP eW eFs eEx eS eH eL I4 hls hlC hCs pl.1 n3 v3 z3 sb
  .have q:=T.item X' eP eW eK eC i _ s3 _ H3 (λ_ _=>False) I3p (stat I3.ok fr3 P1) st3 go
   rw[eA]at q
   refine wpAny_mono q (λr s4 ⟨u,hr,h4⟩=>?_) λ_ _ z=>z
   subst hr
   refine wpAny_mono h4 (λ_ s5 ⟨x,H5,I5,r5,y5,st5,fr5⟩=>?_) λ_ _ z=>z
   have I5':=I5.pinned (stat I5.ok fr5 P1) (T.obj _ _ st5)
   have a1:=hg' _ s5 _ H5 x u _ I5' r5 (step x H5 y5)
   rw[eP,eW,eA,eX]at a1
   refine wpAny_mono a1 (λ_ s6 ⟨σ6,H6,I6,ft6,q6⟩=>?_) λ_ _ z=>z
   have a2:=ht' _ s6 σ6 H6 _ I6 q6
   rw[eP,eW,eA,eX]at a2
   refine wpAny_mono a2 (λok s7 ⟨H7,I7,q7⟩=>?_) λ_ _ z=>z
   have back:∀{H8:Hp}{s8:Shared},Inv X' ([(l,aR us k)]++mx fp s5.heap) σ6 H8 s8->Inv X' [] (bT own σ capI) H8 s8/\tn (i+1) s8.heap/\(∀b∈fp,H8 b=none)/\s8.heap.get? l=some (aR us k)/\H8 l=none:=λ{H8 s8} I8=>by
    have pl:=I8.pin (l,aR us k) (by simp)
    refine⟨(I8.weak ft6.1.symm ft6.2).pins_of λp hp=>absurd hp (by simp),T.keep _ _ _ st5 λb hb o e=>?_,λb hb=>?_,pl.1,pl.2.1⟩
    .exact(I8.pin (b,o) (Zn _ (Zn _ (dG hb e)))).1
    .obtain⟨o,e,d⟩:=T.obj _ _ st5 b hb
     exact(I8.pin (b,o) (Zn _ (Zn _ (dG hb e)))).2.1
   cases ok with
   |false=>
    rw[if_neg Zr]
    rw[if_neg Zr]at q7
    obtain⟨m',hm,w7⟩:=q7
    obtain⟨I8,st8,fr8,o8,n8⟩:=back I7
    exact⟨m',hm,i+1,ys,us,k,H7,I8,st8,fr8,w7,v3,o8,n8,z3⟩
   |true=>
    rw[if_pos rfl]
    rw[if_pos rfl]at q7
    have a3:=he' _ s7 σ6 H7 _ I7 q7
    rw[eP,eW,eA,eX]at a3
    refine wpAny_mono a3 (λyv s8 ⟨y,H8,I8',r8,m',hm,w8⟩=>?_) λ_ _ z=>z
    obtain⟨I8,st8,fr8,o8,n8⟩:=back I8'
    refine append_at (hsz:=by show us.toArray.size<=sizeLine;rw[Zd,<-v3.length];exact z3) o8 λh9 sb9 o9=>?_
    have I9:Inv X' [] (bT own σ capI) H8 { s8 with heap:=h9}:=I8.turned (t':=s8.toks) (λb o hb e=>(sb9.2 b hb).trans e) n8 (by rw[eL];exact hlC) (.inr (by rw[eS];exact hls)) (λx c e=>by
     rintro rfl
     obtain⟨v',ho',hd',hd''⟩:=I8.cell x c e
     rw[o8]at hd'
     cases hd'
     cases hd'') (λp hp=>by rw[ePn]at hp;exact absurd hp (by simp))
    refine⟨m',hm,i+1,ys++[y],us++[yv],k+1,H8,I9,T.keep _ _ _ st8 λb hb o e=>(sb9.2 b (hfl b hb).1).trans e,fr8,w8,v3.append (.cons r8 .nil),?_,n8,?_⟩
    .rw[o9]
     simp[aR]
    .rw[List.length_append]
     exact hlt
 have T0:=T.keep 0 s2.heap h1 st2 λb _ o e=>keep1 b o e
 rw[henv2]
 exact codeAny_compStart_list (loop _ rfl) (T.self X.A 0 _ _ _ T0 (loop _ rfl))
end
def cz(M:Model)(A:Around)(c:Code)(t:Sem Fin)(fs:List Frame)(s:Shared)(Φ:End->Shared->Prop):Prop:=
 ∀Γ p,Γ.code=c->Γ.Woken A->∃e s',Runs M Γ p t fs s e s'/\Φ e s'
section
variable {M:Model} {A:Around} {c:Code} {fs:List Frame} {s:Shared} {Φ:End->Shared->Prop}
theorem cz.wrap{α:Type}{m:Sem α}{K:α->Sem Fin}{H:Value->Sem Fin}{gd:Bool->Bool}{lv:List Value->List Value}
  (h:wpAny M (A.over c fs) m (λa s'=>cz M A c (K a) fs s' Φ) (λx s'=>cz M A c (H x) fs s' Φ) s):cz M A c (m.wrap K H gd lv) fs s Φ:=by
 rintro Γ p rfl hΓ
 exact runs_wrap_of_wp K H gd lv m (h (Γ.over fs) p (hΓ.over fs)) (λa p' s' h'=>h' Γ p' rfl hΓ) (λx p' s' h'=>h' Γ p' rfl hΓ)
theorem cz.bindWrap{α β:Type}{m:Sem α}{K:α->Sem β}{K':β->Sem Fin}{H':Value->Sem Fin}{gd:Bool->Bool}{lv:List Value->List Value}
  (h:wpAny M (A.over c fs) m (λa s'=>cz M A c ((K a).wrap K' H' gd lv) fs s' Φ) (λx s'=>cz M A c (H' x) fs s' Φ) s):cz M A c ((m >>= K).wrap K' H' gd lv) fs s Φ:=by
 rw[Sem.bind_eq_wrap',Sem.wrap_wrap];exact cz.wrap h
theorem cz.at{p':Pos}{k:Unit->Sem Fin}(h:cz M A c (k ()) fs s Φ):cz M A c (.at p' k) fs s Φ:=
 cz.wrap (m:=standAt p') (K:=k) (H:=.raise) (gd:=id) (lv:=id) (wpAny_standAt h)
theorem cz.again{c':Code}(hq:c'.quiet=true)(hc:cz M A c' (M.den c') fs s Φ):cz M A c (.pure (.again c')) fs s Φ:=by
 rintro Γ p rfl hΓ
 obtain⟨e,s',hr,he⟩:=hc (Γ.goto c') p rfl (hΓ.goto c')
 exact⟨e,s',Runs.head (c₁:=c') (λ_ _ x=>.again hq x) hr,he⟩
theorem cz.end(r:Result)(h:Φ (.ret r) s):cz M A c (leafOf r) [] s Φ:=by
 rintro Γ p rfl _
 exact⟨.ret r,s,Runs.leaf r,h⟩
theorem cz.yield{v:Value}{g:Bool}{l:List Value}{k:Resume->Sem Fin}(hfs:splitAtGen fs=none)(h:∀p,Φ (.susp v g l k c p fs) s):cz M A c (.yield v g l k) fs s Φ:=by
 rintro Γ p rfl _
 exact⟨_,s,Runs.yield' fs hfs,h p⟩
def Ms(M:Model)(A:Around)(gs:GenState)(s:Shared)(Φ:End->Shared->Prop):Prop:=
 match gs with
 | .fresh c=>cz M A c (M.den c) [] s Φ
 | .suspended k _ c _ fs _=>cz M A c (k (.send .none)) fs s Φ
 |_=>False
theorem KY{E:Value->Shared->Prop}{g:Nat}{gs:GenState}{l:List Value}{α:Type}{k:GenResult->Sem α}{Q:α->Shared->Prop}(hg:s.gens[g]? =some gs)
  (hgo:Ms M A gs (s.setGen g .running) Φ) (hq:∀e s₁,Φ e s₁->e.quiet=true) (hΦ:∀e s₁,Φ e s₁->wpAny M A (k e.result) Q E (s₁.setGen g e.genState)):
  wpAny M A (.resume g (.send .none) l k) Q E s:=by
 intro Γ p hΓ
 rw[Sem.wp_resume]
 have hB:∀c,(Γ.wake c p).Woken A:=λc=>hΓ.wake c p
 cases gs with
 |fresh c=>
  obtain⟨e₁,s₁,hr,he⟩:=hgo (Γ.wake c p) p rfl (hB c)
  exact⟨_,_,by unfold Wakes;rw[hg];exact⟨e₁,s₁,hr,hq e₁ s₁ he,rfl,rfl⟩,hΦ e₁ s₁ he Γ p hΓ⟩
 |suspended k₀ l₀ c₀ p₀ fs₀ cl=>
  obtain⟨e₁,s₁,hr,he⟩:=hgo (Γ.wake c₀ p) p₀ rfl (hB c₀)
  exact⟨_,_,by unfold Wakes;rw[hg];exact⟨e₁,s₁,hr,hq e₁ s₁ he,rfl,rfl⟩,hΦ e₁ s₁ he Γ p hΓ⟩
 |running=>exact hgo.elim
 |finished=>exact hgo.elim
end
section
variable {prog:Program} {w:World} {A:Around} {E:Value->Shared->Prop} {s:Shared} {Φ:End->Shared->Prop}
theorem qR{a:Addr}{g:Nat}{gs:GenState}{Q:Option Value->Shared->Prop}(hh:A.handled=none)(hl:s.heap.NoLimit)(hroom:A.depth<recursionLimit)
  (hg:s.heap.IsGen a g) (hgs:s.gens[g]? =some gs) (hgo:Ms (model prog w) A.in1 gs (s.setGen g .running) Φ) (hq:∀e s₁,Φ e s₁->e.quiet=true)
  (hΦ:∀e s₁,Φ e s₁->(∃v gd l k c p fs,e= .susp v gd l k c p fs/\Q (some v) (s₁.setGen g e.genState))∨
   (e= .ret (.ok .next)/\∀h',(∀b o,s₁.heap.get? b=some o->h'.get? b=some o)->Q none { s₁.setGen g .finished with heap:=h'})):
  wpAny (model prog w) A (pyNext (.ref a)) Q E s:=by
 unfold pyNext
 refine wpAny_bind (wpAny_attempt (wpAny_callSpecial?_slot (name:=Str.ofString "__next__") hg.typeIs slot_gen_next
  (wpAny_call_entry slot_gen_next hg.typeIs entry_gen_next ?_ (args_gen_next _))))
 show wpAny _ A.in1 (Builtin.Generator.genWake (.ref a) (.send .none)) _ _ s
 unfold Builtin.Generator.genWake
 refine wpAny_bind (wpAny_holding (wpAny_genNumber hg (wpAny_bind (wpAny_genState hgs ?_))))
 cases gs with
 |running=>exact hgo.elim
 |finished=>exact hgo.elim
 |_=>
  refine wpAny_bind (wpAny_roomToWake hl hroom ?_)
  show wpAny _ A.in1 (.resume g (.send .none) [] _) _ _ s
  refine KY hgs hgo hq λe s₁ he=>?_
  rcases hΦ e s₁ he with⟨v,gd,l,k,c,p,fs,rfl,hQ⟩|⟨rfl,hP⟩
  .exact wpAny_pure ⟨v,rfl,wpAny_pure hQ⟩
  .show wpAny _ A.in1 (newExc (.type "StopIteration") [] >>= _) _ _ _
   refine wpAny_bind ?_
   simp only[newExc,newTuple]
   refine wpAny_bind (wpAny_newObj_type ?_ (by size_fits))
   refine wpAny_bind (m:=firstArgMember _ _) (wpAny_of_eq (a:=Value.none) (by first|rfl|(simp only[firstArgMember];rfl)) ?_)
   refine wpAny_newObj_type ?_ (by size_fits)
   simp only[raiseNew]
   refine wpAny_bind (wpAny_bind (wpAny_handled ?_))
   first|rw[show A.in1.handled=none from hh]|rw[hh]
   refine wpAny_throw ?_
   refine wpAny_bind (wpAny_isInstance (T:="StopIteration") (b:=true) ⟨_,Zf _ rfl,rfl⟩ isSubtype_stop ?_)
   exact wpAny_pure (hP _ λb o hb=>Zb _ (Zb _ hb))
end
def uB(X:Cx)(AG:Around)(own cap:List Str)(scope:Scope)(cs:List (Str×Addr))(C:Addr)(code:Value)(fp:List Addr)(s2:Shared)(H2:Hp):Cx where
 prog:=X.prog
 w:=X.w
 K:=X.K
 mg:=X.mg
 base:=X.base
 A:=AG
 N:=own++cap
 s₀:={ s2 with gens:=s2.gens.push .running}
 H₀:=H2
 env:=genEnv scope cs C code builtinsNs X.env
 outer:=X.stack
 stack:=genEnv scope cs C code builtinsNs X.env::X.stack
 ex:=fp
 fn:=λx=>own.contains x
 calm:=true
 pn:=[]
 xe:=λ_ _=>False
section
variable {X:Cx} {pins:List (Addr×Obj)} {σ:St} {H:Hp} {s:Shared} {own cap:List Str} {capI:List Nat} {scope:Scope}
theorem Inv.gen{AG:Around}{fp:List Addr}{h1:Heap}{C:Addr}{tk:Nat}{code:Value}{m:Str->Option Value}(I:Inv X pins σ H s)(B:dZ X own cap capI scope)(hown:∀x∈own,(x,NameKind.free)∉scope.names)(hnc:∀y∈scope.names,y.2≠ .cell)
  (hf:∀b∈fp,jg X pins H b) (ho:∀b∈fp,∃o,s.heap.get? b=some o)
  (keep:∀b o,s.heap.get? b=some o->h1.get? b=some o) (hCs:s.heap.objs.size<=C) (hm:h1.Ns C m) (hAf:AG.frames=some (genEnv scope (cG X.env scope.names []) C code builtinsNs X.env::X.stack)) (hAh:AG.handled=none):
  Inv (uB X AG own cap scope (cG X.env scope.names []) C code fp s H) [] (bT own σ capI) H { s with heap:=h1,toks:=tk,gens:=s.gens.push .running}:=by
 have clo_old:∀p∈cG X.env scope.names [],X.env.cells.lookup p.1=some p.2:=λp hp=>(mR hp).elim (λz=>by simp at z) id
 have old_lt:∀x c,X.env.cells.lookup x=some c->c<s.heap.objs.size:=λx c e=>let⟨v,q⟩:=I.cell x c e;q.lt
 have csm:∀x c,(cG X.env scope.names []).lookup x=some c->X.env.cells.lookup x=some c/\c<s.heap.objs.size:=λx c e=>by
  have q:=clo_old _ (Zt e)
  exact⟨q,old_lt _ _ q⟩
 have fresh:∀b,s.heap.objs.size<=b->H b=none:=λb hb=>I.hok.fresh hb
 have brun:AllBare (s.gens.push .running):=AllBare.push I.bare.bare rfl
 refine⟨⟨I.ok.mod,?_,I.ok.glob,rfl,hCs,?_,?_,?_,λ_=>hAh,hAf,.inr ⟨rfl,rfl⟩,?_,I.bs,Zl I.ok.bsz I.sz,?_,?_,I.stack,I.stkFree⟩,rfl,GK.refl brun,Un.kept keep,?_,?_,fresh C hCs,?_,?_,I.hok.kept keep,?_⟩
 .exact B.kind
 .intro x y c e1 e2
  exact I.ok.inj x y c (csm x c e1).1 (csm y c e2).1
 .intro x hx
  have hx':scope.names.lookup x=some .cell∨scope.names.lookup x=some .free:=hx
  rcases hx' with e|e
  .exact absurd rfl (hnc _ (Zt e))
  .have q:=Zt e
   obtain⟨c,hc⟩:=B.cells I _ q rfl
   exact⟨c,mO hc (.inl q)⟩
 .intro x c hx e
  exfalso
  have hxo:x∈own:=by simpa[uB]using hx
  have nf:=hown x hxo
  have q:(cG X.env scope.names []).lookup x=none:=by
   rw[qj λk hk=>by rintro rfl;exact nf hk];rfl
  have e':(cG X.env scope.names []).lookup x=some c:=e
  rw[q]at e';cases e'
 .intro b hb
  obtain⟨o,hbo⟩:=ho b hb
  have hlt:=Ze hbo
  exact⟨Zk (Zc hlt hCs),λx c e=>(hf b hb).2.2.2.2.1 x c (csm x c e).1⟩
 .intro b o e hb
  rcases(hf b hb).2.2.2.1 with z|z
  .exact I.ok.noex b o e z
  .exact absurd (Zc (Ze e) (Zl I.ok.bsz z)) (Nat.lt_irrefl _)
 .intro b hb hz
  rcases Zi.mp (I.stkSub b hz)with z|z
  .exact(hf b hb).2.1 z
  .exact(hf b hb).2.2.1 z
 .obtain⟨m',hn,hl⟩:=I.loc
  refine⟨m,hm,λi x v e1 e2 hv=>?_⟩
  have e2':(bT own σ capI)[i]? =some (some v):=e2
  have e1':(own++cap)[i]? =some x:=e1
  unfold bT at e2'
  by_cases hi:i<own.length
  .rw[Zs (by simpa using hi),List.getElem?_replicate]at e2'
   split at e2'<;>cases e2'
  .rw[List.getElem?_append_right (by simpa using hi)]at e2'
   rw[List.getElem?_append_right (by simpa using hi)]at e1'
   rw[List.length_replicate]at e2'
   obtain⟨i0,q1,q2⟩:=vm e2'
   obtain⟨y,q3,q4,q5⟩:=B.caps.get q1
   rw[e1']at q3
   cases q3
   have hxf:(x,NameKind.free)∈scope.names:=B.cfr x (List.mem_of_getElem? e1')
   have vis:Vis X.env.scope x:=by
    rcases q5 with q5|q5
    .exact .inr (.inl q5)
    .exact .inr (.inr q5)
   obtain⟨u,ru,lk⟩:=hl i0 x v q4 q2 vis
   refine⟨u,ru,.inr ⟨.inr (cX B.nd hxf),?_⟩⟩
   rcases lk with⟨k,_⟩|⟨_,c,ec,hc⟩
   .rcases q5 with q5|q5<;>rw[k]at q5<;>cases q5
   .exact⟨c,mO ec (.inl hxf),hc.keeps keep⟩
 .intro x c e
  obtain⟨v,q⟩:=I.cell x c (csm x c e).1
  exact⟨v,q.keeps keep⟩
 .intro x c e
  exact I.freeC x c (csm x c e).1
 .intro p hp
  exact absurd (show p∈([]:List (Addr×Obj))from hp) (by simp)
 .show(bT own σ capI).length=(own++cap).length
  unfold bT uy
  rw[List.length_append,List.length_append,List.length_replicate,Zu,B.caps.length]
end
abbrev DR(elt tg iter:Expr)(scope:Scope)(pos:Pos):Expr:=.GeneratorExp elt [⟨tg,iter,[],0⟩] scope pos
abbrev jL(elt tg iter:Expr)(scope:Scope)(pos:Pos)(it:Addr)(cenv:Env):Code:=.compLoop (DR elt tg iter scope pos) 0 (.ref it) .none cenv
abbrev genS(elt tg iter:Expr)(scope:Scope)(pos:Pos)(it:Addr)(cenv:Env):Code:=.compStart (DR elt tg iter scope pos) 0 (.ref it) .none cenv
section
variable {X':Cx} {A1:Around} {elt tg iter:Expr} {scope:Scope} {pos:Pos} {it:Addr} {fp:List Addr} {tn:Nat->Heap->Prop} {J:It} {σb:St} {g:TG} {te:TE}
theorem Ha(T:Turn X'.prog X'.w X'.K tg J fp it tn)(hA:X'.A=A1.over (jL elt tg iter scope pos it X'.env) [])(hc:X'.calm=true)(hex:X'.ex=fp)(hpn:X'.pn=[])(hco:X'.env.scope.isCoroutine=false)
  (hxe:X'.xe=λ_ _=>False) (hg:PG X' tg g) (he:PE X' elt te) {i:Nat} {H:Hp} {s:Shared} {Q:VK} {P:List (Addr×Obj)} (hP:∀p∈P,p.1∉fp) (I:Inv X' P σb H s) (st:tn i s.heap) (fr:∀b∈fp,H b=none)
  (go:J.go i H) (step:∀x H',J.yld i H x H'->g x σb H' λσ2 H2=>Fits σb σ2/\te σ2 H2 Q):
  cz (model X'.prog X'.w) A1 (jL elt tg iter scope pos it X'.env) ((model X'.prog X'.w).den (jL elt tg iter scope pos it X'.env)) [] s λe s'=>
   ∃v k p y H',e= .susp v false [] k (jL elt tg iter scope pos it X'.env) p []/\k (.send .none)= .pure (.again (jL elt tg iter scope pos it X'.env))/\RelV y v/\Q y H'/\Inv X' P σb H' s'/\tn (i+1) s'.heap/\∀b∈fp,H' b=none:=by
 have stat:∀{H':Hp},X'.Ok->(∀b∈fp,H' b=none)->∀b∈fp,jg X' P H' b:=λ{H'} ok hn b hb=>
  ⟨hn b hb,(ok.exf b (by rw[hex];exact hb)).1,ok.exfs b (by rw[hex];exact hb),.inl (by rw[hex];exact hb),(ok.exf b (by rw[hex];exact hb)).2,λp hp e=>by rw[hpn]at hp;exact hP p hp (e▸hb)⟩
 show cz _ A1 _ ((compTurn (DR elt tg iter scope pos) 0 (.ref it) .none X'.env).onRaise (leaving X'.env)) [] s _
 rw[compTurn_gen,Sem.onRaise_eq_wrap]
 refine cz.bindWrap (wpAny_standAt ?_)
 have q:=T.item X' rfl rfl rfl hc i P s σb H (λ_ _=>False) I (stat I.ok fr) st go
 rw[hA]at q
 refine cz.bindWrap (wpAny_mono q (λr s1 ⟨u,hr,h1⟩=>?_) λ_ _ z=>z.elim)
 subst hr
 refine cz.bindWrap (wpAny_mono h1 (λ_ s2 ⟨x,H2,I2,r2,y2,st2,fr2⟩=>?_) λ_ _ z=>z.elim)
 have I2':=I2.pinned (stat I2.ok fr2) (T.obj _ _ st2)
 have a1:=hg _ s2 σb H2 x u _ I2' r2 (step x H2 y2)
 rw[hA,hxe]at a1
 refine cz.bindWrap (wpAny_mono a1 (λ_ s3 ⟨σ3,H3,I3,ft3,q3⟩=>?_) λ_ _ z=>z.elim)
 refine cz.bindWrap (wpAny_tests_nil ?_)
 simp only[if_true]
 have hy:∀v,yieldOut X'.env v=yieldValue v:=λv=>by simp only[yieldOut,hco,Bool.false_eq_true,if_false]
 simp only[hy]
 rw[Sem.bind_eq_wrap',Sem.bind_eq_wrap',Sem.wrap_wrap,Sem.wrap_wrap]
 have a2:=he _ s3 σ3 H3 _ I3 q3
 rw[hA,hxe]at a2
 refine cz.wrap (wpAny_mono a2 (λv s4 ⟨y,H4,I4,r4,q4⟩=>?_) λ_ _ z=>z.elim)
 refine cz.at (cz.yield rfl λp=>⟨v,_,p,y,H4,rfl,rfl,r4,q4,(I4.weak ft3.1.symm ft3.2).unpinned,T.keep _ _ _ st2 λb hb o e=>?_,λb hb=>?_⟩)
 .exact(I4.pin (b,o) (Zn _ (Zn _ (dG hb e)))).1
 .obtain⟨o,e,d⟩:=T.obj _ _ st2 b hb
  exact(I4.pin (b,o) (Zn _ (Zn _ (dG hb e)))).2.1
theorem Hn(T:Turn X'.prog X'.w X'.K tg J fp it tn)(hA:X'.A=A1.over (jL elt tg iter scope pos it X'.env) [])(hc:X'.calm=true)(hex:X'.ex=fp)(hpn:X'.pn=[])
  {i:Nat} {H:Hp} {s:Shared} {P:List (Addr×Obj)} (hP:∀p∈P,p.1∉fp) (I:Inv X' P σb H s) (st:tn i s.heap) (fr:∀b∈fp,H b=none) (stop:J.stop i H):
  cz (model X'.prog X'.w) A1 (jL elt tg iter scope pos it X'.env) ((model X'.prog X'.w).den (jL elt tg iter scope pos it X'.env)) [] s λe s'=>e= .ret (.ok .next)/\Inv X' P σb H s':=by
 have stat:∀b∈fp,jg X' P H b:=λb hb=>
  ⟨fr b hb,(I.ok.exf b (by rw[hex];exact hb)).1,I.ok.exfs b (by rw[hex];exact hb),.inl (by rw[hex];exact hb),(I.ok.exf b (by rw[hex];exact hb)).2,λp hp e=>by rw[hpn]at hp;exact hP p hp (e▸hb)⟩
 show cz _ A1 _ ((compTurn (DR elt tg iter scope pos) 0 (.ref it) .none X'.env).onRaise (leaving X'.env)) [] s _
 rw[compTurn_gen,Sem.onRaise_eq_wrap]
 refine cz.bindWrap (wpAny_standAt ?_)
 have q:=T.done X' rfl rfl rfl hc i P s σb H (λ_ _=>False) I stat st stop
 rw[hA]at q
 refine cz.bindWrap (wpAny_mono q (λr s1 ⟨hr,I1⟩=>?_) λ_ _ z=>z.elim)
 subst hr
 exact cz.end (.ok .next) ⟨rfl,I1⟩
theorem uT{A0:Around}{P:Program}{w:World}{K:PySem.W.Frag}{cenv:Env}{Φ:End->Shared->Prop}{s:Shared}{i:Nat}(T:Turn P w K tg J fp it tn)(st:tn i s.heap)
  (h:cz (model P w) A0 (jL elt tg iter scope pos it cenv) ((model P w).den (jL elt tg iter scope pos it cenv)) [] s Φ):
  cz (model P w) A0 (genS elt tg iter scope pos it cenv) ((model P w).den (genS elt tg iter scope pos it cenv)) [] s Φ:=by
 show cz _ A0 _ ((compStart (DR elt tg iter scope pos) 0 (.ref it) .none cenv).onRaise (leaving cenv)) [] s _
 unfold compStart
 rw[Sem.onRaise_eq_wrap]
 show cz _ A0 _ ((ask >>= _).wrap _ _ _ _) [] s _
 refine cz.bindWrap (wpAny_askSetting ?_)
 split
 .exact cz.again rfl h
 .first
   |exact cz.bindWrap (wpAny_rule (cz.bindWrap (wpAny_standAt (cz.bindWrap (T.self _ i s _ _ st (cz.again rfl h))))))
   |(refine cz.bindWrap (wpAny_rule ?_);show cz _ A0 _ ((standAt iter.pos >>= _).wrap _ _ _ _) [] s _;exact cz.bindWrap (wpAny_standAt (cz.bindWrap (T.self _ i s _ _ st (cz.again rfl h)))))
end
structure lY where
 nxt:Nat->Hp->(V->Hp->Prop)->Prop
 fin:Nat->Hp->(Hp->Prop)->Prop
structure qF(X:Cx)(pins:List (Addr×Obj))(σ:St)(A':Around)(it:Addr)(lo:Nat)(S:lY)(SS:List (Addr×Obj)->Nat->Hp->Shared->Prop):Prop where
 inv:∀{P i H s},SS P i H s->Inv X (pins++P) σ H s
 next:∀{P i H s Q}(E:Value->Shared->Prop),SS P i H s->S.nxt i H Q->wpAny (model X.prog X.w) A' (pyNext (.ref it)) (λr s1=>∃u y H',r=some u/\RelV y u/\Q y H'/\SS P (i+1) H' s1) E s
 stop:∀{P i H s Q}(E:Value->Shared->Prop),SS P i H s->S.fin i H Q->wpAny (model X.prog X.w) A' (pyNext (.ref it)) (λr s1=>r=none/\∃H',Q H'/\Inv X (pins++P) σ H' s1) E s
 keep:∀{P i H s h' tk},SS P i H s->(∀b o,s.heap.get? b=some o->h'.get? b=some o)->SS P i H { s with heap:=h',toks:=tk}
 pin:∀{P H s D o},SS P 0 H s->lo<=D->s.heap.get? D=some o->H D=none->(∀v,o.data≠ .cell v)->SS ((D,o)::P) 0 H s
 put:∀{P i H s h' tk D o o'},SS ((D,o)::P) i H s->(∀p∈P,p.1≠D)->(∀b u,b≠D->s.heap.get? b=some u->h'.get? b=some u)->h'.get? D=some o'->(∀v,o'.data≠ .cell v)->SS ((D,o')::P) i H { s with heap:=h',toks:=tk}
theorem qF.mk'{X:Cx}{pins:List (Addr×Obj)}{σ:St}{A':Around}{it:Addr}{lo:Nat}{S:lY}{SS:List (Addr×Obj)->Nat->Hp->Shared->Prop}
  (inv:∀{P i H s},SS P i H s->Inv X (pins++P) σ H s) (low:∀{P i H s},SS P i H s->∀p∈P,lo<=p.1)
  (next:∀{P i H s Q}(E:Value->Shared->Prop),SS P i H s->S.nxt i H Q->wpAny (model X.prog X.w) A' (pyNext (.ref it)) (λr s1=>∃u y H',r=some u/\RelV y u/\Q y H'/\SS P (i+1) H' s1) E s)
  (stop:∀{P i H s Q}(E:Value->Shared->Prop),SS P i H s->S.fin i H Q->wpAny (model X.prog X.w) A' (pyNext (.ref it)) (λr s1=>r=none/\∃H',Q H'/\Inv X (pins++P) σ H' s1) E s)
  (keep:∀{P i H s h' tk},SS P i H s->(∀b o,s.heap.get? b=some o->h'.get? b=some o)->SS P i H { s with heap:=h',toks:=tk})
  (pin:∀{P i H s D o},SS P i H s->lo<=D->s.heap.get? D=some o->H D=none->(∀v,o.data≠ .cell v)->SS ((D,o)::P) i H s)
  (unpin:∀{p P i H s},SS (p::P) i H s->SS P i H s)
  (acc:∀{P i H s h' tk D},SS P i H s->lo<=D->H D=none->(∀p∈P,p.1≠D)->(∀b o,b≠D->s.heap.get? b=some o->h'.get? b=some o)->SS P i H { s with heap:=h',toks:=tk}):qF X pins σ A' it lo S SS:=
 ⟨inv,next,stop,keep,pin,λh hP hk ho hc=>by
  have hD:=low h (_,_) List.mem_cons_self
  have hn:=((inv h).pin (_,_) (Zn _ (Zn _ List.mem_cons_self))).2.1
  exact pin (acc (unpin h) hD hn hP hk) hD ho hn hc⟩
def Ready(X:Cx)(pins:List (Addr×Obj))(σ:St)(S:lY)(v:Value)(H:Hp)(s:Shared):Prop:=
 ∀(A':Around)(E:Value->Shared->Prop),A'.handled=none->A'.frames=some X.stack->A'.depth<=X.A.depth+1->A'.units<=X.A.units+8->
  wpAny (model X.prog X.w) A' (pyIter v) (λitv s2=>∃it lo SS,itv= .ref it/\qF X pins σ A' it lo S SS/\SS [] 0 H s2/\lo<=s2.heap.objs.size) E s
abbrev pW:=St->Hp->(lY->Hp->Prop)->Prop
def yP(X:Cx)(e:Expr)(ts:pW):Prop:=
 ∀(pins:List (Addr×Obj))(s:Shared)(σ:St)(H:Hp)(R:lY->Hp->Prop),Inv X pins σ H s->ts σ H R->
  wpAny (model X.prog X.w) X.A (eval e X.env) (λv s1=>∃S H1,Inv X pins σ H1 s1/\Ready X pins σ S v H1 s1/\R S H1) X.xe s
def QQ(X:Cx)(pins:List (Addr×Obj))(σ:St)(S:lY)(a:Addr)(H:Hp)(s:Shared):Prop:=
 ∀(A':Around),A'.handled=none->A'.frames=some X.stack->A'.depth<=X.A.depth+1->A'.units<=X.A.units+8->
  ∃lo SS,qF X pins σ A' a lo S SS/\SS [] 0 H s/\a<lo/\lo<=s.heap.objs.size/\∀P i H s,SS P i H s->∃g,s.heap.IsGen a g
def vI(X:Cx)(e:Expr)(ts:pW):Prop:=
 ∀(pins:List (Addr×Obj))(s:Shared)(σ:St)(H:Hp)(R:lY->Hp->Prop),Inv X pins σ H s->ts σ H R->
  wpAny (model X.prog X.w) X.A (eval e X.env) (λv s1=>∃a S H1,v= .ref a/\Inv X pins σ H1 s1/\QQ X pins σ S a H1 s1/\R S H1) X.xe s
theorem zK{X:Cx}{e:Expr}{ts:pW}(h:vI X e ts):yP X e ts:=by
 intro pins s σ H R I hq
 refine thn (h pins s σ H R I hq) λv s1 ⟨a,S,H1,e,I1,rdy,r⟩=>⟨S,H1,I1,?_,r⟩
 subst e
 intro A' E h1 h2 h3 h4
 obtain⟨lo,SS,sm,s0,_,hl,hg⟩:=rdy A' h1 h2 h3 h4
 obtain⟨g,ig⟩:=hg _ _ _ _ s0
 exact wpAny_pyIter_gen ig ⟨a,lo,SS,rfl,sm,s0,hl⟩
section
variable {X:Cx} {pins:List (Addr×Obj)} {σ:St} {H:Hp} {s:Shared}
theorem Inv.grown{h':Heap}{g':Array GenState}{tk:Nat}(I:Inv X pins σ H s)(k:∀b o,s.heap.get? b=some o->h'.get? b=some o)(hg:GK s.gens g'):Inv X pins σ H { s with heap:=h',gens:=g',toks:=tk}:=
 I.call (ch:=[]) (g':=g') (t':=tk) (d':=s.drawn) (Un.kept k) (I.hok.kept k) hg λb hb=>absurd hb (by simp)
theorem Inv.more{Q:List (Addr×Obj)}(I:Inv X pins σ H s)(h:∀p∈Q,s.heap.get? p.1=some p.2/\H p.1=none/\p.1≠X.env.locals/\p.1∉X.fs/\∀v,p.2.data≠ .cell v):Inv X (pins++Q) σ H s:=
 I.pins_of λp hp=>(Zm.mp hp).elim (λz=>I.pin p (Zn _ z)) (h p)
theorem Inv.tbl{P:Addr}{ps ps':Array Value}{h':Heap}{tk:Nat}(I:Inv X pins σ H s)(hP:H P=some (.tbl ps))(hm:∃more,ps'=ps++more)(k:∀b o,b≠P->s.heap.get? b=some o->h'.get? b=some o)
  (ho:h'.get? P=some { cls:=.none,data:=.fields ps'}):Inv X pins σ (upd H P (.tbl ps')) { s with heap:=h',toks:=tk}:=by
 have nP:∀b,H b=none->b≠P:=λb e z=>by rw[z,hP]at e;cases e
 refine I.un ⟨λb o e n _ _=>k b o (nP b n) e,λb o e n _ _=>⟨o.slots,k b o (nP b n) e⟩,λb o e n _=>by rw[aM (nP b n)];exact n,λb o e _=>?_,λb xs e=>?_,λb o u e=>?_,λb qs e=>?_⟩ λa o e=>?_
 .by_cases z:b=P
  .subst z;exact⟨_,ho⟩
  .exact⟨o,k b o z e⟩
 .have z:b≠P:=λz=>by rw[z,hP]at e;cases e
  rw[aM z];exact e
 .have z:b≠P:=λz=>by rw[z,hP]at e;cases e
  rw[aM z];exact e
 .by_cases z:b=P
  .subst z
   rw[hP]at e;cases e
   obtain⟨more,e⟩:=hm
   exact⟨more,by rw[fK,e]⟩
  .exact⟨#[],by rw[aM z,e];simp⟩
 .by_cases z:a=P
  .subst z
   rw[fK]at e;cases e
   exact ho
  .rw[aM z]at e
   refine(I.hok a o e).stay (λb u hb q=>k b u ?_ q) (λb q=>?_) λb xs q=>?_
   .rcases hb with r|r
    .rw[r];exact z
    .exactλy=>by rw[y,hP]at r;cases r
   .have y:b≠P:=λy=>by rw[y,hP]at q;cases q
    rw[aM y];exact q
   .have y:b≠P:=λy=>by rw[y,hP]at q;cases q
    rw[aM y];exact q
def Ot(H:Hp)(v:Value):Prop:=∃c o vs u,v= .ref c/\H c=some (.frz o (.own 0))/\o.data= .fields vs/\vs[1]? =some u
def TOk(H:Hp)(ps:Array Value):Prop:=TriplesOk ps.toList/\∀pos v,codeAmong pos ps.toList=some v->Ot H v
theorem TOk.mono{H H':Hp}{ps:Array Value}(h:TOk H ps)(k:∀c o,H c=some (.frz o (.own 0))->H' c=some (.frz o (.own 0))):TOk H' ps:=
 ⟨h.1,λpos v e=>let⟨c,o,vs,u,e1,e2,e3⟩:=h.2 pos v e;⟨c,o,vs,u,e1,k c o e2,e3⟩⟩
theorem TOk.nil{H:Hp}:TOk H #[]:=⟨by unfold TriplesOk;trivial,λpos v e=>by simp[codeAmong]at e⟩
theorem Ay{pos:Pos}{a b:Int}{c v:Value}:∀(l:List Value),TriplesOk l->codeAmong pos (l++[rawInt a,rawInt b,c])=some v->codeAmong pos l=some v∨v=c:=λl h=>by
 fun_induction TriplesOk l with
 |case1=>
  intro e
  right
  simp only[List.nil_append,rawInt,codeAmong]at e
  split at e
  .cases e;rfl
  .cases e
 |case2 line t col u x rest ih=>
  intro e
  simp only[List.cons_append,codeAmong]at e ⊢
  split at e
  .rename_i hc
   left;rw[if_pos hc];exact e
  .rename_i hc
   rw[if_neg hc]
   exact ih h e
 |case3=>exact h.elim
structure Kr(lo:Nat)(P:Addr)(ps ps':Array Value)(H H':Hp):Prop where
 tab:H' P=some (.tbl ps')
 more:∃more,ps'=ps++more
 ok:TOk H' ps'
 keep:∀b o,b≠P->H b=some o->H' b=some o
 none:∀b,b<lo->H b=none->H' b=none
theorem Inv.reg{c:Addr}{o:Obj}(I:Inv X pins σ H s)(ho:s.heap.get? c=some o)(hn:H c=none)(hnew:X.s₀.heap.objs.size<=c)(hL:c≠X.env.locals)(hc:∀x d,X.env.cells.lookup x=some d->d≠c)(hp:∀p∈X.pn++pins,p.1≠c):
  Inv X pins σ (upd H c (.frz o (.own 0))) s:=by
 have ne:∀b u,H b=some u->b≠c:=λb u e z=>by rw[z,hn]at e;cases e
 refine⟨I.ok,I.os,I.bare,⟨I.base.keep,I.base.slot,λb ob e n hx=>?_,I.base.there,λb xs e=>?_,λb ob u e=>?_,λb ps e=>?_⟩,I.loc,I.cell,?_,λx d e=>?_,λp hp'=>?_,λa u e=>?_,I.len⟩
 .rw[aM (Zk (Zc (Ze e) hnew))];exact I.base.free b ob e n hx
 .have q:=I.base.tups b xs e
  rw[aM (ne _ _ q)];exact q
 .have q:=I.base.frzs b ob u e
  rw[aM (ne _ _ q)];exact q
 .obtain⟨more,q⟩:=I.base.tbls b ps e
  exact⟨more,by rw[aM (ne _ _ q)];exact q⟩
 .rw[aM (Ne.symm hL)];exact I.free
 .rw[aM (hc x d e)];exact I.freeC x d e
 .obtain⟨a,b,r⟩:=I.pin p hp'
  exact⟨a,by rw[aM (hp p hp')];exact b,r⟩
 .by_cases z:a=c
  .subst z
   rw[fK]at e;cases e
   exact⟨ho,o,ho⟩
  .rw[aM z]at e
   exact(I.hok a u e).stay (λb v _ q=>q) (λb q=>by rw[aM (ne _ _ q)];exact q) λb xs q=>by rw[aM (ne _ _ q)];exact q
theorem Ej{P c':Addr}{ps vs:Array Value}{u:Value}{oc:Obj}{h':Heap}{tk:Nat}{pos:Pos}{G:Prop}(I:Inv X pins σ H s)(hP:H P=some (.tbl ps))(ht:TOk H ps)(hge:s.heap.objs.size<=c')(hoc:h'.get? c'=some oc)(hdd:oc.data= .fields vs)(hv:vs[1]? =some u)
  (k:∀b o,b≠P->s.heap.get? b=some o->h'.get? b=some o) (ho:h'.get? P=some { cls:=.none,data:=.fields (ps++ #[rawInt pos.line,rawInt pos.col,.ref c']) })
  (h:Kr s.heap.objs.size P ps (ps++ #[rawInt pos.line,rawInt pos.col,.ref c']) H (upd (upd H P (.tbl (ps++ #[rawInt pos.line,rawInt pos.col,.ref c']))) c' (.frz oc (.own 0)))->Inv X pins σ (upd (upd H P (.tbl (ps++ #[rawInt pos.line,rawInt pos.col,.ref c']))) c' (.frz oc (.own 0))) { s with heap:=h',toks:=tk}->G):G:=by
 have lt:=λ{b:Addr}{o:Obj}(e:s.heap.get? b=some o)=>Zc (Ze e) hge
 have cP:P≠c':=Zk (lt (I.hok P _ hP))
 have hn:H c'=none:=I.hok.fresh hge
 generalize hps:ps++ #[rawInt pos.line,rawInt pos.col,.ref c']=ps' at *
 have I1:Inv X pins σ (upd H P (.tbl ps')) { s with heap:=h',toks:=tk}:=I.tbl hP ⟨_,hps.symm⟩ k ho
 have I2:Inv X pins σ (upd (upd H P (.tbl ps')) c' (.frz oc (.own 0))) { s with heap:=h',toks:=tk}:=I1.reg hoc (by rw[aM (Ne.symm cP)];exact hn) (Zl I.sz hge) (Nat.ne_of_gt (Zc I.lt hge))
  (λx d e=>by
   obtain⟨v,o,e2,_⟩:=I.cell x d e
   exact Zk (lt e2)) λp hp=>Zk (lt (I.pin p hp).1)
 have kp:∀b o,b≠P->H b=some o->upd (upd H P (.tbl ps')) c' (.frz oc (.own 0)) b=some o:=λb o hb e=>by
  have hbc:b≠c':=λz=>by rw[z,hn]at e;cases e
  rw[aM hbc,aM hb];exact e
 refine h ⟨by rw[aM cP,fK],⟨_,hps.symm⟩,⟨?_,λp v e=>?_⟩,kp,λb hb e=>?_⟩ I2
 .rw[<-hps]
  have hl:(ps++ #[rawInt pos.line,rawInt pos.col,Value.ref c']).toList=ps.toList++[rawInt pos.line,rawInt pos.col,.ref c']:=by simp
  rw[hl];exact TriplesOk_snoc _ _ _ _ ht.1
 .rw[<-hps]at e
  have hl:(ps++ #[rawInt pos.line,rawInt pos.col,Value.ref c']).toList=ps.toList++[rawInt pos.line,rawInt pos.col,.ref c']:=by simp
  rw[hl]at e
  rcases Ay _ ht.1 e with e|e
  .obtain⟨c,o,ws,w,q1,q2,q3⟩:=ht.2 p v e
   exact⟨c,o,ws,w,q1,kp c _ (λz=>by rw[z,hP]at q2;cases q2) q2,q3⟩
  .exact⟨c',oc,vs,u,e,fK,hdd,hv⟩
 .have hbc:b≠c':=Zk (Zc hb hge)
  have hbP:b≠P:=λz=>by rw[z,hP]at e;cases e
  rw[aM hbc,aM hbP];exact e
theorem Tj{c P:Addr}{ps:Array Value}{pos:Pos}{q:Str}{scope:Scope}{Q:Value->Shared->Prop}{A:Around}{E:Value->Shared->Prop}(I:Inv X pins σ H s)(hc:X.env.code= .ref c)(hd:PySem.W.CodeHd X.base c P)(hP:H P=some (.tbl ps))(ht:TOk H ps)
  (h:∀code s' H' ps',Kr s.heap.objs.size P ps ps' H H'->Inv X pins σ H' s'->s'.gens=s.gens->(∀b o,b≠P->s.heap.get? b=some o->s'.heap.get? b=some o)->Q code s'):
  wpAny (model X.prog X.w) A (genexprCode X.env pos q scope) Q E s:=by
 have hd':PySem.W.CodeHd s.heap c P:=hd.keeps I.bk
 have oP:s.heap.get? P=some (PySem.W.tabObj ps):=I.hok P _ hP
 have hok:s.heap.IsCode c P ps:=hd'.code oP ht.1
 have htab:s.heap.TableAt c P ps:=hd'.tab oP
 cases hnf:codeAmong pos ps.toList with
 |some cv=>
  obtain⟨o,vs,file,tf,flags,tg,inF,text,tt,op,ho,hdd,h11,h2,h7,h9,h10,hop,hpd,htr,hne⟩:=id hok
  unfold genexprCode codeAt
  rw[hc,if_neg (show¬((Value.ref c==Value.none)=true)from Zr)]
  refine wpAny_bind (wpAny_fieldsOf ho hdd ?_)
  rw[h11]
  refine wpAny_bind (wpAny_fieldsOf hop hpd ?_)
  rw[hnf]
  exact wpAny_pure (h cv s H ps ⟨hP,⟨#[],by simp⟩,ht,λ_ _ _ e=>e,λ_ _ e=>e⟩ I rfl λb o _ e=>e)
 |none=>
  refine wpAny_genexprCodeX hc hok htab hnf λc' h' tk hx hge hlt hcode hrec htab' _=>?_
  obtain⟨c2,oc,vs,t,e2,hoc,hdd,hv⟩:=hrec
  cases e2
  exact Ej I hP ht hge hoc hdd hv (λb o hb e=>hx b o hb e) htab'.2 λhG I'=>h (.ref c') _ _ _ hG I' rfl λb o hb e=>hx b o hb e
end
def Fi(J:It)(g:TG)(te:TE)(σb:St):lY where
 nxt:=λi H Q=>J.go i H/\∀x H',J.yld i H x H'->g x σb H' λσ2 H2=>Fits σb σ2/\te σ2 H2 Q
 fin:=λi H Q=>J.stop i H/\Q H
def tGen(own:List Str)(capI:List Nat)(P:Addr)(wi:TI)(g:TG)(te:TE):pW:=λσ H R=>wi σ H λJ H1=>∃ps,H1 P=some (.tbl ps)/\TOk H1 ps/\
 ∀lo H2 ps',Kr lo P ps ps' H1 H2->R (Fi J g te (bT own σ capI)) H2
theorem zL{A:Around}{elt tg iter:Expr}{scope:Scope}{pos:Pos}{it:Addr}{cenv:Env}{l:List Env}(h:A.frames=some l):(A.over (jL elt tg iter scope pos it cenv) []).frames=some (cenv::l):=by
 unfold Around.over
 show pushEnvs (Code.envs (jL elt tg iter scope pos it cenv)) (pushEnvs (envsOf []) A.frames)=_
 rw[h];rfl
theorem Ef{X:Cx}{A':Around}{elt tg iter:Expr}{scope:Scope}{pos:Pos}{it:Addr}{cenv:Env}(hh:A'.handled=none)(hd:A'.depth<=X.A.depth+1)(hu:A'.units<=X.A.units+8):
  ∀k,gW (k+1) X.A->gW k (A'.in1.over (jL elt tg iter scope pos it cenv) []):=λk r=>by
 have e1:(A'.in1.over (jL elt tg iter scope pos it cenv) []).depth=A'.depth+1:=rfl
 have e2:(A'.in1.over (jL elt tg iter scope pos it cenv) []).units=A'.units+1+3:=rfl
 have e3:(A'.in1.over (jL elt tg iter scope pos it cenv) []).handled=A'.handled:=rfl
 have:=r.dp
 have:=r.un
 exact⟨e3.trans hh,by rw[e1];omega,by rw[e2];omega⟩
section
variable {X:Cx} {tg iter elt:Expr} {wi:TI} {g:TG} {te:TE} {own cap:List Str} {capI:List Nat} {scope:Scope} {pos:Pos} {P:Addr} {kr:Nat}
theorem Fj(hc:X.calm=true)(hr:gW kr X.A)(B:dZ X own cap capI scope)(hown:∀x∈own,(x,NameKind.free)∉scope.names)(hnc:∀y∈scope.names,y.2≠ .cell)(h0:scope.names.lookup (".0":Str)=some NameKind.local)
  (hco:scope.isCoroutine=false) (htb:∃c,X.env.code= .ref c/\PySem.W.CodeHd X.base c P) (hi:PI X tg iter wi) (hg:∀AG cs C code fp s2 H2,PG (uB X AG own cap scope cs C code fp s2 H2) tg g)
  (he:∀AG cs C code fp s2 H2,(∀k,gW (k+1) X.A->gW k AG)->PE (uB X AG own cap scope cs C code fp s2 H2) elt te) (hs:∀x,genFold iter X.env x=pure x:=by intro _;rfl):
  vI X (DR elt tg iter scope pos) (tGen own capI P wi g te):=by
 intro pins s σ H R I h
 obtain⟨c,hcode,hhd⟩:=htb
 refine wpAny_GeneratorExp_make hco (iG (B.cells I)) hnc h0 B.kind hr.depth ?_ hs
 refine thn (hi pins s σ H _ I h) λv s1 h1=>thn h1 λitv s2 h2=>?_
 obtain⟨it,fp,tn,J,H2,e,I2,T,st2,f2,ps,hP,htr,hR⟩:=h2
 subst e
 refine⟨I2.nolimit,Tj I2 hcode hhd hP htr λcode s4 H4 ps' hG I4 hgens hk4=>?_⟩
 obtain⟨bm,ob,b1,b2,b3,b4,b5,b6⟩:=I4.mod.bmain
 refine wpAny_builtinsFor (bm:=bm) (by rw[I4.ok.glob];exact I4.mod.glob.keeps I4.bk) b1 b2 (I4.bk _ _ b3) b4 b5 b6 ?_
 intro h5 hn5 hs5
 generalize hC:s4.heap.objs.size=C at hn5 hs5 ⊢
 have hCs:s4.heap.objs.size<=C:=Nat.le_of_eq hC
 have hR':=hR _ H4 ps' hG
 have k5:∀b o,s4.heap.get? b=some o->h5.get? b=some o:=λb o e=>hs5.extBut b o (Zk (Zc (Ze e) hCs)) (Zb _ e)
 have sz5:h5.objs.size=C+1:=by rw[hs5.1,Heap.size_push,hC]
 generalize ha:h5.objs.size=a
 have hCa:C<a:=by rw[<-ha,sz5];exact Nat.lt_succ_self _
 generalize hgi:s4.gens.size=gi
 generalize hgo:({ cls:=.type "generator",data:=.fields #[.int (gi:Int) 0,.str "<genexpr>" (s4.toks+1),.str (X.env.qual++"<genexpr>") (s4.toks+1+1)] }:Obj)=gob
 generalize hh6:h5.push gob=h6
 have k6:∀b o,h5.get? b=some o->h6.get? b=some o:=λb o e=>by rw[<-hh6];exact Zb _ e
 have k46:∀b o,s4.heap.get? b=some o->h6.get? b=some o:=λb o e=>k6 b o (k5 b o e)
 have oa6:h6.get? a=some gob:=by rw[<-hh6,<-ha];refine Zf _ ?_;rw[<-hgo];rfl
 have isg:∀{h:Heap},h.get? a=some gob->h.IsGen a gi:=λ{h} e=>⟨gob,.str "<genexpr>" (s4.toks+1),.str (X.env.qual++"<genexpr>") (s4.toks+1+1),e,by rw[<-hgo],by rw[<-hgo],by rw[<-hgo]⟩
 have hfr4:∀b∈fp,H4 b=none:=λb hb=>let⟨o,e,_⟩:=T.obj 0 _ st2 b hb;hG.none b (Ze e) (f2 b hb).1
 have f4:∀b∈fp,jg X pins H4 b:=λb hb=>⟨hfr4 b hb,(f2 b hb).2⟩
 have hbP:∀b∈fp,b≠P:=λb hb z=>by have n2:=(f2 b hb).1;rw[z,hP]at n2;cases n2
 have o4:∀b∈fp,∃o,s4.heap.get? b=some o:=λb hb=>let⟨o,e,_⟩:=T.obj 0 _ st2 b hb;⟨o,hk4 b o (hbP b hb) e⟩
 have st4:tn 0 s4.heap:=T.keep _ _ _ st2 λb hb o e=>hk4 b o (hbP b hb) e
 have hfa:∀b∈fp,b≠a/\b≠C:=λb hb=>let⟨o,e⟩:=o4 b hb
  have l:=Zc (Ze e) hCs
  ⟨Zk (Nat.lt_trans l hCa),Zk l⟩
 generalize hcenv:genEnv scope (cG X.env scope.names []) C code builtinsNs X.env=cenv
 have gk6:GK s4.gens (s4.gens.push (.fresh (genS elt tg iter scope pos it cenv))):=by
  refine⟨AllBare.push I4.bare.bare rfl,λk x e=>?_⟩
  have hlt:k<s4.gens.size:=by
   rcases Nat.lt_or_ge k s4.gens.size with z|z
   .exact z
   .rw[Array.getElem?_eq_none z]at e;cases e
  rw[Array.getElem?_push_lt hlt,<-Array.getElem?_eq_getElem hlt];exact e
 refine⟨a,Fi J g te (bT own σ capI),H4,rfl,I4.grown k46 gk6,?_,hR'⟩
 intro A' hAh hAf hAd hAu
 have gi6:(s4.gens.push (.fresh (genS elt tg iter scope pos it cenv)))[gi]? =some (.fresh (genS elt tg iter scope pos it cenv)):=by rw[<-hgi];simp
 generalize hX':uB X (A'.in1.over (jL elt tg iter scope pos it cenv) []) own cap scope (cG X.env scope.names []) C code fp s4 H4=X'
 have eP:X'.prog=X.prog:=by rw[<-hX'];rfl
 have eW:X'.w=X.w:=by rw[<-hX'];rfl
 have eK:X'.K=X.K:=by rw[<-hX'];rfl
 have eFs:X'.fs=frs X.stack:=by rw[<-hX'];rfl
 have eEx:X'.ex=fp:=by rw[<-hX'];rfl
 have eS:X'.s₀={ s4 with gens:=s4.gens.push .running}:=by rw[<-hX'];rfl
 have eH:X'.H₀=H4:=by rw[<-hX'];rfl
 have eL:X'.env.locals=C:=by rw[<-hX'];rfl
 have eC:X'.calm=true:=by rw[<-hX'];rfl
 have eX:X'.xe=λ_ _=>False:=by rw[<-hX'];rfl
 have ePn:X'.pn=[]:=by rw[<-hX'];rfl
 have eE:X'.env=cenv:=by rw[<-hX',<-hcenv];rfl
 have eA:X'.A=A'.in1.over (jL elt tg iter scope pos it X'.env) []:=by rw[eE,<-hX'];rfl
 have eCo:X'.env.scope.isCoroutine=false:=by rw[<-hX'];exact hco
 have hg':PG X' tg g:=by rw[<-hX'];exact hg _ _ _ _ _ _ _
 have he':PE X' elt te:=by rw[<-hX'];exact he _ _ _ _ _ _ _ (Ef hAh hAd hAu)
 have T':Turn X'.prog X'.w X'.K tg J fp it tn:=by rw[eP,eW,eK];exact T
 have pfp:∀{Q:List (Addr×Obj)},(∀p∈Q,a<p.1)->∀p∈(a,gob)::Q,p.1∉fp:=λ{Q} hQ p hp hb=>by
  obtain⟨o,e⟩:=o4 _ hb
  have l:=Zc (Ze e) hCs
  rcases Zi.mp hp with z|z
  .subst z;exact absurd (Nat.lt_trans l hCa) (Nat.lt_irrefl _)
  .exact absurd (Nat.lt_trans (Nat.lt_trans l hCa) (hQ p z)) (Nat.lt_irrefl _)
 have afs:a∉X'.fs:=λhz=>by
  rw[eFs]at hz
  have l4:s4.heap.objs.size<=a:=Zl hCs (Nat.le_of_lt hCa)
  rcases Zi.mp (I4.stkSub a hz)with z|z
  .exact absurd I4.lt (by rw[<-z];exact Nat.not_lt.mpr l4)
  .exact I4.nofs l4 z
 have setg:∀(s:Shared)(x:GenState),(s.setGen gi x).gens=s.gens.setIfInBounds gi x:=λs x=>rfl
 have hSS:∀{Q:List (Addr×Obj)}{i:Nat}{H:Hp}{s:Shared},(∀p∈Q,a<p.1)->Inv X' ((a,gob)::Q) (bT own σ capI) H s->s.heap.get? a=some gob/\s.gens[gi]? =some .running/\
   ∀(x:GenState)(h':Heap)(tk:Nat),x.bare=true->(∀b o,s.heap.get? b=some o->h'.get? b=some o)->Inv X (pins++Q) σ H { s.setGen gi x with heap:=h',toks:=tk}:=λ{Q i H s} hQ I'=>by
  have pa:=(I'.pin (a,gob) (by simp)).1
  have gr:s.gens[gi]? =some .running:=I'.bare.kept gi .running (by rw[eS,<-hgi];simp)
  refine⟨pa,gr,λx h' tk hx hk=>?_⟩
  have ub:=I'.base
  rw[eFs,eEx,eS,eH]at ub
  have hok:=I'.hok
  rw[eP,eW]at hok
  refine Inv.more ?_ λp hp=>by
   have q:=I'.pin p (by simp[hp])
   have l4:s4.heap.objs.size<=p.1:=Zl hCs (Nat.le_of_lt (Nat.lt_trans hCa (hQ p hp)))
   exact⟨hk _ _ q.1,q.2.1,λz=>absurd I4.lt (by rw[<-z];exact Nat.not_lt.mpr l4),I4.nofs l4,q.2.2.2.2⟩
  refine I4.call' (ch:=fp) (s':={ s.setGen gi x with heap:=h',toks:=tk}) (by have:=I'.os;rw[eS]at this;exact this)
   ⟨λb o e n hb hx'=>hk b o (ub.keep b o e n hb hx'),λb o e n hb hx'=>let⟨sl,q⟩:=ub.slot b o e n hb hx';⟨sl,hk b _ q⟩,ub.free,λb o e hx'=>let⟨o',q⟩:=ub.there b o e hx';⟨o',hk b o' q⟩,ub.tups,ub.frzs,ub.tbls⟩
   (hok.kept hk) ⟨λy hy=>?_,λk y e=>?_⟩ λb hb=>?_
  .have hy':y∈s.gens.setIfInBounds gi x:=hy
   rcases Array.mem_or_eq_of_mem_setIfInBounds hy' with z|z
   .exact I'.bare.bare y z
   .rw[z];exact hx
  .have hlt:k<gi:=by
    rw[<-hgi]
    rcases Nat.lt_or_ge k s4.gens.size with z|z
    .exact z
    .rw[Array.getElem?_eq_none z]at e;cases e
   have q:=I'.bare.kept k y (by rw[eS];show(s4.gens.push .running)[k]? =some y;rw[Array.getElem?_push_lt (by rw[hgi];exact hlt),<-Array.getElem?_eq_getElem (by rw[hgi];exact hlt)];exact e)
   show(s.gens.setIfInBounds gi x)[k]? =some y
   rw[Array.getElem?_setIfInBounds_ne (Nat.ne_of_gt hlt)]
   exact q
  .obtain⟨q0,q1,q2,q3,q4,q5⟩:=f4 b hb
   exact⟨q3,q1,q4,q5⟩
 refine⟨a+1,λQ i H s=>(∀p∈Q,a<p.1)/\Inv X (pins++Q) σ H s/\(∃gs,s.gens[gi]? =some gs/\gs.bare=true/\(gs= .fresh (genS elt tg iter scope pos it X'.env)∨∃k l p cl,gs= .suspended k l (jL elt tg iter scope pos it X'.env) p [] cl/\k (.send .none)= .pure (.again (jL elt tg iter scope pos it X'.env))))/\
   Inv X' ((a,gob)::Q) (bT own σ capI) H (s.setGen gi .running)/\tn i s.heap/\∀b∈fp,H b=none,qF.mk' (λst=>st.2.1) (λst=>st.1) ?_ ?_ ?_ ?_ ?_ ?_,?_,Nat.lt_succ_self _,?_,λQ i H s st=>⟨gi,isg (hSS (i:=i) st.1 st.2.2.2.1).1⟩⟩
 .
  rintro PP i H s Q E ⟨hQ,I1,⟨gs,hgs,hb,hgs'⟩,Ib,st,fr⟩ ⟨go,step⟩
  have tr:=Ha (A1:=A'.in1) (elt:=elt) (tg:=tg) (iter:=iter) (scope:=scope) (pos:=pos) T' eA eC eEx ePn eCo eX hg' he' (pfp hQ) Ib st fr go step
  have oa:=(hSS (i:=i) hQ Ib).1
  rw[eP,eW]at tr
  refine qR hAh I1.nolimit (by have:=hr.dp;omega) (isg oa) hgs (Φ:=λe s'=>∃v k p y H',e= .susp v false [] k (jL elt tg iter scope pos it X'.env) p []/\k (.send .none)= .pure (.again (jL elt tg iter scope pos it X'.env))/\RelV y v/\Q y H'/\Inv X' ((a,gob)::PP) (bT own σ capI) H' s'/\tn (i+1) s'.heap/\∀b∈fp,H' b=none) ?_ ?_ ?_
  .rcases hgs' with e|⟨k,l,p,cl,e,ek⟩
   .subst e
    exact uT (i:=i) T st tr
   .subst e
    show cz _ _ _ (k (.send .none)) [] _ _
    rw[ek]
    exact cz.again rfl tr
  .rintro e s' ⟨v,k,p,y,H',rfl,_⟩
   rfl
  .rintro e s' ⟨v,k,p,y,H',rfl,ek,ry,qy,I',st',fr'⟩
   left
   refine⟨v,false,[],k,_,p,[],rfl,v,y,H',rfl,ry,qy,?_⟩
   obtain⟨oa',gr',mk⟩:=hSS (i:=i) hQ I'
   have e1:((s'.setGen gi (End.susp v false [] k (jL elt tg iter scope pos it X'.env) p []).genState).setGen gi .running)=s':=by
    have hl:gi<s'.gens.size:=by
     rcases Nat.lt_or_ge gi s'.gens.size with z|z
     .exact z
     .rw[Array.getElem?_eq_none z]at gr';cases gr'
    obtain⟨hh,gg,dd,tt,oo⟩:=s'
    show(Shared.mk hh ((gg.setIfInBounds gi _).setIfInBounds gi .running) dd tt oo)=_
    congr 1
    apply Array.ext_getElem?
    intro j
    by_cases hj:gi=j
    .subst hj
     have gr'':gg[gi]? =some .running:=gr'
     have hl':gi<gg.size:=hl
     rw[gr'']
     simp[hl']
    .simp[hj]
   refine⟨hQ,mk _ s'.heap s'.toks rfl λb o e=>e,⟨_,setGen_self gr',rfl,.inr ⟨k,[],p,_,rfl,ek⟩⟩,by rw[e1];exact I',st',fr'⟩
 .
  rintro PP i H s Q E ⟨hQ,I1,⟨gs,hgs,hb,hgs'⟩,Ib,st,fr⟩ ⟨hfin,hq⟩
  have tr:=Hn (A1:=A'.in1) (elt:=elt) (tg:=tg) (iter:=iter) (scope:=scope) (pos:=pos) T' eA eC eEx ePn (pfp hQ) Ib st fr hfin
  have oa:=(hSS (i:=i) hQ Ib).1
  rw[eP,eW]at tr
  refine qR hAh I1.nolimit (by have:=hr.dp;omega) (isg oa) hgs (Φ:=λe s'=>e= .ret (.ok .next)/\Inv X' ((a,gob)::PP) (bT own σ capI) H s') ?_ ?_ ?_
  .rcases hgs' with e|⟨k,l,p,cl,e,ek⟩
   .subst e
    exact uT (i:=i) T st tr
   .subst e
    show cz _ _ _ (k (.send .none)) [] _ _
    rw[ek]
    exact cz.again rfl tr
  .rintro e s' ⟨rfl,_⟩
   rfl
  .rintro e s' ⟨rfl,I'⟩
   right
   obtain⟨oa',gr',mk⟩:=hSS (i:=i) hQ I'
   exact⟨rfl,λh' hk=>⟨rfl,H,hq,mk .finished h' s'.toks rfl hk⟩⟩
 .
  rintro PP i H s h' tk ⟨hQ,I1,hgs,Ib,st,fr⟩ hk
  exact⟨hQ,I1.kept hk,hgs,Ib.kept (s:=s.setGen gi .running) hk,T.keep _ _ _ st λb _ o e=>hk b o e,fr⟩
 .
  rintro PP i H s D o ⟨hQ,I1,hgs,Ib,st,fr⟩ hD ho hn hcell
  have hDa:a<D:=hD
  have hD4:s4.heap.objs.size<=D:=Nat.le_of_lt (Nat.lt_of_le_of_lt hCs (Nat.lt_trans hCa hDa))
  refine⟨λp hp=>?_,?_,hgs,?_,st,fr⟩
  .rcases Zi.mp hp with z|z
   .subst z;exact hDa
   .exact hQ p z
  .refine I1.pins_of λp hp=>?_
   rcases Zm.mp hp with z|z
   .exact I1.pin p (by simp[z])
   .rcases Zi.mp z with z|z
    .subst z
     exact⟨ho,hn,λz=>absurd I4.lt (by rw[<-z];exact Nat.not_lt.mpr hD4),I4.nofs hD4,hcell⟩
    .exact I1.pin p (by simp[z])
  .refine Ib.pins_of λp hp=>?_
   rcases Zi.mp hp with z|z
   .exact Ib.pin p (by simp[z])
   .rcases Zi.mp z with z|z
    .subst z
     refine⟨ho,hn,by rw[eL];exact Nat.ne_of_gt (Nat.lt_trans hCa hDa),λhz=>?_,hcell⟩
     rw[eFs]at hz
     rcases Zi.mp (I4.stkSub D hz)with z|z
     .exact absurd I4.lt (by rw[<-z];exact Nat.not_lt.mpr hD4)
     .exact I4.nofs hD4 z
    .exact Ib.pin p (by simp[z])
 .
  rintro p PP i H s ⟨hQ,I1,hgs,Ib,st,fr⟩
  exact⟨λq hq=>hQ q (List.mem_cons_of_mem _ hq),I1.pins_of λq hq=>I1.pin q (by rcases Zm.mp hq with z|z<;>simp[z]),hgs,Ib.pins_of λq hq=>Ib.pin q (by rcases Zi.mp hq with z|z<;>simp[z]),st,fr⟩
 .
  rintro PP i H s h' tk D ⟨hQ,I1,hgs,Ib,st,fr⟩ hD hn hPD hk
  have hDa:a<D:=hD
  have hDC:C<D:=Nat.lt_trans hCa hDa
  have hD4:s4.heap.objs.size<=D:=Nat.le_of_lt (Nat.lt_of_le_of_lt hCs hDC)
  have l4:∀b,b<s4.heap.objs.size->b≠D:=λb hb=>Zk (Zc hb hD4)
  have cl4:∀x c,X.env.cells.lookup x=some c->c≠D:=λx c e=>let⟨v,q⟩:=I4.cell x c e;l4 c q.lt
  refine⟨hQ,I1.turned hk hn (Ne.symm (l4 _ I4.lt)) (.inr (Zl I4.sz hD4)) cl4 (λp hp=>?_),hgs,Ib.turned (s:=s.setGen gi .running) hk hn (by rw[eL];exact Nat.ne_of_gt hDC) (.inr (by rw[eS];exact hD4)) (λx c e=>?_) (λp hp=>?_),T.keep _ _ _ st λb hb o e=>hk b o ?_ e,fr⟩
  .rcases Zm.mp hp with z|z
   .exact l4 _ (Ze (I4.pin p (by simp[z])).1)
   .rcases Zm.mp z with z|z
    .exact l4 _ (Ze (I4.pin p (by simp[z])).1)
    .exact hPD p z
  .obtain⟨v,q⟩:=Ib.cell x c e
   have e':(cG X.env scope.names []).lookup x=some c:=by rw[<-hX']at e;exact e
   exact cl4 x c ((mR (Zt e')).elim (λz=>by simp at z) id)
  .rw[ePn,List.nil_append]at hp
   rcases Zi.mp hp with z|z
   .subst z;exact Zk hDa
   .exact hPD p z
  .obtain⟨o',e'⟩:=o4 b hb
   exact l4 b (Ze e')
 .
  have Ib0:Inv X' [] (bT own σ capI) H4 { s4 with heap:=h6,toks:=s4.toks+1+1+1,gens:=s4.gens.push .running}:=by
   rw[<-hX']
   refine I4.gen B hown hnc f4 o4 k46 hCs (hn5.at' λo e=>k6 _ o e) ?_ hAh
   rw[hcenv]
   exact zL hAf
  refine⟨λp hp=>absurd hp (by simp),by rw[List.append_nil];exact(I4.grown k46 gk6:Inv X pins σ H4 _),⟨_,gi6,rfl,.inl (by rw[eE])⟩,?_,T.keep _ _ _ st4 λb _ o e=>k46 b o e,hfr4⟩
  have e1:(Shared.setGen { s4 with gens:=s4.gens.push (.fresh (genS elt tg iter scope pos it cenv)),toks:=s4.toks+1+1+1,heap:=h6} gi .running)={ s4 with heap:=h6,toks:=s4.toks+1+1+1,gens:=s4.gens.push .running}:=by
   show Shared.mk _ ((s4.gens.push _).setIfInBounds gi .running) _ _ _=_
   congr 1
   rw[<-hgi]
   apply Array.ext_getElem?
   intro j
   by_cases hj:s4.gens.size=j
   .subst hj;simp
   .simp[hj,Array.getElem?_push,Ne.symm hj]
  rw[e1]
  exact Ib0.pins_of λp hp=>by
   obtain rfl:p=(a,gob):=by simpa using hp
   refine⟨oa6,?_,by rw[eL];exact Nat.ne_of_gt hCa,afs,λv z=>?_⟩
   .exact I4.hok.fresh (Zl hCs (Nat.le_of_lt hCa))
   .rw[<-hgo]at z;cases z
 .show a+1<=h6.objs.size
  rw[<-hh6,Heap.size_push,ha]
  exact Zg _
end
structure Two(J1:It)(g1 g2:TG)(tt1 tt2:TT)(wi2:TI)(te:TE)(σb:St)(Y:V->Nat->St->It->Nat->Hp->Prop)(E:Hp->Prop)(O:Nat->Nat->Hp->Prop)(N:Nat->St->It->Nat->Nat->Hp->Prop):Prop where
 out:∀i m H,O i m H->(J1.stop i H/\E H)∨(J1.go i H/\∀x H',J1.yld i H x H'->g1 x σb H' λσ1 H2=>Fits σb σ1/\tt1 σ1 H2 λb H3=>
  if b=true then wi2 σ1 H3 λJ2 H4=>∃m',m'<m/\N (i+1) σ1 J2 0 m' H4 else∃m',m'<m/\O (i+1) m' H3)
 inn:∀i σ1 J2 j m H,N i σ1 J2 j m H->(J2.stop j H/\∃m',m'<m/\O i m' H)∨(J2.go j H/\∀x H',J2.yld j H x H'->g2 x σ1 H' λσ2 H2=>Fits σ1 σ2/\tt2 σ2 H2 λb H3=>
  if b=true then te σ2 H3 λy H4=>Y y i σ1 J2 (j+1) H4 else∃m',m'<m/\N i σ1 J2 (j+1) m' H3)
abbrev S2:=Option (Nat×St×It×Nat)
abbrev lc2(elt t1 i1 t2 i2:Expr)(f1 f2:List Expr)(scope:Scope)(pos:Pos):Expr:=.ListComp elt [⟨t1,i1,f1,0⟩,⟨t2,i2,f2,0⟩] scope pos
section
variable {elt t1 i1 t2 i2:Expr} {f1 f2:List Expr} {scope:Scope} {pos:Pos} {it acc:Value} {env:Env}
theorem Ei:compTurn (lc2 elt t1 i1 t2 i2 f1 f2 scope pos) 0 it acc env=(do
   standAt i1.pos
   match<-pyNext it with
   |none=>pure (.done .next)
   |some v=>
    letOwnedTupleGo t1 it v
    assign t1 env v
    let mut ok:=true
    for c in f1 do
     if ok then ok<-isTrue c env (eval c env)
    if ok then
     (do let x<-eval i2 env;standAt i2.pos;let x<-foldedSetIterable i2 env x;let _<-runOwn (.compStart (lc2 elt t1 i1 t2 i2 f1 f2 scope pos) 1 (<-holding [x] (pyIter x)) acc env) env)
    again (.compLoop (lc2 elt t1 i1 t2 i2 f1 f2 scope pos) 0 it acc env)):=by
 have e:compTurn (lc2 elt t1 i1 t2 i2 f1 f2 scope pos) 0 it acc env=(do
   standAt i1.pos
   match<-pyNext it with
   |none=>pure (.done .next)
   |some v=>
    letOwnedTupleGo t1 it v
    assign t1 env v
    let mut ok:=true
    for c in f1 do
     if ok then ok<-isTrue c env (eval c env)
    if ok then
     let x<-eval i2 env
     standAt i2.pos
     let x<-foldedSetIterable i2 env x
     let _<-runOwn (.compStart (lc2 elt t1 i1 t2 i2 f1 f2 scope pos) 1 (<-holding [x] (pyIter x)) acc env) env
     again (.compLoop (lc2 elt t1 i1 t2 i2 f1 f2 scope pos) 0 it acc env)
    else again (.compLoop (lc2 elt t1 i1 t2 i2 f1 f2 scope pos) 0 it acc env)):=by rfl
 rw[e]
 simp only[bind_assoc,pure_bind]
theorem Dv:compTurn (lc2 elt t1 i1 t2 i2 f1 f2 scope pos) 1 it acc env=(do
   standAt i2.pos
   match<-pyNext it with
   |none=>pure (.done .next)
   |some v=>
    letOwnedTupleGo t2 it v
    assign t2 env v
    let mut ok:=true
    for c in f2 do
     if ok then ok<-isTrue c env (eval c env)
    if ok then
     (do let _<-call (.builtin "list.append") [acc,<-eval elt env])
    again (.compLoop (lc2 elt t1 i1 t2 i2 f1 f2 scope pos) 1 it acc env)):=by rfl
end
abbrev TBd:=Nat->St->Hp->(List V->Hp->Prop)->Prop
def PB(X:Cx)(l:Addr)(body:Sem PUnit)(t:TBd):Prop:=
 ∀(P:List (Addr×Obj))(s:Shared)(σ:St)(H:Hp)(Q:List V->Hp->Prop)(us:List Value)(k:Nat),(∀p∈P,p.1≠l)->Inv X ((l,aR us k)::P) σ H s->t us.length σ H Q->
  wpAny (model X.prog X.w) X.A body (λ_ s'=>∃ys us' k' H',Vals ys us'/\Inv X ((l,aR (us++us') k')::P) σ H' s'/\Q ys H') X.xe s
def tB1(te:TE):TBd:=λn σ H Q=>n<sizeLine/\te σ H λy H'=>Q [y] H'
def tB2(wi:TI)(g:TG)(tt:TT)(tB:TBd):TBd:=λn σ H Q=>wi σ H λJ H1=>∃W:Nat->Nat->List V->Hp->Prop,(∃m,W 0 m [] H1)/\∀i m ys H,W i m ys H->
 (J.stop i H/\Q ys H)∨
 (J.go i H/\∀x H',J.yld i H x H'->g x σ H' λσ2 H2=>Fits σ σ2/\tt σ2 H2 λb H3=>
  if b=true then tB (n+ys.length) σ2 H3 (λzs H4=>∃m',m'<m/\W (i+1) m' (ys++zs) H4)else∃m',m'<m/\W (i+1) m' ys H3)
structure zA(X:Cx)(l:Addr):Prop where
 ne:l≠X.env.locals
 fs:l∉X.fs
 new:X.s₀.heap.objs.size<=l
 cel:∀x c,X.env.cells.lookup x=some c->c≠l
 pn:X.pn=[]
 xe:X.xe=λ_ _=>False
 calm:X.calm=true
section
variable {X:Cx} {l:Addr} {elt tg:Expr} {te:TE} {ifs:List Expr} {g:TG} {tt:TT} {tB:TBd}
theorem Ny(L:zA X l)(he:PE X elt te):PB X l (do let _<-call (.builtin "list.append") [.ref l,<-eval elt X.env]) (tB1 te):=by
 rintro P s σ H Q us k hP I ⟨hlt,h⟩
 have xe:=L.xe
 refine wpAny_bind (wpAny_mono (he _ s σ H _ I h) (λyv s8 ⟨y,H8,I8,r8,q8⟩=>?_) λ_ _ z=>z)
 have pl:=I8.pin (l,aR us k) (by simp)
 have o8:s8.heap.get? l=some (aR us k):=pl.1
 have n8:H8 l=none:=pl.2.1
 refine wpAny_bind (append_at (hsz:=by show us.toArray.size<=sizeLine;rw[Zd];exact Nat.le_of_lt hlt) o8 λh9 sb9 o9=>?_)
 have I8':Inv X P σ H8 s8:=I8.pins_of λp hp=>I8.pin p (by simp[hp])
 have I9:Inv X P σ H8 { s8 with heap:=h9}:=I8'.turned (t':=s8.toks) (λb o hb e=>(sb9.2 b hb).trans e) n8 L.ne (.inr L.new) L.cel (λp hp=>by rw[L.pn]at hp;exact hP p hp)
 refine wpAny_pure ⟨[y],[yv],k+1,H8,.cons r8 .nil,I9.pins_of λp hp=>?_,q8⟩
 rcases Zi.mp hp with e|hp
 .subst e
  refine⟨?_,n8,L.ne,L.fs,λv z=>by cases z⟩
  show h9.get? l=_
  rw[o9]
  simp[aR]
 .exact I9.pin p (Zn _ hp)
theorem qQ{e:Expr}{d:Nat}{it:Addr}{fp:List Addr}{tn:Nat->Heap->Prop}{J:It}{body:Sem PUnit}{p0:Pos}{R:Result->Shared->Prop}{P:List (Addr×Obj)}{s:Shared}{σ:St}{H:Hp}{Q:List V->Hp->Prop}{us:List Value}{k:Nat}
  (heq:compTurn e d (.ref it) (.ref l) X.env=(do
   standAt p0
   match<-pyNext (.ref it)with
   |none=>pure (.done .next)
   |some v=>
    letOwnedTupleGo tg (.ref it) v
    assign tg X.env v
    let mut ok:=true
    for c in ifs do
     if ok then ok<-isTrue c X.env (eval c X.env)
    if ok then body
    again (.compLoop e d (.ref it) (.ref l) X.env)))
  (hden:(model X.prog X.w).den (.compLoop e d (.ref it) (.ref l) X.env)=(compTurn e d (.ref it) (.ref l) X.env).onRaise (λx=>do noteFrame x X.env;theTreesLotGoes x))
  (hun:X.A.under (.compLoop e d (.ref it) (.ref l) X.env)=X.A) (hq:(Code.compLoop e d (.ref it) (.ref l) X.env).quiet=true)
  (L:zA X l) (T:Turn X.prog X.w X.K tg J fp it tn) (hg:PG X tg g) (ht:PIf X ifs tt) (hb:PB X l body tB) (hP:∀p∈P,p.1≠l) (hlf:∀b∈fp,b≠l)
  (I:Inv X ((l,aR us k)::P) σ H s) (st:tn 0 s.heap) (hf:∀b∈fp,jg X P H b)
  (W:Nat->Nat->List V->Hp->Prop) (m0:Nat) (w0:W 0 m0 [] H)
  (turn:∀i m ys H,W i m ys H->
   (J.stop i H/\Q ys H)∨
   (J.go i H/\∀x H',J.yld i H x H'->g x σ H' λσ2 H2=>Fits σ σ2/\tt σ2 H2 λb H3=>
    if b=true then tB (us.length+ys.length) σ2 H3 (λzs H4=>∃m',m'<m/\W (i+1) m' (ys++zs) H4)else∃m',m'<m/\W (i+1) m' ys H3))
  (hR:∀ys us' k' H' s',Vals ys us'->Inv X ((l,aR (us++us') k')::P) σ H' s'->Q ys H'->R (.ok .next) s'):
  codeAny (model X.prog X.w) X.A (.compLoop e d (.ref it) (.ref l) X.env) R s:=by
 have stat:∀{H':Hp}{o:Obj},(∀b∈fp,H' b=none)->∀b∈fp,jg X ((l,o)::P) H' b:=λ{H' o} hn b hb=>by
  obtain⟨q0,q1,q2,q3,q4,q5⟩:=hf b hb
  refine⟨hn b hb,q1,q2,q3,q4,λp hp=>?_⟩
  rcases Zm.mp hp with z|z
  .exact q5 p (List.mem_append_left _ z)
  .rcases Zi.mp z with z|z
   .subst z;exact Ne.symm (hlf b hb)
   .exact q5 p (Zn _ z)
 have xe:=L.xe
 refine codeAny_loop hq (λn s'=>∃i ys us' k' H',Inv X ((l,aR (us++us') k')::P) σ H' s'/\tn i s'.heap/\(∀b∈fp,H' b=none)/\W i n ys H'/\Vals ys us') ?_ m0
  ⟨0,[],[],k,H,by rw[List.append_nil];exact I,st,λb hb=>(hf b hb).1,w0,.nil⟩
 rintro n s3 ⟨i,ys,us',k',H3,I3,st3,fr3,w3,v3⟩
 rw[hun,hden]
 refine wpAny_noted ?_
 rw[heq]
 have hE:∀e s',(λ_ _=>False:Value->Shared->Prop) e s'->notedBy (model X.prog X.w) X.A X.env (λe s'=>R (.error e) s') e s':=λ_ _ z=>z.elim
 rcases turn i n ys H3 w3 with⟨stop,qn⟩|⟨go,step⟩
 .refine wpAny_bind (wpAny_standAt (wpAny_bind (wpAny_mono (T.done X rfl rfl rfl L.calm i _ s3 _ H3 (λ_ _=>False) I3 (stat fr3) st3 stop) (λr s4 ⟨hr,I4⟩=>?_) hE)))
  subst hr
  exact wpAny_pure (hR ys us' k' H3 s4 v3 I4 qn)
 .refine wpAny_bind (wpAny_standAt (wpAny_bind (wpAny_mono (T.item X rfl rfl rfl L.calm i _ s3 _ H3 (λ_ _=>False) I3 (stat fr3) st3 go) (λr s4 ⟨u,hr,h4⟩=>?_) hE)))
  subst hr
  refine wpAny_bind (wpAny_mono h4 (λ_ s5 ⟨x,H5,I5,r5,y5,st5,fr5⟩=>?_) hE)
  have I5':=I5.pinned (stat fr5) (T.obj _ _ st5)
  have a1:=hg _ s5 _ H5 x u _ I5' r5 (step x H5 y5)
  rw[xe]at a1
  refine wpAny_bind (wpAny_mono a1 (λ_ s6 ⟨σ6,H6,I6,ft6,q6⟩=>?_) hE)
  have a2:=ht _ s6 σ6 H6 _ I6 q6
  rw[xe]at a2
  refine wpAny_bind (wpAny_mono a2 (λok s7 ⟨H7,I7,q7⟩=>?_) hE)
  have back:∀{H8:Hp}{s8:Shared}{o:Obj},Inv X ((l,o)::(P++mx fp s5.heap)) σ6 H8 s8->Inv X ((l,o)::P) σ H8 s8/\tn (i+1) s8.heap/\(∀b∈fp,H8 b=none):=λ{H8 s8 o} I8=>by
   refine⟨(I8.weak ft6.1.symm ft6.2).pins_of λp hp=>I8.pin p ?_,T.keep _ _ _ st5 λb hb o e=>?_,λb hb=>?_⟩
   .rcases Zi.mp hp with z|z
    .exact Zn _ (Zi.mpr (.inl z))
    .exact Zn _ (List.mem_cons_of_mem _ (List.mem_append_left _ z))
   .exact(I8.pin (b,o) (Zn _ (List.mem_cons_of_mem _ (Zn _ (dG hb e))))).1
   .obtain⟨o,e,d⟩:=T.obj _ _ st5 b hb
    exact(I8.pin (b,o) (Zn _ (List.mem_cons_of_mem _ (Zn _ (dG hb e))))).2.1
  cases ok with
  |false=>
   rw[if_neg Zr]at q7
   obtain⟨m',hm,w7⟩:=q7
   obtain⟨I8,st8,fr8⟩:=back I7
   exact wpAny_pure ⟨rfl,m',hm,i+1,ys,us',k',H7,I8,st8,fr8,w7,v3⟩
  |true=>
   rw[if_pos rfl]at q7
   have hl:us.length+ys.length=(us++us').length:=by rw[List.length_append,v3.length]
   rw[hl]at q7
   have a3:=hb (P++mx fp s5.heap) s7 σ6 H7 _ (us++us') k' (λp hp=>(Zm.mp hp).elim (hP p) λz=>hlf _ (vz z).1) I7 q7
   rw[xe]at a3
   refine wpAny_bind (wpAny_mono a3 (λ_ s8 ⟨zs,vs,k8,H8,v8,I8',m',hm,w8⟩=>?_) hE)
   obtain⟨I8,st8,fr8⟩:=back I8'
   exact wpAny_pure ⟨rfl,m',hm,i+1,ys++zs,us'++vs,k8,H8,by rw[<-List.append_assoc];exact I8,st8,fr8,w8,v3.append v8⟩
end
section
variable {prog:Program} {w:World} {A:Around} {R:Result->Shared->Prop} {s:Shared}
theorem BP{elt t1 i1 t2 i2:Expr}{f1 f2:List Expr}{scope:Scope}{pos:Pos}{it acc:Value}{env:Env}
  (h0:codeAny (model prog w) A (.compLoop (lc2 elt t1 i1 t2 i2 f1 f2 scope pos) 1 it acc env) R s)
  (h:wpAny (model prog w) A (pyIter it) (λit' s'=>codeAny (model prog w) A (.compLoop (lc2 elt t1 i1 t2 i2 f1 f2 scope pos) 1 it' acc env) R s') (λ_ _=>False) s):
  codeAny (model prog w) A (.compStart (lc2 elt t1 i1 t2 i2 f1 f2 scope pos) 1 it acc env) R s:=by
 refine codeAny_of_tree ?_
 show wpAny _ _ ((compStart (lc2 elt t1 i1 t2 i2 f1 f2 scope pos) 1 it acc env).onRaise (λx=>do noteFrame x env;standAt theWindowsPlace)) _ _ s
 refine wpAny_notedAt ?_
 unfold compStart
 show wpAny _ _ (ask >>= _) _ _ s
 refine wpAny_bind (wpAny_askSetting (wpAny_ite ?_))
 split
 .first
   |exact wpAny_bind (wpAny_pure (wpAny_pure (And.intro rfl h0)))
   |exact wpAny_pure (And.intro rfl h0)
 .first
   |exact wpAny_bind (wpAny_rule (wpAny_bind (wpAny_standAt (wpAny_bind (wpAny_mono h (λit' s' h'=>wpAny_pure (And.intro rfl h')) λ_ _ x=>x.elim)))))
   |(refine wpAny_bind (wpAny_rule ?_);show wpAny _ _ (standAt i2.pos >>= _) _ _ s;exact wpAny_bind (wpAny_standAt (wpAny_bind (wpAny_mono h (λit' s' h'=>wpAny_pure (And.intro rfl h')) λ_ _ x=>x.elim))))
end
section
variable {X:Cx} {l:Addr} {elt t1 i1 t2 i2:Expr} {f1 f2:List Expr} {scope:Scope} {pos:Pos} {wi:TI} {g:TG} {tt:TT} {te:TE}
theorem Pr(L:zA X l)(hi:PI X t2 i2 wi)(hg:PG X t2 g)(ht:PIf X f2 tt)(he:PE X elt te)(hs:∀x,foldedSetIterable i2 X.env x=pure x)
  (hex:∀b∈X.ex,b≠l):
  PB X l (do let x<-eval i2 X.env;standAt i2.pos;let x<-foldedSetIterable i2 X.env x;let _<-runOwn (.compStart (lc2 elt t1 i1 t2 i2 f1 f2 scope pos) 1 (<-holding [x] (pyIter x)) (.ref l) X.env) X.env) (tB2 wi g tt (tB1 te)):=by
 intro P s σ H Q us k hP I h
 have xe:=L.xe
 have q:=hi _ s σ H _ I h
 refine wpAny_bind (wpAny_mono q (λv s1 h1=>?_) λ_ _ z=>z)
 refine wpAny_bind (wpAny_standAt (wpAny_bind (wpAny_of_eq (hs v) (wpAny_bind (wpAny_holding (wpAny_mono h1 (λitv s2 h2=>?_) λ_ _ z=>z))))))
 obtain⟨it,fp,tn,J,H2,e,I2,T,st2,f2',W,⟨m0,w0⟩,turn⟩:=h2
 subst e
 have hlf:∀b∈fp,b≠l:=λb hb=>Ne.symm ((f2' b hb).2.2.2.2.2 (l,aR us k) (by simp))
 have hf:∀b∈fp,jg X P H2 b:=λb hb=>by
  obtain⟨q0,q1,q2,q3,q4,q5⟩:=f2' b hb
  exact⟨q0,q1,q2,q3,q4,λp hp=>(Zm.mp hp).elim (λz=>q5 p (List.mem_append_left _ z)) λz=>q5 p (Zn _ (List.mem_cons_of_mem _ z))⟩
 have loop:∀s3,s3=s2->codeAny (model X.prog X.w) X.A (.compLoop (lc2 elt t1 i1 t2 i2 f1 f2 scope pos) 1 (.ref it) (.ref l) X.env)
   (λr s'=>r= .ok .next/\∃ys us' k' H',Vals ys us'/\Inv X ((l,aR (us++us') k')::P) σ H' s'/\Q ys H') s3:=by
  rintro s3 rfl
  exact qQ Dv rfl rfl rfl L T hg ht (Ny L he) hP hlf I2 st2 hf W m0 w0 turn λys us' k' H' s' v I' q=>⟨rfl,ys,us',k',H',v,I',q⟩
 have R1:∀s3,s3=s2->codeAny (model X.prog X.w) X.A (.compStart (lc2 elt t1 i1 t2 i2 f1 f2 scope pos) 1 (.ref it) (.ref l) X.env)
   (λr s'=>r= .ok .next/\∃ys us' k' H',Vals ys us'/\Inv X ((l,aR (us++us') k')::P) σ H' s'/\Q ys H') s3:=by
  rintro s3 rfl
  exact BP (loop _ rfl) (T.self X.A 0 _ _ _ st2 (loop _ rfl))
 refine wpAny_bind (wpAny_runOwn (h:=none) (codeAny_mono (R1 _ rfl) λr s' ⟨hr,q⟩=>?_))
 subst hr
 exact wpAny_pure q
end
def RB(own:List Str)(capI:List Nat)(wi:TI)(g:TG)(tt:TT)(tB:TBd):TE:=λσ H Q=>wi σ H λJ H1=>∃W:Nat->Nat->List V->Hp->Prop,(∃m,W 0 m [] H1)/\∀i m ys H,W i m ys H->
 (J.stop i H/\(ys.length<=sizeLine/\∀l,H l=none->Q (.ref l) (upd H l (.lst ys))))∨
 (J.go i H/\∀x H',J.yld i H x H'->g x (bT own σ capI) H' λσ2 H2=>Fits (bT own σ capI) σ2/\tt σ2 H2 λb H3=>
  if b=true then tB (0+ys.length) σ2 H3 (λzs H4=>∃m',m'<m/\W (i+1) m' (ys++zs) H4)else∃m',m'<m/\W (i+1) m' ys H3)
section
variable {X:Cx} {tg iter elt:Expr} {ifs:List Expr} {wi:TI} {g:TG} {tt:TT} {te:TE} {own cap:List Str} {capI:List Nat} {scope:Scope} {pos:Pos}
theorem MJ{i₀:Nat}{x₀:Str}{px₀ spos:Pos}(hN:X.N.Nodup)(hi₀:X.N[i₀]? =some x₀)(hx₀:Loc X.env.scope x₀)(hc:X.calm=true)(B:dZ X own cap capI scope)(hown:∀x∈own,(x,NameKind.free)∉scope.names)(hi:PI X tg iter wi)
  (hg:∀cs C fp s2 H2,PG (bw X own cap scope cs C fp s2 H2) tg g) (ht:∀cs C fp s2 H2,PIf (bw X own cap scope cs C fp s2 H2) ifs tt) (he:∀cs C fp s2 H2,PE (bw X own cap scope cs C fp s2 H2) elt te)
  (hs:∀x,foldedSetIterable iter X.env x=pure x:=by intro _;rfl) (hsw:swapsWith (.ListComp elt [⟨tg,iter,ifs,0⟩] scope pos) (some (.Name x₀ px₀)) spos.line X.env=pure true:=by rfl)
  (hf₀:X.fn x₀=true∨X.env.scope.names.lookup x₀=some .local:=by first|exact .inl rfl|exact .inr rfl|assumption):
  PS X (.Assign [.Name x₀ px₀] (.ListComp elt [⟨tg,iter,ifs,0⟩] scope pos) spos) (JN (tLC own capI wi g tt te) (yg i₀)):=by
 intro pins s σ H D I h
 rw[exec_Assign_Name_used _ _ _ _ hsw]
 refine wpAny_bind (wpAny_standAt (wpAny_bind ?_))
 show wpAny _ X.A (do let _<-comprehension (.ListComp elt [⟨tg,iter,ifs,0⟩] scope pos) scope X.env _ (newList []) false (eval iter X.env) (some (assign (.Name x₀ px₀) X.env))) _ _ s
 refine wpAny_bind (wpAny_mono (wpAny_comprehension_free (use:=some (assign (.Name x₀ px₀) X.env)) (Q:=λ_ s'=>SP X pins D .next s') (cl:=cG X.env scope.names []) rfl hs (iG (B.cells I)) B.kind (λy hy e=>cX B.nd (by rw[<-e];exact hy)) ?_) (λ_ s' hq=>wpAny_pure (wpAny_pure hq)) λ_ _ e=>e)
 refine thn (hi pins s σ H _ I h) λv s1 h1=>thn h1 λitv s2 h2=>?_
 obtain⟨it,fp,tn,J,H2,e,I2,T,st2,f2,W,⟨m0,w0⟩,turn⟩:=h2
 subst e
 refine wpAny_newObj_type (jZ ?_)
 dsimp only
 generalize hl:s2.heap.objs.size=l
 generalize hh0:s2.heap.push { cls:=.type "list",dict:=none,data:=.seq ([]:List Value).toArray}=h0
 have hsz0:h0.objs.size=l+1:=by rw[<-hh0,Heap.size_push,hl]
 generalize hC:h0.objs.size=C
 generalize hh1:pushCells (h0.push { cls:=.type (if(some X.env).isSome=true then "dict" else "frame"),data:=.dict #[] }) scope.names=h1
 have hl0:h0.get? l=some (aR [] 0):=by rw[<-hh0,<-hl];exact Zf _ rfl
 have hk0:∀b o,s2.heap.get? b=some o->h0.get? b=some o:=λb o e=>by rw[<-hh0];exact Zb _ e
 have hlC:l≠C:=by rw[<-hC,hsz0];exact Zk (Nat.lt_succ_self _)
 have hls:s2.heap.objs.size<=l:=Nat.le_of_eq hl
 have hCs:s2.heap.objs.size<=C:=by rw[<-hC,hsz0,hl];exact Nat.le_succ _
 have ho2:∀b∈fp,∃o,s2.heap.get? b=some o:=λb hb=>let⟨o,e,_⟩:=T.obj 0 _ st2 b hb;⟨o,e⟩
 have hfl:∀b∈fp,b≠l/\b≠C:=λb hb=>let⟨o,e⟩:=ho2 b hb;⟨Zk (Zc (Ze e) hls),Zk (Zc (Ze e) hCs)⟩
 have hl1:h1.get? l=some (aR [] 0):=by rw[<-hh1];exact pushCells_keeps _ _ _ _ (Zb _ hl0)
 have keep1:∀b o,s2.heap.get? b=some o->h1.get? b=some o:=λb o e=>by rw[<-hh1];exact pushCells_keeps _ _ _ _ (Zb _ (hk0 b o e))
 generalize hcs:cellsFrom (C+1) scope.names (cG X.env scope.names [])=cs
 have I0:Inv (bw X own cap scope cs C fp s2 H2) [] (bT own σ capI) H2 { s2 with heap:=h1}:=by
  have q:=I2.comp (tk:=s2.toks) B hown f2 ho2 hk0 (by rw[hsz0,hl];exact Nat.le_succ _) hC.symm hh1.symm
  rw[hcs]at q
  exact q
 have henv:(newEnv scope C X.env.globals cs X.env.qual none .none (some X.env) builtinsNs)={ compEnvC scope cs C X.env with scope:=scope}:=rfl
 have henv2:({ newEnv scope C X.env.globals cs X.env.qual none .none (some X.env) builtinsNs with scope:=relabel scope X.env}:Env)=(bw X own cap scope cs C fp s2 H2).env:=rfl
 generalize hX':bw X own cap scope cs C fp s2 H2=X' at I0 henv2
 have eP:X'.prog=X.prog:=by rw[<-hX'];rfl
 have eW:X'.w=X.w:=by rw[<-hX'];rfl
 have eK:X'.K=X.K:=by rw[<-hX'];rfl
 have eA:X'.A=X.A:=by rw[<-hX'];rfl
 have eFs:X'.fs=frs X.stack:=by rw[<-hX'];rfl
 have eEx:X'.ex=fp:=by rw[<-hX'];rfl
 have eS:X'.s₀=s2:=by rw[<-hX'];rfl
 have eH:X'.H₀=H2:=by rw[<-hX'];rfl
 have eL:X'.env.locals=C:=by rw[<-hX'];rfl
 have eC:X'.calm=true:=by rw[<-hX'];exact hc
 have eX:X'.xe=λ_ _=>False:=by rw[<-hX'];rfl
 have ePn:X'.pn=[]:=by rw[<-hX'];rfl
 have hg':PG X' tg g:=by rw[<-hX'];exact hg cs C fp s2 H2
 have ht':PIf X' ifs tt:=by rw[<-hX'];exact ht cs C fp s2 H2
 have he':PE X' elt te:=by rw[<-hX'];exact he cs C fp s2 H2
 have stat:∀{H':Hp}{P:List (Addr×Obj)},X'.Ok->(∀b∈fp,H' b=none)->(∀p∈P,p.1=l)->∀b∈fp,jg X' P H' b:=λ{H' P} ok hn hP b hb=>by
  refine⟨hn b hb,?_,?_,.inl (by rw[eEx];exact hb),?_,λp hp=>?_⟩
  .exact(ok.exf b (by rw[eEx];exact hb)).1
  .exact ok.exfs b (by rw[eEx];exact hb)
  .exact(ok.exf b (by rw[eEx];exact hb)).2
  .rw[ePn,List.nil_append]at hp
   rw[hP p hp]
   exact Ne.symm (hfl b hb).1
 have lfs:X'.Ok->l∉X'.fs:=λok hz=>by
  rw[eFs]at hz
  exact(Inv.nofs (X:=X) I2 hls) ((Zi.mp (I2.stkSub l hz)).elim (λz=>absurd I2.lt (by rw[<-z,hl];exact Nat.lt_irrefl _)) id)
 have pinL:∀{σ':St}{H':Hp}{s':Shared}{us:List Value}{k:Nat},Inv X' [] σ' H' s'->s'.heap.get? l=some (aR us k)->H' l=none->Inv X' [(l,aR us k)] σ' H' s':=λ{σ' H' s' us k} I' e n=>
  I'.pins_of λp hp=>by
   obtain rfl:p=(l,aR us k):=by simpa using hp
   exact⟨e,n,by rw[eL];exact hlC,lfs I'.ok,λv z=>by cases z⟩
 have loop:∀s3:Shared,s3={ s2 with heap:=h1}->codeAny (model X.prog X.w) X.A (.compLoop (.ListComp elt [⟨tg,iter,ifs,0⟩] scope pos) 0 (.ref it) (.ref l) X'.env) (compPost (model X.prog X.w) X.A X.xe (some (assign (.Name x₀ px₀) X.env)) (λ_ s'=>SP X pins D .next s') (.ref l) C) s3:=by
  rintro s3 rfl
  refine wk (E':=λ_ _=>False) (λn s'=>∃i ys us k H',Inv X' [] (bT own σ capI) H' s'/\tn i s'.heap/\(∀b∈fp,H' b=none)/\W i n ys H'/\Vals ys us/\s'.heap.get? l=some (aR us k)/\H' l=none/\ys.length<=sizeLine) (λ_ _ z=>z.elim) ?_ m0
   ⟨0,[],[],0,H2,I0,T.keep _ _ _ st2 λb _ o e=>keep1 b o e,λb hb=>(f2 b hb).1,w0,.nil,hl1,I2.hok.fresh hls,Nat.zero_le _⟩
  rintro n s3 ⟨i,ys,us,k,H3,I3,st3,fr3,w3,v3,o3,n3,z3⟩
  have I3p:=pinL I3 o3 n3
  have P1:∀p∈[(l,aR us k)],p.1=l:=λp hp=>by
   obtain rfl:p=(l,aR us k):=by simpa using hp
   rfl
  rcases turn i n ys H3 w3 with⟨stop,qn⟩|⟨go,hlt,step⟩
  .have q:=T.done X' eP eW eK eC i _ s3 _ H3 (λ_ _=>False) I3p (stat I3.ok fr3 P1) st3 stop
   rw[eA]at q
   refine wpAny_mono q (λr s4 ⟨hr,I4⟩=>?_) λ_ _ z=>z
   subst hr
   have pl:=I4.pin (l,aR us k) (by simp)
   obtain⟨m4,hn4,_⟩:=I4.loc
   rw[eL]at hn4
   have fC:H3 C=none:=by have:=I4.free;rw[eL]at this;exact this
   have IE:Inv X pins σ (upd H3 l (.lst ys)) s4:=by
    have:=I2.compEnd f2 eP eW eFs eEx eS eH eL I4 hls hlC hCs pl.1 n3 v3 z3 (Heap.SameBut.refl C s4.heap)
    exact this
   show wpAny _ X.A (assign (.Name x₀ px₀) X.env (.ref l)) _ _ s4
   refine wpAny_assign_Name (pZ IE hN hi₀ hx₀ (v:=.ref l) rfl (λs5 I5 ⟨a,sa,ha⟩=>?_) hf₀)
   have hnL:C≠X.env.locals:=Nat.ne_of_gt (Zc I2.lt hCs)
   have hnc:∀y c,X.env.cells.lookup y=some c->c≠C:=λy c e=>by
    obtain⟨v,q⟩:=I2.cell y c e
    exact Zk (Zc q.lt hCs)
   have haC:C≠a:=by
    rcases ha with q|q
    .rw[q];exact hnL
    .exact Ne.symm (hnc _ _ q)
   obtain⟨o4,es4,ep4,ho4,r4⟩:=hn4
   refine⟨m4,⟨o4,es4,ep4,(sa.2 C haC).trans ho4,r4⟩,λh' sb=>⟨_,_,?_,qn l n3⟩⟩
   refine I5.turned (t':=s5.toks) (it:=C) (λb o hb e=>(sb.2 b hb).trans e) (by rw[aM (Ne.symm hlC)];exact fC) hnL (.inr (Zl I2.sz hCs)) hnc λp hp=>?_
   exact Zk (Zc (Ze (I2.pin p hp).1) hCs)
  .have q:=T.item X' eP eW eK eC i _ s3 _ H3 (λ_ _=>False) I3p (stat I3.ok fr3 P1) st3 go
   rw[eA]at q
   refine wpAny_mono q (λr s4 ⟨u,hr,h4⟩=>?_) λ_ _ z=>z
   subst hr
   refine wpAny_mono h4 (λ_ s5 ⟨x,H5,I5,r5,y5,st5,fr5⟩=>?_) λ_ _ z=>z
   have I5':=I5.pinned (stat I5.ok fr5 P1) (T.obj _ _ st5)
   have a1:=hg' _ s5 _ H5 x u _ I5' r5 (step x H5 y5)
   rw[eP,eW,eA,eX]at a1
   refine wpAny_mono a1 (λ_ s6 ⟨σ6,H6,I6,ft6,q6⟩=>?_) λ_ _ z=>z
   have a2:=ht' _ s6 σ6 H6 _ I6 q6
   rw[eP,eW,eA,eX]at a2
   refine wpAny_mono a2 (λok s7 ⟨H7,I7,q7⟩=>?_) λ_ _ z=>z
   have back:∀{H8:Hp}{s8:Shared},Inv X' ([(l,aR us k)]++mx fp s5.heap) σ6 H8 s8->Inv X' [] (bT own σ capI) H8 s8/\tn (i+1) s8.heap/\(∀b∈fp,H8 b=none)/\s8.heap.get? l=some (aR us k)/\H8 l=none:=λ{H8 s8} I8=>by
    have pl:=I8.pin (l,aR us k) (by simp)
    refine⟨(I8.weak ft6.1.symm ft6.2).pins_of λp hp=>absurd hp (by simp),T.keep _ _ _ st5 λb hb o e=>?_,λb hb=>?_,pl.1,pl.2.1⟩
    .exact(I8.pin (b,o) (Zn _ (Zn _ (dG hb e)))).1
    .obtain⟨o,e,d⟩:=T.obj _ _ st5 b hb
     exact(I8.pin (b,o) (Zn _ (Zn _ (dG hb e)))).2.1
   cases ok with
   |false=>
    rw[if_neg Zr]
    rw[if_neg Zr]at q7
    obtain⟨m',hm,w7⟩:=q7
    obtain⟨I8,st8,fr8,o8,n8⟩:=back I7
    exact⟨m',hm,i+1,ys,us,k,H7,I8,st8,fr8,w7,v3,o8,n8,z3⟩
   |true=>
    rw[if_pos rfl]
    rw[if_pos rfl]at q7
    have a3:=he' _ s7 σ6 H7 _ I7 q7
    rw[eP,eW,eA,eX]at a3
    refine wpAny_mono a3 (λyv s8 ⟨y,H8,I8',r8,m',hm,w8⟩=>?_) λ_ _ z=>z
    obtain⟨I8,st8,fr8,o8,n8⟩:=back I8'
    refine append_at (hsz:=by show us.toArray.size<=sizeLine;rw[Zd,<-v3.length];exact z3) o8 λh9 sb9 o9=>?_
    have I9:Inv X' [] (bT own σ capI) H8 { s8 with heap:=h9}:=I8.turned (t':=s8.toks) (λb o hb e=>(sb9.2 b hb).trans e) n8 (by rw[eL];exact hlC) (.inr (by rw[eS];exact hls)) (λx c e=>by
     rintro rfl
     obtain⟨v',ho',hd',hd''⟩:=I8.cell x c e
     rw[o8]at hd'
     cases hd'
     cases hd'') (λp hp=>by rw[ePn]at hp;exact absurd hp (by simp))
    refine⟨m',hm,i+1,ys++[y],us++[yv],k+1,H8,I9,T.keep _ _ _ st8 λb hb o e=>(sb9.2 b (hfl b hb).1).trans e,fr8,w8,v3.append (.cons r8 .nil),?_,n8,?_⟩
    .rw[o9]
     simp[aR]
    .rw[List.length_append]
     exact hlt
 have T0:=T.keep 0 s2.heap h1 st2 λb _ o e=>keep1 b o e
 rw[henv2]
 exact codeAny_compStart_list (loop _ rfl) (T.self X.A 0 _ _ _ T0 (loop _ rfl))
end
section
variable {X:Cx} {t1 i1 t2 i2 elt:Expr} {f1 f2:List Expr} {wi1 wi2:TI} {g1 g2:TG} {tt1 tt2:TT} {te:TE} {own cap:List Str} {capI:List Nat} {scope:Scope} {pos:Pos}
theorem QG{i₀:Nat}{x₀:Str}{px₀ spos:Pos}(hN:X.N.Nodup)(hi₀:X.N[i₀]? =some x₀)(hx₀:Loc X.env.scope x₀)(hc:X.calm=true)(B:dZ X own cap capI scope)(hown:∀x∈own,(x,NameKind.free)∉scope.names)(hi1:PI X t1 i1 wi1)
  (hg1:∀cs C fp s2 H2,PG (bw X own cap scope cs C fp s2 H2) t1 g1) (ht1:∀cs C fp s2 H2,PIf (bw X own cap scope cs C fp s2 H2) f1 tt1)
  (hi2:∀cs C fp s2 H2,PI (bw X own cap scope cs C fp s2 H2) t2 i2 wi2) (hg2:∀cs C fp s2 H2,PG (bw X own cap scope cs C fp s2 H2) t2 g2) (ht2:∀cs C fp s2 H2,PIf (bw X own cap scope cs C fp s2 H2) f2 tt2)
  (he:∀cs C fp s2 H2,PE (bw X own cap scope cs C fp s2 H2) elt te)
  (hs:∀x,foldedSetIterable i1 X.env x=pure x:=by intro _;rfl) (hs2:∀env x,foldedSetIterable i2 env x=pure x:=by intro _ _;rfl)
  (hsw:swapsWith (lc2 elt t1 i1 t2 i2 f1 f2 scope pos) (some (.Name x₀ px₀)) spos.line X.env=pure true:=by rfl) (hf₀:X.fn x₀=true∨X.env.scope.names.lookup x₀=some .local:=by first|exact .inl rfl|exact .inr rfl|assumption):
  PS X (.Assign [.Name x₀ px₀] (lc2 elt t1 i1 t2 i2 f1 f2 scope pos) spos) (JN (RB own capI wi1 g1 tt1 (tB2 wi2 g2 tt2 (tB1 te))) (yg i₀)):=by
 intro pins s σ H D I h
 rw[exec_Assign_Name_used _ _ _ _ hsw]
 refine wpAny_bind (wpAny_standAt (wpAny_bind ?_))
 show wpAny _ X.A (do let _<-comprehension (lc2 elt t1 i1 t2 i2 f1 f2 scope pos) scope X.env _ (newList []) false (eval i1 X.env) (some (assign (.Name x₀ px₀) X.env))) _ _ s
 refine wpAny_bind (wpAny_mono (wpAny_comprehension_free (use:=some (assign (.Name x₀ px₀) X.env)) (Q:=λ_ s'=>SP X pins D .next s') (cl:=cG X.env scope.names []) rfl hs (iG (B.cells I)) B.kind (λy hy e=>cX B.nd (by rw[<-e];exact hy)) ?_) (λ_ s' hq=>wpAny_pure (wpAny_pure hq)) λ_ _ e=>e)
 refine thn (hi1 pins s σ H _ I h) λv s1 h1=>thn h1 λitv s2 h2=>?_
 obtain⟨it,fp,tn,J,H2,e,I2,T,st2,f2',W,⟨m0,w0⟩,turn⟩:=h2
 subst e
 refine wpAny_newObj_type (jZ ?_)
 dsimp only
 generalize hl:s2.heap.objs.size=l
 generalize hh0:s2.heap.push { cls:=.type "list",dict:=none,data:=.seq ([]:List Value).toArray}=h0
 have hsz0:h0.objs.size=l+1:=by rw[<-hh0,Heap.size_push,hl]
 generalize hC:h0.objs.size=C
 generalize hh1:pushCells (h0.push { cls:=.type (if(some X.env).isSome=true then "dict" else "frame"),data:=.dict #[] }) scope.names=h1
 have hl0:h0.get? l=some (aR [] 0):=by rw[<-hh0,<-hl];exact Zf _ rfl
 have hk0:∀b o,s2.heap.get? b=some o->h0.get? b=some o:=λb o e=>by rw[<-hh0];exact Zb _ e
 have hlC:l≠C:=by rw[<-hC,hsz0];exact Zk (Nat.lt_succ_self _)
 have hls:s2.heap.objs.size<=l:=Nat.le_of_eq hl
 have hCs:s2.heap.objs.size<=C:=by rw[<-hC,hsz0,hl];exact Nat.le_succ _
 have ho2:∀b∈fp,∃o,s2.heap.get? b=some o:=λb hb=>let⟨o,e,_⟩:=T.obj 0 _ st2 b hb;⟨o,e⟩
 have hfl:∀b∈fp,b≠l/\b≠C:=λb hb=>let⟨o,e⟩:=ho2 b hb;⟨Zk (Zc (Ze e) hls),Zk (Zc (Ze e) hCs)⟩
 have hl1:h1.get? l=some (aR [] 0):=by rw[<-hh1];exact pushCells_keeps _ _ _ _ (Zb _ hl0)
 have keep1:∀b o,s2.heap.get? b=some o->h1.get? b=some o:=λb o e=>by rw[<-hh1];exact pushCells_keeps _ _ _ _ (Zb _ (hk0 b o e))
 generalize hcs:cellsFrom (C+1) scope.names (cG X.env scope.names [])=cs
 have I0:Inv (bw X own cap scope cs C fp s2 H2) [] (bT own σ capI) H2 { s2 with heap:=h1}:=by
  have q:=I2.comp (tk:=s2.toks) B hown f2' ho2 hk0 (by rw[hsz0,hl];exact Nat.le_succ _) hC.symm hh1.symm
  rw[hcs]at q
  exact q
 have henv:(newEnv scope C X.env.globals cs X.env.qual none .none (some X.env) builtinsNs)={ compEnvC scope cs C X.env with scope:=scope}:=rfl
 have henv2:({ newEnv scope C X.env.globals cs X.env.qual none .none (some X.env) builtinsNs with scope:=relabel scope X.env}:Env)=(bw X own cap scope cs C fp s2 H2).env:=rfl
 generalize hX':bw X own cap scope cs C fp s2 H2=X' at I0 henv2
 have eP:X'.prog=X.prog:=by rw[<-hX'];rfl
 have eW:X'.w=X.w:=by rw[<-hX'];rfl
 have eK:X'.K=X.K:=by rw[<-hX'];rfl
 have eA:X'.A=X.A:=by rw[<-hX'];rfl
 have eFs:X'.fs=frs X.stack:=by rw[<-hX'];rfl
 have eEx:X'.ex=fp:=by rw[<-hX'];rfl
 have eS:X'.s₀=s2:=by rw[<-hX'];rfl
 have eH:X'.H₀=H2:=by rw[<-hX'];rfl
 have eL:X'.env.locals=C:=by rw[<-hX'];rfl
 have eC:X'.calm=true:=by rw[<-hX'];exact hc
 have eX:X'.xe=λ_ _=>False:=by rw[<-hX'];rfl
 have ePn:X'.pn=[]:=by rw[<-hX'];rfl
 have hg1':PG X' t1 g1:=by rw[<-hX'];exact hg1 cs C fp s2 H2
 have ht1':PIf X' f1 tt1:=by rw[<-hX'];exact ht1 cs C fp s2 H2
 have hb':zA X' l->(∀b∈X'.ex,b≠l)->PB X' l (do let x<-eval i2 X'.env;standAt i2.pos;let x<-foldedSetIterable i2 X'.env x;let _<-runOwn (.compStart (lc2 elt t1 i1 t2 i2 f1 f2 scope pos) 1 (<-holding [x] (pyIter x)) (.ref l) X'.env) X'.env) (tB2 wi2 g2 tt2 (tB1 te)):=by
  rw[<-hX']
  exactλL hx=>Pr L (hi2 cs C fp s2 H2) (hg2 cs C fp s2 H2) (ht2 cs C fp s2 H2) (he cs C fp s2 H2) (hs2 _) hx
 have lfs:X'.Ok->l∉X'.fs:=λok hz=>by
  rw[eFs]at hz
  exact(Inv.nofs (X:=X) I2 hls) ((Zi.mp (I2.stkSub l hz)).elim (λz=>absurd I2.lt (by rw[<-z,hl];exact Nat.lt_irrefl _)) id)
 have hcl:∀x c,X'.env.cells.lookup x=some c->c≠l:=λx c e z=>by
  subst z
  obtain⟨v',ho',hd',hd''⟩:=I0.cell x c e
  have hl1':({ s2 with heap:=h1}:Shared).heap.get? c=some (aR [] 0):=hl1
  rw[hl1']at hd'
  cases hd'
  cases hd''
 have L:zA X' l:=⟨by rw[eL];exact hlC,lfs I0.ok,by rw[eS];exact hls,hcl,ePn,eX,eC⟩
 have hexl:∀b∈X'.ex,b≠l:=λb hb=>(hfl b (by rw[eEx]at hb;exact hb)).1
 have loop:∀s3:Shared,s3={ s2 with heap:=h1}->codeAny (model X.prog X.w) X.A (.compLoop (lc2 elt t1 i1 t2 i2 f1 f2 scope pos) 0 (.ref it) (.ref l) X'.env) (compPost (model X.prog X.w) X.A X.xe (some (assign (.Name x₀ px₀) X.env)) (λ_ s'=>SP X pins D .next s') (.ref l) C) s3:=by
  rintro s3 rfl
  rw[<-eP,<-eW,<-eA]
  have T':Turn X'.prog X'.w X'.K t1 J fp it tn:=by rw[eP,eW,eK];exact T
  have st:tn 0 h1:=T.keep _ _ _ st2 λb _ o e=>keep1 b o e
  have n2:H2 l=none:=I2.hok.fresh hls
  have I0p:Inv X' [(l,aR [] 0)] (bT own σ capI) H2 { s2 with heap:=h1}:=I0.pins_of λp hp=>by
   obtain rfl:p=(l,aR [] 0):=by simpa using hp
   exact⟨hl1,n2,L.ne,L.fs,λv z=>by cases z⟩
  have stat:∀b∈fp,jg X' [] H2 b:=λb hb=>by
   refine⟨(f2' b hb).1,?_,?_,.inl (by rw[eEx];exact hb),?_,λp hp=>?_⟩
   .exact(I0.ok.exf b (by rw[eEx];exact hb)).1
   .exact I0.ok.exfs b (by rw[eEx];exact hb)
   .exact(I0.ok.exf b (by rw[eEx];exact hb)).2
   .rw[ePn]at hp;exact absurd hp (by simp)
  refine qQ (us:=[]) (Q:=λys H=>ys.length<=sizeLine/\∀l,H l=none->yg i₀ (.ref l) σ (upd H l (.lst ys)) D.nx) Ei rfl rfl rfl L T' hg1' ht1' (hb' L hexl) (λp hp=>absurd hp (by simp)) (λb hb=>(hfl b hb).1) I0p st stat W m0 w0 turn ?_
  rintro ys us' k' H' s' v I' ⟨hz,q⟩
  have pl:=I'.pin (l,aR ([]++us') k') (by simp)
  obtain⟨m4,hn4,_⟩:=I'.loc
  rw[eL]at hn4
  have fC:H' C=none:=by have:=I'.free;rw[eL]at this;exact this
  have IE:Inv X pins σ (upd H' l (.lst ys)) s':=by
   have:=I2.compEnd f2' eP eW eFs eEx eS eH eL I' hls hlC hCs pl.1 pl.2.1 v hz (Heap.SameBut.refl C s'.heap)
   exact this
  rw[eP,eW,eA]
  show wpAny _ X.A (assign (.Name x₀ px₀) X.env (.ref l)) _ _ s'
  refine wpAny_assign_Name (pZ IE hN hi₀ hx₀ (v:=.ref l) rfl (λs5 I5 ⟨a,sa,ha⟩=>?_) hf₀)
  have hnL:C≠X.env.locals:=Nat.ne_of_gt (Zc I2.lt hCs)
  have hnc:∀y c,X.env.cells.lookup y=some c->c≠C:=λy c e=>by
   obtain⟨v,q⟩:=I2.cell y c e
   exact Zk (Zc q.lt hCs)
  have haC:C≠a:=by
   rcases ha with q|q
   .rw[q];exact hnL
   .exact Ne.symm (hnc _ _ q)
  obtain⟨o4,es',ep4,ho4,r4⟩:=hn4
  refine⟨m4,⟨o4,es',ep4,(sa.2 C haC).trans ho4,r4⟩,λh' sb=>⟨_,_,?_,q l pl.2.1⟩⟩
  refine I5.turned (t':=s5.toks) (it:=C) (λb o hb e=>(sb.2 b hb).trans e) (by rw[aM (Ne.symm hlC)];exact fC) hnL (.inr (Zl I2.sz hCs)) hnc λp hp=>?_
  exact Zk (Zc (Ze (I2.pin p hp).1) hCs)
 have T0:=T.keep 0 s2.heap h1 st2 λb _ o e=>keep1 b o e
 rw[henv2]
 exact codeAny_compStart_list (loop _ rfl) (T.self X.A 0 _ _ _ T0 (loop _ rfl))
end
end L2
namespace L3
open PySem PySem.Spec PyProof.Rows L2
inductive D where
 |non|bl (b:Bool)|int (i:Int)|str (x:Str)|tup (ds:List D)|lst (ds:List D)|ro (ds:List D)|dic (kvs:List (Key×D))|cell (n:Nat)
abbrev Mu:=List (Option (List D))
abbrev En:=List (Option D)
mutual
def aZ(K:PySem.W.Frag)(F:Hp)(ad:List Addr):D->V->Prop
 | .non,v=>v= .non
 | .bl b,v=>v= .bl b
 | .int i,v=>v= .int i
 | .str x,v=>v= .str x
 | .tup ds,v=>∃a xs,v= .ref a/\SqT K F a xs/\az K F ad ds xs
 | .lst ds,v=>∃a xs,v= .ref a/\F a=some (.lst xs)/\az K F ad ds xs
 | .ro ds,v=>∃a xs,v= .ref a/\SqL K F a xs/\az K F ad ds xs
 | .dic kvs,v=>∃a ps,v= .ref a/\F a=some (.dK ps)/\iJ K F ad kvs ps
 | .cell n,v=>∃a,v= .ref a/\ad[n]? =some a
def az(K:PySem.W.Frag)(F:Hp)(ad:List Addr):List D->List V->Prop
 | [],vs=>vs=[]
 |d::ds,vs=>∃u us,vs=u::us/\aZ K F ad d u/\az K F ad ds us
def iJ(K:PySem.W.Frag)(F:Hp)(ad:List Addr):List (Key×D)->List (Key×V)->Prop
 | [],vs=>vs=[]
 |p::ds,vs=>∃u us,vs=u::us/\(u.1=p.1/\aZ K F ad p.2 u.2)/\iJ K F ad ds us
end
def nJ(a b:List Addr):Prop:=∀(i:Nat) x,a[i]? =some x->b[i]? =some x
theorem nJ.refl(a:List Addr):nJ a a:=λ_ _ e=>e
theorem nJ.trans{a b c:List Addr}(x:nJ a b)(y:nJ b c):nJ a c:=λi z e=>y i z (x i z e)
theorem SqT.mono{K:PySem.W.Frag}{F F':Hp}{a:Addr}{xs:List V}(s:lN F F')(h:SqT K F a xs):SqT K F' a xs:=by
 rcases h with(h|⟨o,h⟩)|h
 .exact .inl (.inl (s _ _ h))
 .exact .inl (.inr ⟨o,s _ _ h⟩)
 .exact .inr h
theorem SqL.mono{K:PySem.W.Frag}{F F':Hp}{a:Addr}{xs:List V}(s:lN F F')(h:SqL K F a xs):SqL K F' a xs:=by
 rcases h with(h|⟨o,h⟩)|h
 .exact .inl (.inl (s _ _ h))
 .exact .inl (.inr ⟨o,s _ _ h⟩)
 .exact .inr h
section
variable {K:PySem.W.Frag} {F F':Hp} {ad ad':List Addr}
mutual
theorem aZ.mono(s:lN F F')(l:nJ ad ad'):∀(d:D)(v:V),aZ K F ad d v->aZ K F' ad' d v
 | .non,v,h=>by unfold aZ at h ⊢;exact h
 | .bl _,v,h=>by unfold aZ at h ⊢;exact h
 | .int _,v,h=>by unfold aZ at h ⊢;exact h
 | .str _,v,h=>by unfold aZ at h ⊢;exact h
 | .tup ds,v,h=>by
  unfold aZ at h ⊢
  obtain⟨a,xs,e,q,r⟩:=h
  exact⟨a,xs,e,SqT.mono s q,az.mono s l ds xs r⟩
 | .lst ds,v,h=>by
  unfold aZ at h ⊢
  obtain⟨a,xs,e,q,r⟩:=h
  exact⟨a,xs,e,s _ _ q,az.mono s l ds xs r⟩
 | .ro ds,v,h=>by
  unfold aZ at h ⊢
  obtain⟨a,xs,e,q,r⟩:=h
  exact⟨a,xs,e,SqL.mono s q,az.mono s l ds xs r⟩
 | .dic kvs,v,h=>by
  unfold aZ at h ⊢
  obtain⟨a,ps,e,q,r⟩:=h
  exact⟨a,ps,e,s _ _ q,iJ.mono s l kvs ps r⟩
 | .cell n,v,h=>by
  unfold aZ at h ⊢
  obtain⟨a,e,q⟩:=h
  exact⟨a,e,l _ _ q⟩
theorem az.mono(s:lN F F')(l:nJ ad ad'):∀(ds:List D)(vs:List V),az K F ad ds vs->az K F' ad' ds vs
 | [],vs,h=>by unfold az at h ⊢;exact h
 |d::ds,vs,h=>by
  unfold az at h ⊢
  obtain⟨u,us,e,p,r⟩:=h
  exact⟨u,us,e,aZ.mono s l d u p,az.mono s l ds us r⟩
theorem iJ.mono(s:lN F F')(l:nJ ad ad'):∀(ds:List (Key×D))(vs:List (Key×V)),iJ K F ad ds vs->iJ K F' ad' ds vs
 | [],vs,h=>by unfold iJ at h ⊢;exact h
 |p::ds,vs,h=>by
  unfold iJ at h ⊢
  obtain⟨u,us,e,⟨p1,p2⟩,r⟩:=h
  exact⟨u,us,e,⟨p1,aZ.mono s l p.2 u.2 p2⟩,iJ.mono s l ds us r⟩
end
theorem az.nil:az K F ad [] []:=by unfold az;rfl
theorem az.cons{d:D}{v:V}{ds:List D}{vs:List V}(h:aZ K F ad d v)(r:az K F ad ds vs):az K F ad (d::ds) (v::vs):=by unfold az;exact⟨v,vs,rfl,h,r⟩
theorem az.length:∀{ds:List D}{vs:List V},az K F ad ds vs->ds.length=vs.length
 | [],vs,h=>by unfold az at h;subst h;rfl
 |d::ds,vs,h=>by
  unfold az at h
  obtain⟨u,us,rfl,_,r⟩:=h
  rw[List.length_cons,List.length_cons,az.length r]
theorem az.get:∀{ds:List D}{vs:List V}{i:Nat}{d:D},az K F ad ds vs->ds[i]? =some d->∃v,vs[i]? =some v/\aZ K F ad d v
 | [],_,_,_,_,e=>by simp at e
 |d::ds,vs,0,x,h,e=>by
  unfold az at h
  obtain⟨u,us,rfl,p,r⟩:=h
  simp at e;subst e
  exact⟨u,rfl,p⟩
 |d::ds,vs,i+1,x,h,e=>by
  unfold az at h
  obtain⟨u,us,rfl,p,r⟩:=h
  obtain⟨v,e1,e2⟩:=az.get (i:=i) r (by simpa using e)
  exact⟨v,by simpa using e1,e2⟩
theorem az.append:∀{ds es:List D}{vs us:List V},az K F ad ds vs->az K F ad es us->az K F ad (ds++es) (vs++us)
 | [],es,vs,us,h,r=>by unfold az at h;subst h;exact r
 |d::ds,es,vs,us,h,r=>by
  unfold az at h
  obtain⟨u,ws,rfl,p,q⟩:=h
  exact az.cons p (az.append q r)
theorem az.drop:∀{ds:List D}{vs:List V}(n:Nat),az K F ad ds vs->az K F ad (ds.drop n) (vs.drop n)
 |ds,vs,0,h=>h
 | [],vs,n+1,h=>by unfold az at h;subst h;exact az.nil
 |d::ds,vs,n+1,h=>by
  unfold az at h
  obtain⟨u,ws,rfl,p,q⟩:=h
  exact az.drop n q
theorem az.take:∀{ds:List D}{vs:List V}(n:Nat),az K F ad ds vs->az K F ad (ds.take n) (vs.take n)
 |ds,vs,0,h=>az.nil
 | [],vs,n+1,h=>by unfold az at h;subst h;exact az.nil
 |d::ds,vs,n+1,h=>by
  unfold az at h
  obtain⟨u,ws,rfl,p,q⟩:=h
  exact az.cons p (az.take n q)
theorem az.two{d e:D}{vs:List V}(h:az K F ad [d,e] vs):∃u v,vs=[u,v]/\aZ K F ad d u/\aZ K F ad e v:=by
 unfold az at h
 obtain⟨u,us,rfl,p,h⟩:=h
 unfold az at h
 obtain⟨v,ws,rfl,q,h⟩:=h
 unfold az at h
 subst h
 exact⟨u,v,rfl,p,q⟩
theorem az.one{d:D}{vs:List V}(h:az K F ad [d] vs):∃u,vs=[u]/\aZ K F ad d u:=by
 unfold az at h
 obtain⟨u,us,rfl,p,h⟩:=h
 unfold az at h
 subst h
 exact⟨u,rfl,p⟩
theorem az.zero{vs:List V}(h:az K F ad [] vs):vs=[]:=by unfold az at h;exact h
end
structure Wd where
 H:Hp
 ad:List Addr
 mu:Mu
def nF(ad:List Addr)(mu:Mu)(b:Addr):Prop:=∃(i:Nat)(ds:List D),ad[i]? =some b/\mu[i]? =some (some ds)
open Classical in
noncomputable def Wd.fz(tb:List Addr)(W:Wd):Hp:=λb=>if nF W.ad W.mu b∨b∈tb then none else W.H b
abbrev Den(K:PySem.W.Frag)(tb:List Addr)(W:Wd):D->V->Prop:=aZ K (W.fz tb) W.ad
abbrev bV(K:PySem.W.Frag)(tb:List Addr)(W:Wd):List D->List V->Prop:=az K (W.fz tb) W.ad
structure WOk(K:PySem.W.Frag)(tb:List Addr)(W:Wd):Prop where
 len:W.ad.length=W.mu.length
 cont:∀(i:Nat) a ds,W.ad[i]? =some a->W.mu[i]? =some (some ds)->∃xs,W.H a=some (.lst xs)/\bV K tb W ds xs
 inj:∀(i j:Nat) a ds es,W.ad[i]? =some a->W.ad[j]? =some a->W.mu[i]? =some (some ds)->W.mu[j]? =some (some es)->i=j
 tab:∀P∈tb,∃ps,W.H P=some (.tbl ps)/\TOk W.H ps
structure Le(tb:List Addr)(W W':Wd):Prop where
 same:lN (W.fz tb) (W'.fz tb)
 ad:nJ W.ad W'.ad
theorem Le.refl{tb:List Addr}(W:Wd):Le tb W W:=⟨lN.refl _,nJ.refl _⟩
theorem Le.trans{tb:List Addr}{W W1 W2:Wd}(a:Le tb W W1)(b:Le tb W1 W2):Le tb W W2:=⟨a.same.trans b.same,a.ad.trans b.ad⟩
section
variable {K:PySem.W.Frag} {tb:List Addr} {W W':Wd} {d:D} {v:V} {ds:List D} {vs:List V}
theorem Den.mono'(h:Den K tb W d v)(l:Le tb W W'):Den K tb W' d v:=aZ.mono l.same l.ad d v h
theorem bV.mono'(h:bV K tb W ds vs)(l:Le tb W W'):bV K tb W' ds vs:=az.mono l.same l.ad ds vs h
theorem eQ{b:Addr}{o:HO}(h:W.fz tb b=some o):W.H b=some o/\¬nF W.ad W.mu b/\b∉tb:=by
 unfold Wd.fz at h
 split at h
 .cases h
 .rename_i q
  exact⟨h,λz=>q (.inl z),λz=>q (.inr z)⟩
theorem pO{b:Addr}(h1:¬nF W.ad W.mu b)(h2:b∉tb):W.fz tb b=W.H b:=by
 unfold Wd.fz
 rw[if_neg]
 rintro(z|z)
 .exact h1 z
 .exact h2 z
theorem SqT.fz{a:Addr}{xs:List V}(h:SqT K (W.fz tb) a xs):SqT K W.H a xs:=by
 rcases h with(h|⟨o,h⟩)|h
 .exact .inl (.inl (eQ h).1)
 .exact .inl (.inr ⟨o,(eQ h).1⟩)
 .exact .inr h
theorem SqL.fz{a:Addr}{xs:List V}(h:SqL K (W.fz tb) a xs):SqL K W.H a xs:=by
 rcases h with(h|⟨o,h⟩)|h
 .exact .inl (.inl (eQ h).1)
 .exact .inl (.inr ⟨o,(eQ h).1⟩)
 .exact .inr h
theorem WOk.live(ok:WOk K tb W){b:Addr}(h:nF W.ad W.mu b):∃xs,W.H b=some (.lst xs):=by
 obtain⟨i,ds,e1,e2⟩:=h
 obtain⟨xs,e,_⟩:=ok.cont i b ds e1 e2
 exact⟨xs,e⟩
theorem WOk.alloc(ok:WOk K tb W){p:Addr}{o:HO}(hp:W.H p=none):WOk K tb ⟨upd W.H p o,W.ad,W.mu⟩/\Le tb W ⟨upd W.H p o,W.ad,W.mu⟩/\(Wd.fz tb ⟨upd W.H p o,W.ad,W.mu⟩) p=some o:=by
 have nl:¬nF W.ad W.mu p:=λz=>by obtain⟨xs,e⟩:=ok.live z;rw[hp]at e;cases e
 have nt:p∉tb:=λz=>by obtain⟨ps,e,_⟩:=ok.tab p z;rw[hp]at e;cases e
 have le:Le tb W ⟨upd W.H p o,W.ad,W.mu⟩:=⟨λb u e=>by
  obtain⟨e1,e2,e3⟩:=eQ e
  have hb:b≠p:=cC e1 hp
  have q:=pO (tb:=tb) (W:=⟨upd W.H p o,W.ad,W.mu⟩) e2 e3
  rw[q]
  show upd W.H p o b=some u
  rw[aM hb];exact e1,nJ.refl _⟩
 refine⟨⟨ok.len,λi a ds e1 e2=>?_,ok.inj,λP hP=>?_⟩,le,?_⟩
 .obtain⟨xs,e,r⟩:=ok.cont i a ds e1 e2
  refine⟨xs,?_,bV.mono' r le⟩
  show upd W.H p o a=_
  rw[aM (cC e hp)];exact e
 .obtain⟨ps,e,r⟩:=ok.tab P hP
  refine⟨ps,?_,r.mono λc u q=>(aM (cC q hp)).trans q⟩
  show upd W.H p o P=_
  rw[aM (cC e hp)];exact e
 .have q:=pO (tb:=tb) (W:=⟨upd W.H p o,W.ad,W.mu⟩) nl nt
  rw[q];exact fK
theorem WOk.new(ok:WOk K tb W){p:Addr}(hp:W.H p=none)(r:bV K tb W ds vs):
  WOk K tb ⟨upd W.H p (.lst vs),W.ad++[p],W.mu++[some ds]⟩/\Le tb W ⟨upd W.H p (.lst vs),W.ad++[p],W.mu++[some ds]⟩/\Den K tb ⟨upd W.H p (.lst vs),W.ad++[p],W.mu++[some ds]⟩ (.cell W.mu.length) (.ref p):=by
 have adl:nJ W.ad (W.ad++[p]):=λi x e=>by
  rw[Zs (Zh.mp e).1];exact e
 have lv:∀b,nF (W.ad++[p]) (W.mu++[some ds]) b->nF W.ad W.mu b∨b=p:=λb zq1=>by
  obtain⟨i,es,e1,e2⟩:=zq1
  by_cases hi:i<W.ad.length
  .rw[Zs hi]at e1
   rw[Zs (by rw[<-ok.len];exact hi)]at e2
   exact .inl ⟨i,es,e1,e2⟩
  .rw[List.getElem?_append_right (Nat.le_of_not_lt hi)]at e1
   right
   have:(i-W.ad.length)=0:=by
    have:=(Zh.mp e1).1
    simp at this
    omega
   rw[this]at e1
   simpa using e1.symm
 have le:Le tb W ⟨upd W.H p (.lst vs),W.ad++[p],W.mu++[some ds]⟩:=⟨λb u e=>by
  obtain⟨e1,e2,e3⟩:=eQ e
  have hb:b≠p:=cC e1 hp
  have q:=pO (tb:=tb) (W:=⟨upd W.H p (.lst vs),W.ad++[p],W.mu++[some ds]⟩) (b:=b) (λz=>(lv b z).elim e2 hb) e3
  rw[q]
  show upd W.H p (.lst vs) b=some u
  rw[aM hb];exact e1,adl⟩
 refine⟨⟨by simp[ok.len],λi a es e1 e2=>?_,λi j a es fs e1 e2 e3 e4=>?_,λP hP=>?_⟩,le,?_⟩
 .by_cases hi:i<W.ad.length
  .have e1':W.ad[i]? =some a:=by rw[<-Zs (l₂:=[p]) hi];exact e1
   have e2':W.mu[i]? =some (some es):=by rw[<-Zs (l₂:=[some ds]) (by rw[<-ok.len];exact hi)];exact e2
   obtain⟨xs,e,q⟩:=ok.cont i a es e1' e2'
   refine⟨xs,?_,bV.mono' q le⟩
   show upd W.H p (.lst vs) a=_
   rw[aM (cC e hp)];exact e
  .have h0:i=W.ad.length:=by
    have h1:i<(W.ad++[p]).length:=(Zh.mp e1).1
    simp at h1
    omega
   have e1':(W.ad++[p])[i]? =some a:=e1
   have e2':(W.mu++[some ds])[i]? =some (some es):=e2
   rw[h0]at e1' e2'
   rw[ok.len]at e2'
   simp at e1' e2'
   subst e1' e2'
   exact⟨vs,fK,bV.mono' r le⟩
 .have old:∀(k:Nat) es,(W.ad++[p])[k]? =some a->(W.mu++[some ds])[k]? =some (some es)->(k<W.ad.length/\W.ad[k]? =some a/\W.mu[k]? =some (some es))∨(k=W.ad.length/\a=p):=λk es q1 q2=>by
   by_cases hk:k<W.ad.length
   .left
    refine⟨hk,?_,?_⟩
    .rw[<-Zs (l₂:=[p]) hk];exact q1
    .rw[<-Zs (l₂:=[some ds]) (by rw[<-ok.len];exact hk)];exact q2
   .right
    have h1:k<(W.ad++[p]).length:=(Zh.mp q1).1
    simp at h1
    have h0:k=W.ad.length:=by omega
    subst h0
    simp at q1
    exact⟨rfl,q1.symm⟩
  rcases old i es e1 e3 with⟨_,a1,a2⟩|⟨a1,a2⟩<;>rcases old j fs e2 e4 with⟨_,b1,b2⟩|⟨b1,b2⟩
  .exact ok.inj i j a es fs a1 b1 a2 b2
  .obtain⟨xs,e,_⟩:=ok.cont i a es a1 a2
   rw[b2,hp]at e;cases e
  .obtain⟨xs,e,_⟩:=ok.cont j a fs b1 b2
   rw[a2,hp]at e;cases e
  .rw[a1,b1]
 .obtain⟨ps,e,q⟩:=ok.tab P hP
  refine⟨ps,?_,q.mono λc u q=>(aM (cC q hp)).trans q⟩
  show upd W.H p (.lst vs) P=_
  rw[aM (cC e hp)];exact e
 .show aZ K _ _ (.cell W.mu.length) (.ref p)
  unfold aZ
  refine⟨p,rfl,?_⟩
  rw[<-ok.len]
  simp
theorem WOk.write(ok:WOk K tb W){i:Nat}{a:Addr}{es:List D}(e1:W.ad[i]? =some a)(e2:W.mu[i]? =some (some es))(r:bV K tb W ds vs):
  WOk K tb ⟨upd W.H a (.lst vs),W.ad,W.mu.set i (some ds)⟩/\Le tb W ⟨upd W.H a (.lst vs),W.ad,W.mu.set i (some ds)⟩:=by
 have hi:i<W.mu.length:=(Zh.mp e2).1
 have lv:∀b,nF W.ad (W.mu.set i (some ds)) b->nF W.ad W.mu b:=λb zq2=>by
  obtain⟨j,fs,q1,q2⟩:=zq2
  by_cases hj:i=j
  .subst hj;exact⟨i,es,q1,e2⟩
  .rw[List.getElem?_set_ne hj]at q2;exact⟨j,fs,q1,q2⟩
 have la:nF W.ad W.mu a:=⟨i,es,e1,e2⟩
 have le:Le tb W ⟨upd W.H a (.lst vs),W.ad,W.mu.set i (some ds)⟩:=⟨λb u e=>by
  obtain⟨p1,p2,p3⟩:=eQ e
  have hb:b≠a:=λz=>p2 (z▸la)
  have q:=pO (tb:=tb) (W:=⟨upd W.H a (.lst vs),W.ad,W.mu.set i (some ds)⟩) (b:=b) (λz=>p2 (lv b z)) p3
  rw[q]
  show upd W.H a (.lst vs) b=some u
  rw[aM hb];exact p1,nJ.refl _⟩
 refine⟨⟨by show W.ad.length=(W.mu.set i (some ds)).length;rw[List.length_set];exact ok.len,λj b fs q1 q2=>?_,λj k b fs gs q1 q2 q3 q4=>?_,λP hP=>?_⟩,le⟩
 .have q2':(W.mu.set i (some ds))[j]? =some (some fs):=q2
  by_cases hj:i=j
  .subst hj
   have q1':W.ad[i]? =some b:=q1
   rw[e1]at q1';cases q1'
   rw[List.getElem?_set_self hi]at q2'
   cases q2'
   exact⟨vs,fK,bV.mono' r le⟩
  .rw[List.getElem?_set_ne hj]at q2'
   obtain⟨xs,e,q⟩:=ok.cont j b fs q1 q2'
   refine⟨xs,?_,bV.mono' q le⟩
   show upd W.H a (.lst vs) b=_
   have hba:b≠a:=by
    intro z
    subst z
    exact hj (ok.inj i j b es fs e1 q1 e2 q2')
   rw[aM hba];exact e
 .have up:∀(j:Nat) fs,(W.mu.set i (some ds))[j]? =some (some fs)->∃gs,W.mu[j]? =some (some gs):=λj fs q=>by
   by_cases hj:i=j
   .subst hj;exact⟨es,e2⟩
   .rw[List.getElem?_set_ne hj]at q;exact⟨fs,q⟩
  obtain⟨fs',q3'⟩:=up j fs q3
  obtain⟨gs',q4'⟩:=up k gs q4
  exact ok.inj j k b fs' gs' q1 q2 q3' q4'
 .obtain⟨ps,e,q⟩:=ok.tab P hP
  obtain⟨xs,ea,_⟩:=ok.cont i a es e1 e2
  refine⟨ps,?_,q.mono λc u q=>(aM (CV q ea (by intro z;cases z))).trans q⟩
  show upd W.H a (.lst vs) P=_
  rw[aM (CV e ea (by intro z;cases z))];exact e
theorem WOk.freeze(ok:WOk K tb W){i:Nat}{a:Addr}{es:List D}(e1:W.ad[i]? =some a)(e2:W.mu[i]? =some (some es)):
  WOk K tb ⟨W.H,W.ad,W.mu.set i none⟩/\Le tb W ⟨W.H,W.ad,W.mu.set i none⟩/\Den K tb ⟨W.H,W.ad,W.mu.set i none⟩ (.lst es) (.ref a):=by
 have hi:i<W.mu.length:=(Zh.mp e2).1
 have up:∀(j:Nat) fs,(W.mu.set i none)[j]? =some (some fs)->i≠j/\W.mu[j]? =some (some fs):=λj fs q=>by
  by_cases hj:i=j
  .subst hj;rw[List.getElem?_set_self hi]at q;cases q
  .rw[List.getElem?_set_ne hj]at q;exact⟨hj,q⟩
 have lv:∀b,nF W.ad (W.mu.set i none) b->nF W.ad W.mu b:=λb ⟨j,fs,q1,q2⟩=>⟨j,fs,q1,(up j fs q2).2⟩
 have le:Le tb W ⟨W.H,W.ad,W.mu.set i none⟩:=⟨λb u e=>by
  obtain⟨p1,p2,p3⟩:=eQ e
  have q:=pO (tb:=tb) (W:=⟨W.H,W.ad,W.mu.set i none⟩) (b:=b) (λz=>p2 (lv b z)) p3
  rw[q];exact p1,nJ.refl _⟩
 obtain⟨xs,ea,ra⟩:=ok.cont i a es e1 e2
 refine⟨⟨by show W.ad.length=(W.mu.set i none).length;rw[List.length_set];exact ok.len,λj b fs q1 q2=>?_,λj k b fs gs q1 q2 q3 q4=>?_,ok.tab⟩,le,?_⟩
 .obtain⟨xs,e,q⟩:=ok.cont j b fs q1 (up j fs q2).2
  exact⟨xs,e,bV.mono' q le⟩
 .exact ok.inj j k b fs gs q1 q2 (up j fs q3).2 (up k gs q4).2
 .show aZ K _ _ (.lst es) (.ref a)
  unfold aZ
  refine⟨a,xs,rfl,?_,bV.mono' ra le⟩
  have nl:¬nF W.ad (W.mu.set i none) a:=λzq3=>by
   obtain⟨j,fs,q1,q2⟩:=zq3
   obtain⟨hj,q⟩:=up j fs q2
   exact hj (ok.inj i j a es fs e1 q1 e2 q)
  have nt:a∉tb:=λz=>by
   obtain⟨ps,e,_⟩:=ok.tab a z
   rw[ea]at e;cases e
  have q:=pO (tb:=tb) (W:=⟨W.H,W.ad,W.mu.set i none⟩) nl nt
  rw[q];exact ea
theorem WOk.tbl(ok:WOk K tb W){P:Addr}{lo:Nat}{ps ps':Array Value}{H':Hp}(hP:P∈tb)(e:W.H P=some (.tbl ps))(hG:Kr lo P ps ps' W.H H'):
  WOk K tb ⟨H',W.ad,W.mu⟩/\Le tb W ⟨H',W.ad,W.mu⟩:=by
 have le:Le tb W ⟨H',W.ad,W.mu⟩:=⟨λb u q=>by
  obtain⟨p1,p2,p3⟩:=eQ q
  have q:=pO (tb:=tb) (W:=⟨H',W.ad,W.mu⟩) (b:=b) p2 p3
  rw[q]
  exact hG.keep b u (λz=>p3 (z▸hP)) p1,nJ.refl _⟩
 refine⟨⟨ok.len,λi a ds e1 e2=>?_,ok.inj,λQ hQ=>?_⟩,le⟩
 .obtain⟨xs,ea,r⟩:=ok.cont i a ds e1 e2
  exact⟨xs,hG.keep a _ (CV ea e (by intro z;cases z)) ea,bV.mono' r le⟩
 .by_cases hq:Q=P
  .subst hq;exact⟨ps',hG.tab,hG.ok⟩
  .obtain⟨qs,e',r⟩:=ok.tab Q hQ
   exact⟨qs,hG.keep Q _ hq e',r.mono λc u q=>hG.keep c _ (CV q e (by intro z;cases z)) q⟩
end
abbrev SV:=L2.St
abbrev EF:=En->Mu->Option (D×Mu)
abbrev AF:=En->Mu->Option (List D×Mu)
abbrev TF:=En->Mu->Option (Bool×Mu)
inductive Fl where
 |nx|bk|ct|rt (d:D)
abbrev SF:=En->Mu->Option (Fl×En×Mu)
def iM(K:PySem.W.Frag)(tb:List Addr)(W:Wd)(δ:En)(σ:SV):Prop:=δ.length=σ.length/\∀(i:Nat) d,δ[i]? =some (some d)->∃v,σ[i]? =some (some v)/\Den K tb W d v
section
variable {K:PySem.W.Frag} {tb:List Addr} {W W':Wd} {δ:En} {σ:SV}
theorem iM.mono'(h:iM K tb W δ σ)(l:Le tb W W'):iM K tb W' δ σ:=⟨h.1,λi d e=>let⟨v,e1,e2⟩:=h.2 i d e;⟨v,e1,Den.mono' e2 l⟩⟩
theorem iM.set(h:iM K tb W δ σ){i:Nat}{d:D}{v:V}(r:Den K tb W d v):iM K tb W (δ.set i (some d)) (σ.set i (some v)):=by
 refine⟨by rw[List.length_set,List.length_set];exact h.1,λj e q=>?_⟩
 by_cases hj:i=j
 .subst hj
  have hi:i<δ.length:=by
   have:=(Zh.mp q).1
   rwa[List.length_set]at this
  rw[List.getElem?_set_self hi]at q
  cases q
  exact⟨v,by rw[List.getElem?_set_self (by rw[<-h.1];exact hi)],r⟩
 .rw[List.getElem?_set_ne hj]at q ⊢
  exact h.2 j e q
end
def tD(K:PySem.W.Frag)(tb:List Addr)(f:EF):TE:=λσ H Q=>∃W δ d μ',W.H=H/\WOk K tb W/\iM K tb W δ σ/\f δ W.mu=some (d,μ')/\
 ∀v W',WOk K tb W'->Le tb W W'->W'.mu=μ'->Den K tb W' d v->Q v W'.H
def tDA(K:PySem.W.Frag)(tb:List Addr)(f:AF):TA:=λσ H Q=>∃W δ ds μ',W.H=H/\WOk K tb W/\iM K tb W δ σ/\f δ W.mu=some (ds,μ')/\
 ∀vs W',WOk K tb W'->Le tb W W'->W'.mu=μ'->bV K tb W' ds vs->Q vs W'.H
def tDT(K:PySem.W.Frag)(tb:List Addr)(f:TF):TT:=λσ H Q=>∃W δ b μ',W.H=H/\WOk K tb W/\iM K tb W δ σ/\f δ W.mu=some (b,μ')/\
 ∀W',WOk K tb W'->Le tb W W'->W'.mu=μ'->Q b W'.H
def EndD(K:PySem.W.Frag)(tb:List Addr)(E:Ends)(fl:Fl)(σ:SV)(W:Wd):Prop:=match fl with
 | .nx=>E.nx σ W.H
 | .bk=>E.bk σ W.H
 | .ct=>E.ct σ W.H
 | .rt d=>∀v,Den K tb W d v->E.rt v W.H
def tDS(K:PySem.W.Frag)(tb:List Addr)(g:SF):TS:=λE σ H=>∃W δ fl δ' μ',W.H=H/\WOk K tb W/\iM K tb W δ σ/\g δ W.mu=some (fl,δ',μ')/\
 ∀σ' W',WOk K tb W'->Le tb W W'->W'.mu=μ'->iM K tb W' δ' σ'->EndD K tb E fl σ' W'
def PD(X:Cx)(tb:List Addr)(e:Expr)(f:EF):Prop:=PE X e (tD X.K tb f)
def PAD(X:Cx)(tb:List Addr)(es:List Expr)(f:AF):Prop:=PA X es (tDA X.K tb f)
def PTD(X:Cx)(tb:List Addr)(e:Expr)(f:TF):Prop:=PT X e (tDT X.K tb f)
def PWD(X:Cx)(tb:List Addr)(e:Expr)(f:TF):Prop:=PW X e (tDT X.K tb f)
def PSD(X:Cx)(tb:List Addr)(st:Stmt)(g:SF):Prop:=PS X st (tDS X.K tb g)
def uP(X:Cx)(tb:List Addr)(st:List Stmt)(g:SF):Prop:=PSs X st (tDS X.K tb g)
theorem fY{X:Cx}{e:Expr}{t t':TE}(h:PE X e t)(k:∀σ H Q,t' σ H Q->t σ H Q):PE X e t':=λpins s σ H Q I hq=>h pins s σ H Q I (k σ H Q hq)
theorem Gd{X:Cx}{e:List Expr}{t t':TA}(h:PA X e t)(k:∀σ H Q,t' σ H Q->t σ H Q):PA X e t':=λpos pins s σ H Q I hq=>h pos pins s σ H Q I (k σ H Q hq)
theorem HQ{X:Cx}{e:Expr}{t t':TT}(h:PT X e t)(k:∀σ H Q,t' σ H Q->t σ H Q):PT X e t':=λpins s σ H Q I hq=>h pins s σ H Q I (k σ H Q hq)
theorem Ni{X:Cx}{e:Expr}{t t':TT}(h:PW X e t)(k:∀σ H Q,t' σ H Q->t σ H Q):PW X e t':=λwh pins s σ H Q I hq=>h wh pins s σ H Q I (k σ H Q hq)
theorem jV{X:Cx}{e:Stmt}{t t':TS}(h:PS X e t)(k:∀E σ H,t' E σ H->t E σ H):PS X e t':=λpins s σ H E I hq=>h pins s σ H E I (k E σ H hq)
theorem Gy{X:Cx}{e:List Stmt}{t t':TS}(h:PSs X e t)(k:∀E σ H,t' E σ H->t E σ H):PSs X e t':=λpins s σ H E I hq=>h pins s σ H E I (k E σ H hq)
def ak(i:Nat):EF:=λδ μ=>match δ[i]? with
 |some (some d)=>some (d,μ)
 |_=>none
def mC(d:D):EF:=λ_ μ=>some (d,μ)
def M1(fa:EF)(op:D->Mu->Option (D×Mu)):EF:=λδ μ=>(fa δ μ).bind λr=>op r.1 r.2
def M2(fa fb:EF)(op:D->D->Mu->Option (D×Mu)):EF:=λδ μ=>(fa δ μ).bind λr=>(fb δ r.2).bind λq=>op r.1 q.1 q.2
def aC:AF:=λ_ μ=>some ([],μ)
def ao(f:EF)(fs:AF):AF:=λδ μ=>(f δ μ).bind λr=>(fs δ r.2).bind λq=>some (r.1::q.1,q.2)
def MC(fs:AF)(op:List D->Mu->Option (D×Mu)):EF:=λδ μ=>(fs δ μ).bind λr=>op r.1 r.2
def RD1(K:PySem.W.Frag)(tb:List Addr)(r:V->Hp->VK->Prop)(op:D->Mu->Option (D×Mu)):Prop:=∀(W:Wd)(x:D)(v:V)(d:D)(μ':Mu)(Q:VK),WOk K tb W->Den K tb W x v->op x W.mu=some (d,μ')->
 (∀v W',WOk K tb W'->Le tb W W'->W'.mu=μ'->Den K tb W' d v->Q v W'.H)->r v W.H Q
def RD2(K:PySem.W.Frag)(tb:List Addr)(r:R2)(op:D->D->Mu->Option (D×Mu)):Prop:=∀(W:Wd)(x y:D)(v u:V)(d:D)(μ':Mu)(Q:VK),WOk K tb W->Den K tb W x v->Den K tb W y u->op x y W.mu=some (d,μ')->
 (∀v W',WOk K tb W'->Le tb W W'->W'.mu=μ'->Den K tb W' d v->Q v W'.H)->r v u W.H Q
def RDN(K:PySem.W.Frag)(tb:List Addr)(r:List V->Hp->VK->Prop)(op:List D->Mu->Option (D×Mu)):Prop:=∀(W:Wd)(xs:List D)(vs:List V)(d:D)(μ':Mu)(Q:VK),WOk K tb W->bV K tb W xs vs->op xs W.mu=some (d,μ')->
 (∀v W',WOk K tb W'->Le tb W W'->W'.mu=μ'->Den K tb W' d v->Q v W'.H)->r vs W.H Q
section
variable {K:PySem.W.Frag} {tb:List Addr}
theorem put{W:Wd}{Q:VK}{d:D}{v:V}(ok:WOk K tb W)(h:∀v W',WOk K tb W'->Le tb W W'->W'.mu=W.mu->Den K tb W' d v->Q v W'.H)(r:Den K tb W d v):Q v W.H:=h v W ok (Le.refl _) rfl r
theorem dW{W:Wd}{i:Int}:Den K tb W (.int i) (.int i):=by show aZ _ _ _ _ _;unfold aZ;rfl
theorem eO{W:Wd}{b:Bool}:Den K tb W (.bl b) (.bl b):=by show aZ _ _ _ _ _;unfold aZ;rfl
theorem sy{W:Wd}:Den K tb W .non .non:=by show aZ _ _ _ _ _;unfold aZ;rfl
theorem JG{W:Wd}{x:Str}:Den K tb W (.str x) (.str x):=by show aZ _ _ _ _ _;unfold aZ;rfl
theorem bf{W:Wd}{i:Int}{v:V}(h:Den K tb W (.int i) v):v= .int i:=by have h:aZ _ _ _ _ _:=h;unfold aZ at h;exact h
theorem ir{W:Wd}{b:Bool}{v:V}(h:Den K tb W (.bl b) v):v= .bl b:=by have h:aZ _ _ _ _ _:=h;unfold aZ at h;exact h
theorem kj{W:Wd}{v:V}(h:Den K tb W .non v):v= .non:=by have h:aZ _ _ _ _ _:=h;unfold aZ at h;exact h
theorem jX{W:Wd}{x:Str}{v:V}(h:Den K tb W (.str x) v):v= .str x:=by have h:aZ _ _ _ _ _:=h;unfold aZ at h;exact h
theorem iB{W:Wd}{ds:List D}{v:V}(h:Den K tb W (.tup ds) v):∃a xs,v= .ref a/\SqT K (W.fz tb) a xs/\bV K tb W ds xs:=by have h:aZ _ _ _ _ _:=h;unfold aZ at h;exact h
theorem sE{W:Wd}{ds:List D}{v:V}(h:Den K tb W (.lst ds) v):∃a xs,v= .ref a/\W.fz tb a=some (.lst xs)/\bV K tb W ds xs:=by have h:aZ _ _ _ _ _:=h;unfold aZ at h;exact h
theorem mL{W:Wd}{ds:List D}{v:V}(h:Den K tb W (.lst ds) v):∃a xs,v= .ref a/\SqL K (W.fz tb) a xs/\bV K tb W ds xs:=let⟨a,xs,e,q,r⟩:=sE h;⟨a,xs,e,SqL.of q,r⟩
theorem uW{W:Wd}{ds:List D}{v:V}(h:Den K tb W (.ro ds) v):∃a xs,v= .ref a/\SqL K (W.fz tb) a xs/\bV K tb W ds xs:=by have h:aZ _ _ _ _ _:=h;unfold aZ at h;exact h
theorem Ja{W:Wd}{kvs:List (Key×D)}{v:V}(h:Den K tb W (.dic kvs) v):∃a ps,v= .ref a/\W.fz tb a=some (.dK ps)/\iJ K (W.fz tb) W.ad kvs ps:=by have h:aZ _ _ _ _ _:=h;unfold aZ at h;exact h
theorem gZ{W:Wd}{n:Nat}{v:V}(h:Den K tb W (.cell n) v):∃a,v= .ref a/\W.ad[n]? =some a:=by have h:aZ _ _ _ _ _:=h;unfold aZ at h;exact h
theorem ni{W:Wd}{Q:VK}{ds:List D}{vs:List V}{p:Addr}(ok:WOk K tb W)(h:∀v W',WOk K tb W'->Le tb W W'->W'.mu=W.mu->Den K tb W' (.tup ds) v->Q v W'.H)(r:bV K tb W ds vs)(hp:W.H p=none):Q (.ref p) (upd W.H p (.tup vs)):=by
 obtain⟨ok',le,e⟩:=ok.alloc (o:=.tup vs) hp
 refine h (.ref p) _ ok' le rfl ?_
 show aZ _ _ _ _ _
 unfold aZ
 exact⟨p,vs,rfl,.inl (.inl e),bV.mono' r le⟩
theorem jk{W:Wd}{Q:VK}{ds:List D}{vs:List V}{p:Addr}(ok:WOk K tb W)(h:∀v W',WOk K tb W'->Le tb W W'->W'.mu=W.mu->Den K tb W' (.lst ds) v->Q v W'.H)(r:bV K tb W ds vs)(hp:W.H p=none):Q (.ref p) (upd W.H p (.lst vs)):=by
 obtain⟨ok',le,e⟩:=ok.alloc (o:=.lst vs) hp
 refine h (.ref p) _ ok' le rfl ?_
 show aZ _ _ _ _ _
 unfold aZ
 exact⟨p,vs,rfl,e,bV.mono' r le⟩
end
section
variable {X:Cx} {tb:List Addr} {a b c e:Expr} {fa fb fc f:EF} {pos:Pos}
theorem Nz{i:Nat}{x:Str}(hN:X.N[i]? =some x)(hv:Vis X.env.scope x)(hd:(x==("__debug__":Str))=false:=by decide)(hcd:(x==("__classdict__":Str))=false:=by decide):PD X tb (.Name x pos) (ak i):=
 fY (QX hN hv hd hcd) λσ H Q zq1=>by
  obtain⟨W,δ,d,μ',e,ok,hd,hf,h⟩:=zq1
  subst e
  unfold ak at hf
  split at hf
  .rename_i d' e
   cases hf
   obtain⟨v,ev,r⟩:=hd.2 i _ e
   exact⟨v,ev,put ok h r⟩
  .cases hf
theorem tR{d:D}{v:V}(hp:PE X e (tC v))(hd:∀W,Den X.K tb W d v):PD X tb e (mC d):=
 fY hp λσ H Q zq2=>by
  obtain⟨W,δ,d',μ',e,ok,_,hf,h⟩:=zq2
  subst e
  cases hf
  exact put ok h (hd W)
theorem aB{i j}:PD X tb (.Constant (.int i) j pos) (mC (.int i)):=tR Ge λ_=>dW
theorem lJ{i j}:PD X tb (.Constant (.bool i) j pos) (mC (.bl i)):=tR Tv λ_=>eO
theorem oH{j}:PD X tb (.Constant .none j pos) (mC .non):=tR PX λ_=>sy
theorem Nx{r:V->Hp->VK->Prop}{op:D->Mu->Option (D×Mu)}(hp:∀ta,PE X a ta->PE X e (tUn r ta))(ho:RD1 X.K tb r op)(ha:PD X tb a fa):PD X tb e (M1 fa op):=
 fY (hp _ ha) λσ H Q zq3=>by
  obtain⟨W,δ,d,μ',e,ok,hd,hf,h⟩:=zq3
  unfold M1 at hf
  obtain⟨⟨x,μ1⟩,e1,e2⟩:=Za.mp hf
  exact⟨W,δ,x,μ1,e,ok,hd,e1,λv W1 ok1 l1 m1 d1=>ho W1 x v d μ' Q ok1 d1 (by rw[m1];exact e2) λv' W' ok' l' m' d'=>h v' W' ok' (l1.trans l') m' d'⟩
theorem Ai{r:R2}{op:D->D->Mu->Option (D×Mu)}(hp:∀ta tb,PE X a ta->PE X b tb->PE X e (tOp r ta tb))(ho:RD2 X.K tb r op)(ha:PD X tb a fa)(hb:PD X tb b fb):PD X tb e (M2 fa fb op):=
 fY (hp _ _ ha hb) λσ H Q zq4=>by
  obtain⟨W,δ,d,μ',e,ok,hd,hf,h⟩:=zq4
  unfold M2 at hf
  obtain⟨⟨x,μ1⟩,e1,hf⟩:=Za.mp hf
  obtain⟨⟨y,μ2⟩,e2,e3⟩:=Za.mp hf
  refine⟨W,δ,x,μ1,e,ok,hd,e1,λv W1 ok1 l1 m1 d1=>⟨W1,δ,y,μ2,rfl,ok1,hd.mono' l1,(by rw[m1];exact e2),λu W2 ok2 l2 m2 d2=>?_⟩⟩
  exact ho W2 x y v u d μ' Q ok2 (Den.mono' d1 l2) d2 (by rw[m2];exact e3) λv' W' ok' l' m' d'=>h v' W' ok' ((l1.trans l2).trans l') m' d'
theorem aq:PAD X tb [] aC:=Gd Bt λσ H Q zq5=>by
 obtain⟨W,δ,d,μ',e,ok,hd,hf,h⟩:=zq5
 subst e;cases hf
 exact h [] W ok (Le.refl _) rfl az.nil
theorem aj{es:List Expr}{fs:AF}(ha:PD X tb e f)(hr:PAD X tb es fs)(hs:starEach (e::es) X.env=(false,eval e X.env)::starEach es X.env:=by rfl):PAD X tb (e::es) (ao f fs):=
 Gd (rW ha hr hs) λσ H Q zq6=>by
  obtain⟨W,δ,ds,μ',e,ok,hd,hf,h⟩:=zq6
  unfold ao at hf
  obtain⟨⟨x,μ1⟩,e1,hf⟩:=Za.mp hf
  obtain⟨⟨xs,μ2⟩,e2,e3⟩:=Za.mp hf
  cases e3
  refine⟨W,δ,x,μ1,e,ok,hd,e1,λv W1 ok1 l1 m1 d1=>⟨W1,δ,xs,_,rfl,ok1,hd.mono' l1,(by rw[m1];exact e2),λvs W2 ok2 l2 m2 d2=>?_⟩⟩
  exact h (v::vs) W2 ok2 (l1.trans l2) m2 (az.cons (Den.mono' d1 l2) d2)
theorem Eh{es:List Expr}{fs:AF}{r:List V->Hp->VK->Prop}{op:List D->Mu->Option (D×Mu)}(hp:∀ta,PA X es ta->PE X e (tCB r ta))(ho:RDN X.K tb r op)(ha:PAD X tb es fs):PD X tb e (MC fs op):=
 fY (hp _ ha) λσ H Q zq7=>by
  obtain⟨W,δ,d,μ',e,ok,hd,hf,h⟩:=zq7
  unfold MC at hf
  obtain⟨⟨x,μ1⟩,e1,e2⟩:=Za.mp hf
  exact⟨W,δ,x,μ1,e,ok,hd,e1,λv W1 ok1 l1 m1 d1=>ho W1 x v d μ' Q ok1 d1 (by rw[m1];exact e2) λv' W' ok' l' m' d'=>h v' W' ok' (l1.trans l') m' d'⟩
def oTup(ds:List D)(μ:Mu):Option (D×Mu):=if ds.length<=sizeLine then some (.tup ds,μ)else none
def oLst(ds:List D)(μ:Mu):Option (D×Mu):=if ds.length<=sizeLine then some (.lst ds,μ)else none
theorem kI{es:List Expr}{fs:AF}{x1}(h:PAD X tb es fs):PD X tb (.Tuple es x1 pos) (MC fs oTup):=
 Eh (r:=λxs H Q=>xs.length<=sizeLine/\∀p,H p=none->Q (.ref p) (upd H p (.tup xs))) (λta h=>NB h) (λW xs vs d μ' Q ok r ho h=>by
  unfold oTup at ho
  split at ho
  .rename_i hl
   cases ho
   exact⟨by rw[<-az.length r];exact hl,λp hp=>ni ok h r hp⟩
  .cases ho) h
theorem jy{es:List Expr}{fs:AF}(h:PAD X tb es fs):PD X tb (.List es pos) (MC fs oLst):=
 Eh (r:=λxs H Q=>xs.length<=sizeLine/\∀p,H p=none->Q (.ref p) (upd H p (.lst xs))) (λta h=>GD h) (λW xs vs d μ' Q ok r ho h=>by
  unfold oLst at ho
  split at ho
  .rename_i hl
   cases ho
   exact⟨by rw[<-az.length r];exact hl,λp hp=>jk ok h r hp⟩
  .cases ho) h
def rF:D->Mu->Option Bool
 | .bl b,_=>some b
 | .int i,_=>some (i != 0)
 | .non,_=>some false
 | .tup ds,_=>some !ds.isEmpty
 | .lst ds,_=>some !ds.isEmpty
 | .cell n,μ=>match μ[n]? with
  |some (some ds)=>some !ds.isEmpty
  |_=>none
 |_,_=>none
end
section
variable {K:PySem.W.Frag} {tb:List Addr}
theorem Kz{W:Wd}{x:D}{v:V}{k:Bool}(ok:WOk K tb W)(h:Den K tb W x v)(e:rF x W.mu=some k):Nv K v W.H k:=by
 cases x with
 |non=>rw[kj h];cases e;rfl
 |bl b=>rw[ir h];cases e;rfl
 |int i=>rw[bf h];cases e;rfl
 |str y=>cases e
 |dic y=>cases e
 |ro y=>cases e
 |tup ds=>
  obtain⟨a,xs,rfl,q,r⟩:=iB h
  cases e
  refine .inr (.inl ⟨xs,SqT.fz q,?_⟩)
  have:=az.length r
  cases ds<;>cases xs<;>simp_all
 |lst ds=>
  obtain⟨a,xs,rfl,q,r⟩:=mL h
  cases e
  refine .inl ⟨xs,SqL.fz q,?_⟩
  have:=az.length r
  cases ds<;>cases xs<;>simp_all
 |cell n=>
  obtain⟨a,rfl,q⟩:=gZ h
  have e':(match W.mu[n]? with|some (some ds)=>some !ds.isEmpty|_=>none)=some k:=e
  cases e2:W.mu[n]? with
  |none=>rw[e2]at e';cases e'
  |some o=>
   cases o with
   |none=>rw[e2]at e';cases e'
   |some ds=>
    rw[e2]at e'
    have e'':some (!ds.isEmpty)=some k:=e'
    cases e''
    obtain⟨xs,e3,r⟩:=ok.cont n a ds q e2
    refine .inl ⟨xs,SqL.of e3,?_⟩
    have:=az.length r
    cases ds<;>cases xs<;>simp_all
end
section
variable {X:Cx} {tb:List Addr} {a b c e:Expr} {fa fb fc f:EF} {ta tc:TF} {pos:Pos}
def nu(f:EF):TF:=λδ μ=>(f δ μ).bind λr=>(rF r.1 r.2).map λk=>(k,r.2)
theorem jd(h:PD X tb e f)(he:∀whole,isTrue e X.env whole=(do let v<-whole;standAt e.pos;holding [v] (truthy v)):=by intro _;rfl):PTD X tb e (nu f):=
 HQ (Fp h he) λσ H Q zq1=>by
  obtain⟨W,δ,k,μ',e,ok,hd,hf,h⟩:=zq1
  unfold nu at hf
  obtain⟨⟨x,μ1⟩,e1,e2⟩:=Za.mp hf
  obtain⟨k',e3,e4⟩:=Zp.mp e2
  cases e4
  exact⟨W,δ,x,_,e,ok,hd,e1,λv W1 ok1 l1 m1 d1=>⟨k,Kz ok1 d1 (by rw[m1];exact e3),h W1 ok1 l1 m1⟩⟩
structure OpD(X:Cx)(tb:List Addr)(sem:Value->Value->Sem Value)(op:D->D->Mu->Option (D×Mu)):Prop where
 ex:∃r,OpR X sem r/\RD2 X.K tb r op
theorem aH{o:Operator}{op:D->D->Mu->Option (D×Mu)}(ho:OpD X tb (binaryOp o) op)(ha:PD X tb a fa)(hb:PD X tb b fb):PD X tb (.BinOp a o b pos) (M2 fa fb op):=by
 obtain⟨r,h1,h2⟩:=ho.ex
 exact Ai (λta tb ha hb=>Sq h1 ha hb) h2 ha hb
theorem ux{o:CmpOp}{op:D->D->Mu->Option (D×Mu)}(ho:OpD X tb (compareOp o) op)(ha:PD X tb a fa)(hb:PD X tb b fb)(hm:behindInMarks o b=false:=by first|exact yD _ (by decide) (by decide)|rfl):PD X tb (.Compare a [o] [b] pos) (M2 fa fb op):=by
 obtain⟨r,h1,h2⟩:=ho.ex
 exact Ai (λta tb ha hb=>Lb h1 ha hb hm) h2 ha hb
def toB(f:EF):TF:=λδ μ=>(f δ μ).bind λr=>match r.1 with
 | .bl k=>some (k,r.2)
 |_=>none
theorem aY{o:CmpOp}{op:D->D->Mu->Option (D×Mu)}(ho:OpD X tb (compareOp o) op)(ha:PD X tb a fa)(hb:PD X tb b fb)(hm:behindInMarks o b=false:=by first|exact yD _ (by decide) (by decide)|rfl):PTD X tb (.Compare a [o] [b] pos) (toB (M2 fa fb op)):=by
 obtain⟨r,h1,h2⟩:=ho.ex
 refine HQ (La h1 ha hb hm) λσ H Q zq2=>?_
 obtain⟨W,δ,k,μ',e,ok,hd,hf,h⟩:=zq2
 unfold toB at hf
 obtain⟨⟨z,μz⟩,hf,ez⟩:=Za.mp hf
 unfold M2 at hf
 obtain⟨⟨x,μ1⟩,e1,hf⟩:=Za.mp hf
 obtain⟨⟨y,μ2⟩,e2,e3⟩:=Za.mp hf
 cases z with
 |bl k'=>
  cases ez
  refine⟨W,δ,x,μ1,e,ok,hd,e1,λv W1 ok1 l1 m1 d1=>⟨W1,δ,y,μ2,rfl,ok1,hd.mono' l1,(by rw[m1];exact e2),λu W2 ok2 l2 m2 d2=>?_⟩⟩
  refine h2 W2 x y v u _ _ _ ok2 (Den.mono' d1 l2) d2 (by rw[m2];exact e3) λv' W' ok' l' m' d'=>?_
  exact⟨k,ir d',h W' ok' ((l1.trans l2).trans l') m'⟩
 |_=>cases ez
def MCh(fa fb fc:EF)(op op':D->D->Mu->Option (D×Mu)):EF:=λδ μ=>(fa δ μ).bind λr=>(fb δ r.2).bind λq=>(op r.1 q.1 q.2).bind λz=>match z.1 with
 | .bl true=>(fc δ z.2).bind λt=>op' q.1 t.1 t.2
 | .bl false=>some (.bl false,z.2)
 |_=>none
def nM(ta tc:TF):TF:=λδ μ=>(ta δ μ).bind λr=>if r.1=true then tc δ r.2 else some (false,r.2)
def rB(ta tc:TF):TF:=λδ μ=>(ta δ μ).bind λr=>if r.1=true then some (true,r.2)else tc δ r.2
def pN(ta:TF):TF:=λδ μ=>(ta δ μ).bind λr=>some (!r.1,r.2)
theorem yO(ha:PTD X tb a ta):PWD X tb (.BoolOp .And [a] pos) ta:=Jq ha
theorem rM(ha:PTD X tb a ta):PWD X tb (.BoolOp .Or [a] pos) ta:=QH ha
theorem Dd{rest:List Expr}(ha:PTD X tb a ta)(hb:PWD X tb (.BoolOp .And (b::rest) pos) tc):PWD X tb (.BoolOp .And (a::b::rest) pos) (nM ta tc):=
 Ni (Qu ha hb) λσ H Q zq4=>by
  obtain⟨W,δ,k,μ',e,ok,hd,hf,h⟩:=zq4
  unfold nM at hf
  obtain⟨⟨z,μz⟩,e1,e2⟩:=Za.mp hf
  refine⟨W,δ,z,μz,e,ok,hd,e1,λW1 ok1 l1 m1=>?_⟩
  cases z with
  |true=>exact⟨W1,δ,k,μ',rfl,ok1,hd.mono' l1,(by rw[m1];exact e2),λW' ok' l' m'=>h W' ok' (l1.trans l') m'⟩
  |false=>cases e2;exact h W1 ok1 l1 m1
theorem qC{rest:List Expr}(ha:PTD X tb a ta)(hb:PWD X tb (.BoolOp .Or (b::rest) pos) tc):PWD X tb (.BoolOp .Or (a::b::rest) pos) (rB ta tc):=
 Ni (Ua ha hb) λσ H Q zq5=>by
  obtain⟨W,δ,k,μ',e,ok,hd,hf,h⟩:=zq5
  unfold rB at hf
  obtain⟨⟨z,μz⟩,e1,e2⟩:=Za.mp hf
  refine⟨W,δ,z,μz,e,ok,hd,e1,λW1 ok1 l1 m1=>?_⟩
  cases z with
  |false=>exact⟨W1,δ,k,μ',rfl,ok1,hd.mono' l1,(by rw[m1];exact e2),λW' ok' l' m'=>h W' ok' (l1.trans l') m'⟩
  |true=>cases e2;exact h W1 ok1 l1 m1
theorem qp(h:PWD X tb a ta):PTD X tb a ta:=PW.pt h
theorem mY(ha:PTD X tb a ta):PTD X tb (.UnaryOp .Not a pos) (pN ta):=
 HQ (NP ha) λσ H Q zq6=>by
  obtain⟨W,δ,k,μ',e,ok,hd,hf,h⟩:=zq6
  unfold pN at hf
  obtain⟨⟨z,μz⟩,e1,e2⟩:=Za.mp hf
  cases e2
  exact⟨W,δ,z,_,e,ok,hd,e1,λW1 ok1 l1 m1=>h W1 ok1 l1 m1⟩
def pL(fa fb:EF):EF:=λδ μ=>(fa δ μ).bind λr=>match r.1 with
 | .bl true=>fb δ r.2
 | .bl false=>some (.bl false,r.2)
 |_=>none
def vO(fa:EF):EF:=λδ μ=>(fa δ μ).bind λr=>match r.1 with
 | .bl k=>some (.bl !k,r.2)
 |_=>none
theorem rZ{o}(ha:PD X tb a fa):PD X tb (.BoolOp o [a] pos) fa:=QF ha
theorem xN{rest:List Expr}(ha:PD X tb a fa)(hb:PD X tb (.BoolOp .And (b::rest) pos) fb):PD X tb (.BoolOp .And (a::b::rest) pos) (pL fa fb):=
 fY (PL ha hb) λσ H Q zq7=>by
  obtain⟨W,δ,d,μ',e,ok,hd,hf,h⟩:=zq7
  unfold pL at hf
  obtain⟨⟨z,μz⟩,e1,e2⟩:=Za.mp hf
  refine⟨W,δ,z,μz,e,ok,hd,e1,λv W1 ok1 l1 m1 d1=>?_⟩
  cases z with
  |bl k=>
   cases k with
   |true=>
   refine⟨true,ir d1,?_⟩
   rw[if_pos rfl]
   exact⟨W1,δ,d,μ',rfl,ok1,hd.mono' l1,(by rw[m1];exact e2),λv W' ok' l' m' d'=>h v W' ok' (l1.trans l') m' d'⟩
   |false=>
   cases e2
   refine⟨false,ir d1,?_⟩
   rw[if_neg Zr]
   exact h _ W1 ok1 l1 m1 eO
  |_=>cases e2
theorem Fq(ha:PD X tb a fa):PD X tb (.UnaryOp .Not a pos) (vO fa):=
 fY (Ph ha) λσ H Q zq9=>by
  obtain⟨W,δ,d,μ',e,ok,hd,hf,h⟩:=zq9
  unfold vO at hf
  obtain⟨⟨z,μz⟩,e1,e2⟩:=Za.mp hf
  refine⟨W,δ,z,μz,e,ok,hd,e1,λv W1 ok1 l1 m1 d1=>?_⟩
  cases z with
  |bl k=>
   cases e2
   exact⟨k,ir d1,h _ W1 ok1 l1 m1 eO⟩
  |_=>cases e2
def mIf(tc:TF)(fa fb:EF):EF:=λδ μ=>(tc δ μ).bind λr=>if r.1=true then fa δ r.2 else fb δ r.2
theorem Gu(hc:PTD X tb c tc)(ha:PD X tb a fa)(hb:PD X tb b fb):PD X tb (.IfExp c a b pos) (mIf tc fa fb):=
 fY (IW hc ha hb) λσ H Q zq10=>by
  obtain⟨W,δ,d,μ',e,ok,hd,hf,h⟩:=zq10
  unfold mIf at hf
  obtain⟨⟨z,μz⟩,e1,e2⟩:=Za.mp hf
  refine⟨W,δ,z,μz,e,ok,hd,e1,λW1 ok1 l1 m1=>?_⟩
  cases z with
  |true=>exact⟨W1,δ,d,μ',rfl,ok1,hd.mono' l1,(by rw[m1];exact e2),λv W' ok' l' m' d'=>h v W' ok' (l1.trans l') m' d'⟩
  |false=>exact⟨W1,δ,d,μ',rfl,ok1,hd.mono' l1,(by rw[m1];exact e2),λv W' ok' l' m' d'=>h v W' ok' (l1.trans l') m' d'⟩
end
def bN:SF:=λδ μ=>some (.nx,δ,μ)
def uf:SF:=λδ μ=>some (.bk,δ,μ)
def aP(g h:SF):SF:=λδ μ=>(g δ μ).bind λr=>match r.1 with
 | .nx=>h r.2.1 r.2.2
 |_=>some r
def gO(f:EF):SF:=λδ μ=>(f δ μ).bind λr=>some (.nx,δ,r.2)
def bF(f:EF):SF:=λδ μ=>(f δ μ).bind λr=>some (.rt r.1,δ,r.2)
def sIf(c:TF)(g h:SF):SF:=λδ μ=>(c δ μ).bind λr=>if r.1=true then g δ r.2 else h δ r.2
def bh(i:Nat)(f:EF):SF:=λδ μ=>(f δ μ).bind λr=>some (.nx,δ.set i (some r.1),r.2)
section
variable {X:Cx} {tb:List Addr} {e:Expr} {f:EF} {g h:SF} {st:Stmt} {rest:List Stmt} {pos:Pos}
theorem bj:uP X tb [] bN:=Gy Ju λE σ H zq11=>by
 obtain⟨W,δ,fl,δ',μ',e,ok,hd,hf,h⟩:=zq11
 subst e;cases hf
 exact h σ W ok (Le.refl _) rfl hd
theorem aD(h1:PSD X tb st g):uP X tb [st] g:=Kw h1
theorem aA(h1:PSD X tb st g)(h2:uP X tb rest h):uP X tb (st::rest) (aP g h):=
 Gy (IK h1 h2) λE σ H zq12=>by
  obtain⟨W,δ,fl,δ',μ',e,ok,hd,hf,k⟩:=zq12
  unfold aP at hf
  obtain⟨⟨fl1,δ1,μ1⟩,e1,e2⟩:=Za.mp hf
  refine⟨W,δ,fl1,δ1,μ1,e,ok,hd,e1,λσ1 W1 ok1 l1 m1 d1=>?_⟩
  cases fl1 with
  |nx=>exact⟨W1,δ1,fl,δ',μ',rfl,ok1,d1,(by rw[m1];exact e2),λσ' W' ok' l' m' d'=>k σ' W' ok' (l1.trans l') m' d'⟩
  |bk=>cases e2;exact k σ1 W1 ok1 l1 m1 d1
  |ct=>cases e2;exact k σ1 W1 ok1 l1 m1 d1
  |rt d=>cases e2;exact k σ1 W1 ok1 l1 m1 d1
theorem Et:PSD X tb (.Break pos) uf:=jV HW λE σ H zq14=>by
 obtain⟨W,δ,fl,δ',μ',e,ok,hd,hf,h⟩:=zq14
 subst e;cases hf
 exact h σ W ok (Le.refl _) rfl hd
theorem lq(he:PD X tb e f)(hs:swapsWith e none pos.line X.env=pure false:=by rfl):PSD X tb (.Expr e pos) (gO f):=
 jV (JF he hs) λE σ H zq16=>by
  obtain⟨W,δ,fl,δ',μ',e,ok,hd,hf,h⟩:=zq16
  unfold gO at hf
  obtain⟨⟨x,μ1⟩,e1,e2⟩:=Za.mp hf
  cases e2
  exact⟨W,δ,x,_,e,ok,hd,e1,λv W1 ok1 l1 m1 d1=>h σ W1 ok1 l1 m1 (hd.mono' l1)⟩
theorem aL(he:PD X tb e f):PSD X tb (.Return (some e) pos) (bF f):=
 jV (QB he) λE σ H zq17=>by
  obtain⟨W,δ,fl,δ',μ',e,ok,hd,hf,h⟩:=zq17
  unfold bF at hf
  obtain⟨⟨x,μ1⟩,e1,e2⟩:=Za.mp hf
  cases e2
  exact⟨W,δ,x,_,e,ok,hd,e1,λv W1 ok1 l1 m1 d1=>h σ W1 ok1 l1 m1 (hd.mono' l1) v d1⟩
theorem cF{c:Expr}{tc:TF}{as bs:List Stmt}(hc:PTD X tb c tc)(ha:uP X tb as g)(hb:uP X tb bs h):PSD X tb (.If c as bs pos) (sIf tc g h):=
 jV (Up hc ha hb) λE σ H zq18=>by
  obtain⟨W,δ,fl,δ',μ',e,ok,hd,hf,k⟩:=zq18
  unfold sIf at hf
  obtain⟨⟨z,μ1⟩,e1,e2⟩:=Za.mp hf
  refine⟨W,δ,z,μ1,e,ok,hd,e1,λW1 ok1 l1 m1=>?_⟩
  cases z with
  |true=>exact⟨W1,δ,fl,δ',μ',rfl,ok1,hd.mono' l1,(by rw[m1];exact e2),λσ' W' ok' l' m' d'=>k σ' W' ok' (l1.trans l') m' d'⟩
  |false=>exact⟨W1,δ,fl,δ',μ',rfl,ok1,hd.mono' l1,(by rw[m1];exact e2),λσ' W' ok' l' m' d'=>k σ' W' ok' (l1.trans l') m' d'⟩
theorem aV{i:Nat}{x:Str}{pos':Pos}(hN:X.N.Nodup)(he:PD X tb e f)(hi:X.N[i]? =some x:=by rfl)(hx:Loc X.env.scope x:=by first|exact Or.inl rfl|exact Or.inr rfl)(hs:swapsWith e (some (.Name x pos')) pos.line X.env=pure false:=by rfl)
  (hf:X.fn x=true∨X.env.scope.names.lookup x=some .local:=by first|exact .inl rfl|exact .inr rfl|assumption):PSD X tb (.Assign [.Name x pos'] e pos) (bh i f):=
 jV (QM hN hi hx he hs hf) λE σ H zq19=>by
  obtain⟨W,δ,fl,δ',μ',e,ok,hd,hf,h⟩:=zq19
  unfold bh at hf
  obtain⟨⟨x,μ1⟩,e1,e2⟩:=Za.mp hf
  cases e2
  exact⟨W,δ,x,_,e,ok,hd,e1,λv W1 ok1 l1 m1 d1=>h _ W1 ok1 l1 m1 ((hd.mono' l1).set d1)⟩
def xn(i j:Nat)(fs:AF):SF:=λδ μ=>(fs δ μ).bind λr=>match r.1 with
 | [x,y]=>some (.nx,(δ.set i (some x)).set j (some y),r.2)
 |_=>none
theorem wL{i j:Nat}{x y:Str}{a b:Expr}{fs:AF}{px py pt:Pos}{kt k2 pt2}(hc:X.calm=true)(hN:X.N.Nodup)(ha:PAD X tb [a,b] fs)(hij:i≠j:=by decide)(hi:X.N[i]? =some x:=by rfl)(hj:X.N[j]? =some y:=by rfl)
  (hx:X.env.scope.names.lookup x=some .local:=by rfl) (hy:X.env.scope.names.lookup y=some .local:=by rfl)
  (hw:swappedStores [.Tuple [.Name x px,.Name y py] kt pt] (.Tuple [a,b] k2 pt2) X.env=pure (some [x,y]):=by rfl)
  (hs:swapsWithSole [.Tuple [.Name x px,.Name y py] kt pt] (.Tuple [a,b] k2 pt2) pos.line X.env=pure false:=by rfl):
  PSD X tb (.Assign [.Tuple [.Name x px,.Name y py] kt pt] (.Tuple [a,b] k2 pt2) pos) (xn i j fs):=
 jV (OJ hc hN hi hj hij hx hy ha hw hs) λE σ H zq20=>by
  obtain⟨W,δ,fl,δ',μ',e,ok,hd,hf,h⟩:=zq20
  unfold xn at hf
  obtain⟨⟨xs,μ1⟩,e1,e2⟩:=Za.mp hf
  match xs,e1,e2 with
  | [x,y],e1,e2=>
   cases e2
   refine⟨W,δ,_,_,e,ok,hd,e1,λvs W1 ok1 l1 m1 d1=>?_⟩
   obtain⟨u,v,rfl,du,dv⟩:=az.two d1
   exact⟨u,v,rfl,h _ W1 ok1 l1 m1 (((hd.mono' l1).set du).set dv)⟩
def fB(c:TF)(b:SF):Nat->SF
 |0=>λ_ _=>none
 |n+1=>λδ μ=>(c δ μ).bind λr=>if r.1=true then(b δ r.2).bind λq=>match q.1 with
  | .nx=>fB c b n q.2.1 q.2.2
  | .ct=>fB c b n q.2.1 q.2.2
  | .bk=>some (.nx,q.2)
  | .rt d=>some (.rt d,q.2)
  else some (.nx,δ,r.2)
theorem jO{c:TF}{b:SF}:∀{n m:Nat}{δ:En}{μ:Mu}{r:Fl×En×Mu},n<=m->fB c b n δ μ=some r->fB c b m δ μ=some r
 |0,_,_,_,_,_,h=>by cases h
 |n+1,0,_,_,_,hl,_=>by omega
 |n+1,m+1,δ,μ,r,hl,h=>by
  unfold fB at h ⊢
  obtain⟨q,e1,e2⟩:=Za.mp h
  rw[e1]
  show(if q.1=true then _ else _)=_
  by_cases hq:q.1=true
  .rw[if_pos hq]at e2 ⊢
   obtain⟨t,e3,e4⟩:=Za.mp e2
   rw[e3]
   show(match t.1 with| .nx=>_| .ct=>_| .bk=>_| .rt d=>_)=_
   cases ht:t.1 with
   |nx=>rw[ht]at e4;exact jO (by omega) e4
   |ct=>rw[ht]at e4;exact jO (by omega) e4
   |bk=>rw[ht]at e4;exact e4
   |rt d=>rw[ht]at e4;exact e4
  .rw[if_neg hq]at e2 ⊢;exact e2
open Classical in
noncomputable def lE(c:TF)(b:SF):SF:=λδ μ=>if h:∃n r,fB c b n δ μ=some r then some (choose (choose_spec h))else none
theorem pU{c:TF}{b:SF}{n:Nat}{δ:En}{μ:Mu}{r:Fl×En×Mu}(h:fB c b n δ μ=some r):lE c b δ μ=some r:=by
 have hx:∃n r,fB c b n δ μ=some r:=⟨n,r,h⟩
 unfold lE
 rw[dif_pos hx]
 have q:=Classical.choose_spec (Classical.choose_spec hx)
 have a:=jO (Nat.le_max_left n (Classical.choose hx)) h
 have b:=jO (Nat.le_max_right n (Classical.choose hx)) q
 rw[a]at b
 exact b.symm
theorem DX{c:TF}{b:SF}{δ:En}{μ:Mu}{r:Fl×En×Mu}(h:lE c b δ μ=some r):∃n,fB c b n δ μ=some r:=by
 unfold lE at h
 split at h
 .rename_i hx
  cases h
  exact⟨_,Classical.choose_spec (Classical.choose_spec hx)⟩
 .cases h
theorem pY{c:Expr}{tc:TF}{body:List Stmt}(hp:PassesOwn (model X.prog X.w) X.A X.env X.xe)(hc:PTD X tb c tc)(hb:uP X tb body g):PSD X tb (.While c body [] pos) (lE tc g):=
 jV (Io hp hc hb) λE σ H zq21=>by
  obtain⟨W,δ,fl,δ',μ',e,ok,hd,hf,h⟩:=zq21
  obtain⟨n0,hn0⟩:=DX hf
  refine⟨λm σ1 H1=>∃W1 δ1,W1.H=H1/\WOk X.K tb W1/\Le tb W W1/\iM X.K tb W1 δ1 σ1/\fB tc g m δ1 W1.mu=some (fl,δ',μ'),⟨n0,W,δ,e,ok,Le.refl _,hd,hn0⟩,?_⟩
  rintro m σ1 H1 ⟨W1,δ1,rfl,ok1,l1,d1,hn⟩
  cases m with
  |zero=>cases hn
  |succ m=>
   unfold fB at hn
   obtain⟨⟨k,μ2⟩,e1,e2⟩:=Za.mp hn
   refine⟨W1,δ1,k,μ2,rfl,ok1,d1,e1,λW2 ok2 l2 m2=>?_⟩
   cases k with
   |false=>
    cases e2
    rw[if_neg Zr]
    exact h σ1 W2 ok2 (l1.trans l2) m2 (d1.mono' l2)
   |true=>
    rw[if_pos rfl]
    obtain⟨⟨fl3,δ3,μ3⟩,e3,e4⟩:=Za.mp e2
    refine⟨λσ3 H3=>∃W3,W3.H=H3/\WOk X.K tb W3/\Le tb W W3/\iM X.K tb W3 δ3 σ3/\fB tc g m δ3 W3.mu=some (fl,δ',μ'),λσ3 H3 ⟨W3,q1,q2,q3,q4,q5⟩=>⟨m,Nat.lt_succ_self _,W3,δ3,q1,q2,q3,q4,q5⟩,?_⟩
    refine⟨W2,δ1,fl3,δ3,μ3,rfl,ok2,d1.mono' l2,(by rw[m2];exact e3),λσ3 W3 ok3 l3 m3 d3=>?_⟩
    cases fl3 with
    |nx=>exact⟨W3,rfl,ok3,(l1.trans l2).trans l3,d3,by rw[m3];exact e4⟩
    |ct=>exact⟨W3,rfl,ok3,(l1.trans l2).trans l3,d3,by rw[m3];exact e4⟩
    |bk=>cases e4;exact h σ3 W3 ok3 ((l1.trans l2).trans l3) m3 d3
    |rt d=>cases e4;exact h σ3 W3 ok3 ((l1.trans l2).trans l3) m3 d3
end
abbrev GF:=D->En->Mu->Option En
abbrev GsF:=List D->En->Mu->Option En
def tDG(K:PySem.W.Frag)(tb:List Addr)(ts:List Nat)(h:GF):TG:=λv σ H Q=>∃W δ d δ',W.H=H/\WOk K tb W/\iM K tb W δ σ/\Den K tb W d v/\h d δ W.mu=some δ'/\
 ∀σ',iM K tb W δ' σ'->σ'.length=σ.length->(∀i,i∉ts->σ'[i]? =σ[i]?)->Q σ' H
def tDGs(K:PySem.W.Frag)(tb:List Addr)(ts:List Nat)(h:GsF):TGs:=λvs σ H Q=>∃W δ ds δ',W.H=H/\WOk K tb W/\iM K tb W δ σ/\bV K tb W ds vs/\h ds δ W.mu=some δ'/\
 ∀σ',iM K tb W δ' σ'->σ'.length=σ.length->(∀i,i∉ts->σ'[i]? =σ[i]?)->Q σ' H
def PGD(X:Cx)(tb:List Addr)(tg:Expr)(ts:List Nat)(h:GF):Prop:=PG X tg (tDG X.K tb ts h)
def Ke(X:Cx)(tb:List Addr)(tg:List Expr)(ts:List Nat)(h:GsF):Prop:=PGs X tg (tDGs X.K tb ts h)
theorem Ng{X:Cx}{e:Expr}{t t':TG}(h:PG X e t)(k:∀v σ H Q,t' v σ H Q->t v σ H Q):PG X e t':=λpins s σ H v u Q I r hq=>h pins s σ H v u Q I r (k v σ H Q hq)
theorem Fv{X:Cx}{e:List Expr}{t t':TGs}(h:PGs X e t)(k:∀v σ H Q,t' v σ H Q->t v σ H Q):PGs X e t':=λpins s σ H v u Q I r hq=>h pins s σ H v u Q I r (k v σ H Q hq)
def hName(i:Nat):GF:=λd δ _=>some (δ.set i (some d))
def jf:GsF:=λds δ _=>match ds with
 | []=>some δ
 |_=>none
def bG(h:GF)(hs:GsF):GsF:=λds δ μ=>match ds with
 | []=>none
 |d::r=>(h d δ μ).bind λδ1=>hs r δ1 μ
def jh(n:Nat)(hs:GsF):GF:=λd δ μ=>match d with
 | .tup ds=>if ds.length=n then hs ds δ μ else none
 |_=>none
section
variable {X:Cx} {tb:List Addr} {e tg iter elt:Expr} {f:EF} {pos:Pos}
theorem aJ{i:Nat}{x:Str}(hN:X.N.Nodup)(hi:X.N[i]? =some x:=by rfl)(hx:Loc X.env.scope x:=by first|exact Or.inl rfl|exact Or.inr rfl)
  (hf:X.fn x=true∨X.env.scope.names.lookup x=some .local:=by first|exact .inl rfl|exact .inr rfl|assumption):PGD X tb (.Name x pos) [i] (hName i):=
 Ng (Ji hN hi hx hf) λv σ H Q zq1=>by
  obtain⟨W,δ,d,δ',e,ok,hd,dv,hh,h⟩:=zq1
  cases hh
  refine h _ (hd.set dv) (by rw[List.length_set]) λj hj=>?_
  rw[List.getElem?_set_ne (λz=>hj (by simp[z]))]
theorem eY:Ke X tb [] [] jf:=
 Fv Lx λvs σ H Q zq2=>by
  obtain⟨W,δ,ds,δ',e,ok,hd,dv,hh,h⟩:=zq2
  match ds,dv,hh with
  | [],dv,hh=>
   cases hh
   exact⟨az.zero dv,h σ hd rfl λ_ _=>rfl⟩
theorem bc{es:List Expr}{ts us:List Nat}{h:GF}{hs:GsF}(h1:PGD X tb e ts h)(h2:Ke X tb es us hs)
  (ha:(assignEach (e::es) X.env).map (·.2)=assign e X.env::(assignEach es X.env).map (·.2):=by rfl):Ke X tb (e::es) (ts++us) (bG h hs):=
 Fv (Iz h1 h2 ha) λvs σ H Q zq3=>by
  obtain⟨W,δ,ds,δ',e,ok,hd,dv,hh,k⟩:=zq3
  match ds,dv,hh with
  |d::r,dv,hh=>
   obtain⟨δ1,e1,e2⟩:=Za.mp hh
   have dv':az _ _ _ _ _:=dv
   unfold az at dv'
   obtain⟨u,us',rfl,p,q⟩:=dv'
   refine⟨u,us',rfl,W,δ,d,δ1,e,ok,hd,p,e1,λσ1 d1 l1 s1=>⟨W,δ1,r,δ',e,ok,d1,q,e2,λσ2 d2 l2 s2=>?_⟩⟩
   exact k σ2 d2 (l2.trans l1) λi hi=>(s2 i λz=>hi (Zn _ z)).trans (s1 i λz=>hi (List.mem_append_left _ z))
theorem gA{es:List Expr}{k:Nat}{ts:List Nat}{hs:GsF}{n:Nat}(hc:X.calm=true)(h:Ke X tb es ts hs)(hn:(assignEach es X.env).length=n:=by rfl)(hst:(assignEach es X.env).findIdx? (·.1)=none:=by rfl):
  PGD X tb (.Tuple es k pos) ts (jh n hs):=
 Ng (Oe hc h hn hst) λv σ H Q zq4=>by
  obtain⟨W,δ,d,δ',e,ok,hd,dv,hh,k⟩:=zq4
  cases d with
  |tup ds=>
   obtain⟨a,xs,rfl,q,r⟩:=iB dv
   have hh':(if ds.length=n then hs ds δ W.mu else none)=some δ':=hh
   by_cases hl:ds.length=n
   .rw[if_pos hl]at hh'
    have q':SqT X.K H a xs:=by rw[<-e];exact SqT.fz q
    have hl':xs.length=n:=by rw[<-az.length r];exact hl
    exact⟨a,xs,rfl,q',hl',⟨W,δ,ds,δ',e,ok,hd,r,hh',k⟩⟩
   .rw[if_neg hl]at hh';cases hh'
  |_=>cases hh
def Jd(f:EF)(h:GF):SF:=λδ μ=>(f δ μ).bind λr=>(h r.1 δ r.2).bind λδ'=>some (.nx,δ',r.2)
theorem Jx{ts:List Nat}{h:GF}(he:PD X tb e f)(hg:PGD X tb tg ts h)(hs:swapsWithSole [tg] e pos.line X.env=pure false:=by rfl)(hw:swappedStores [tg] e X.env=pure none:=by rfl)
  (h1:(assignEach [tg] X.env).map (·.2)=[assign tg X.env]:=by rfl):PSD X tb (.Assign [tg] e pos) (Jd f h):=
 jV (IV he hg hs hw h1) λE σ H zq5=>by
  obtain⟨W,δ,fl,δ',μ',e,ok,hd,hf,k⟩:=zq5
  unfold Jd at hf
  obtain⟨⟨x,μ1⟩,e1,hf⟩:=Za.mp hf
  obtain⟨δ1,e2,e3⟩:=Za.mp hf
  cases e3
  refine⟨W,δ,x,_,e,ok,hd,e1,λv W1 ok1 l1 m1 d1=>⟨W1,δ,x,_,rfl,ok1,hd.mono' l1,d1,(by rw[m1];exact e2),λσ1 d2 _ _=>?_⟩⟩
  exact k σ1 W1 ok1 l1 m1 d2
structure Src where
 items:List D
 cel:Option Nat
def Src.ok(S:Src)(μ:Mu):Prop:=∀n,S.cel=some n->μ[n]? =some (some S.items)
theorem Src.bB{S:Src}{μ:Mu}(h:S.cel=none):S.ok μ:=λn e=>by rw[h]at e;cases e
abbrev IF:=En->Mu->Option (Src×Mu)
structure DG(K:PySem.W.Frag)(tb:List Addr)(J:It)(S:Src)(W0:Wd):Prop where
 go:∀(i:Nat) W d,Le tb W0 W->WOk K tb W->S.ok W.mu->S.items[i]? =some d->J.go i W.H/\∀x H',J.yld i W.H x H'->∃W',W'.H=H'/\WOk K tb W'/\Le tb W W'/\W'.mu=W.mu/\Den K tb W' d x
 stop:∀(i:Nat) W,Le tb W0 W->WOk K tb W->S.ok W.mu->S.items.length<=i->J.stop i W.H
def tDI(K:PySem.W.Frag)(tb:List Addr)(f:IF):TI:=λσ H R=>∃W δ S μ',W.H=H/\WOk K tb W/\iM K tb W δ σ/\f δ W.mu=some (S,μ')/\
 ∀J W',WOk K tb W'->Le tb W W'->W'.mu=μ'->DG K tb J S W'->R J W'.H
def PID(X:Cx)(tb:List Addr)(tg iter:Expr)(f:IF):Prop:=PI X tg iter (tDI X.K tb f)
theorem yx{w w':TI}(h:PI X tg iter w)(k:∀σ H R,w' σ H R->w σ H R):PI X tg iter w':=λpins s σ H R I hq=>h pins s σ H R I (k σ H R hq)
theorem Qa{l:Expr}{tl:TE}(hl:PE X l tl):PI X tg l (λσ H R=>tl σ H λx H1=>∃a,x= .ref a/\((∃xs,SqL X.K H1 a xs)/\R (Itl X.K a) H1∨(∃xs,SqT X.K H1 a xs)/\R (Itt X.K a) H1)):=by
 intro pins s σ H R I h
 refine thn (hl pins s σ H _ I h) λv s1 zq6=>?_
 obtain⟨x,H1,I1,r1,q1⟩:=zq6
 obtain⟨a,e,q⟩:=q1
 subst e
 cases r1
 rcases q with⟨⟨xs,hq⟩,q⟩|⟨⟨xs,hq⟩,q⟩
 .obtain⟨its,rv,p,hz⟩:=I1.list hq
  refine wpAny_pyIter_list p.isList ?_
  refine⟨s1.heap.objs.size,[s1.heap.objs.size],_,_,H1,rfl,I1.kept (t':=s1.toks) λb o e=>Zb _ e,wB a _,⟨_,Zf _ rfl,rfl,rfl⟩,λb hb=>?_,q⟩
  have e:b=s1.heap.objs.size:=by simpa using hb
  subst e
  exact I1.fpOk (Zg _) (I1.hok.fresh (Zg _))
 .obtain⟨its,rv,p,hz⟩:=I1.tuple hq
  refine wpAny_pyIter_tuple (show s1.heap.IsTuple a its.toArray from p) ?_
  refine⟨s1.heap.objs.size,[s1.heap.objs.size],_,_,H1,rfl,I1.kept (t':=s1.toks) λb o e=>Zb _ e,ul a _,⟨_,Zf _ rfl,rfl,rfl⟩,λb hb=>?_,q⟩
  have e:b=s1.heap.objs.size:=by simpa using hb
  subst e
  exact I1.fpOk (Zg _) (I1.hok.fresh (Zg _))
def srcOf(d:D)(μ:Mu):Option Src:=match d with
 | .tup ds=>some ⟨ds,none⟩
 | .lst ds=>some ⟨ds,none⟩
 | .cell n=>match μ[n]? with
  |some (some ds)=>some ⟨ds,some n⟩
  |_=>none
 |_=>none
theorem HD{K:PySem.W.Frag}{W0:Wd}{a:Addr}{xs:List V}{ds:List D}(q:SqL K (W0.fz tb) a xs)(r:bV K tb W0 ds xs):DG K tb (Itl K a) ⟨ds,none⟩ W0 where
 go:=λi W d l ok _ e=>by
  have q':SqL K W.H a xs:=SqL.fz (SqL.mono l.same q)
  obtain⟨v,ev,dv⟩:=az.get (bV.mono' r l) e
  exact⟨⟨xs,v,q',ev⟩,λx H' ⟨e1,e2⟩=>⟨W,e1.symm,ok,Le.refl _,rfl,by have:=e2 xs q';rw[ev]at this;cases this;exact dv⟩⟩
 stop:=λi W l ok _ hi=>⟨xs,SqL.fz (SqL.mono l.same q),by rw[<-az.length r];exact hi⟩
theorem Ik{K:PySem.W.Frag}{W0:Wd}{a:Addr}{xs:List V}{ds:List D}(q:SqT K (W0.fz tb) a xs)(r:bV K tb W0 ds xs):DG K tb (Itt K a) ⟨ds,none⟩ W0 where
 go:=λi W d l ok _ e=>by
  have q':SqT K W.H a xs:=SqT.fz (SqT.mono l.same q)
  obtain⟨v,ev,dv⟩:=az.get (bV.mono' r l) e
  exact⟨⟨xs,v,q',ev⟩,λx H' ⟨e1,e2⟩=>⟨W,e1.symm,ok,Le.refl _,rfl,by have:=e2 xs q';rw[ev]at this;cases this;exact dv⟩⟩
 stop:=λi W l ok _ hi=>⟨xs,SqT.fz (SqT.mono l.same q),by rw[<-az.length r];exact hi⟩
theorem Ow{K:PySem.W.Frag}{W0:Wd}{a:Addr}{n:Nat}{ds:List D}(q:W0.ad[n]? =some a):DG K tb (Itl K a) ⟨ds,some n⟩ W0 where
 go:=λi W d l ok hs e=>by
  obtain⟨xs,ex,r⟩:=ok.cont n a ds (l.ad _ _ q) (hs n rfl)
  obtain⟨v,ev,dv⟩:=az.get r e
  exact⟨⟨xs,v,SqL.of ex,ev⟩,λx H' ⟨e1,e2⟩=>⟨W,e1.symm,ok,Le.refl _,rfl,by have:=e2 xs (SqL.of ex);rw[ev]at this;cases this;exact dv⟩⟩
 stop:=λi W l ok hs hi=>by
  obtain⟨xs,ex,r⟩:=ok.cont n a ds (l.ad _ _ q) (hs n rfl)
  exact⟨xs,SqL.of ex,by rw[<-az.length r];exact hi⟩
def gh(f:EF):IF:=λδ μ=>(f δ μ).bind λr=>(srcOf r.1 r.2).map λS=>(S,r.2)
theorem cT(he:PD X tb e f):PID X tb tg e (gh f):=
 yx (Qa he) λσ H R zq7=>by
  obtain⟨W,δ,S,μ',e,ok,hd,hf,h⟩:=zq7
  unfold gh at hf
  obtain⟨⟨x,μ1⟩,e1,hf⟩:=Za.mp hf
  obtain⟨S',e2,e3⟩:=Zp.mp hf
  cases e3
  refine⟨W,δ,x,_,e,ok,hd,e1,λv W1 ok1 l1 m1 d1=>?_⟩
  cases x with
  |tup ds=>
   cases e2
   obtain⟨a,xs,rfl,q,r⟩:=iB d1
   exact⟨a,rfl,.inr ⟨⟨xs,SqT.fz q⟩,h _ W1 ok1 l1 m1 (Ik q r)⟩⟩
  |lst ds=>
   cases e2
   obtain⟨a,xs,rfl,q,r⟩:=mL d1
   exact⟨a,rfl,.inl ⟨⟨xs,SqL.fz q⟩,h _ W1 ok1 l1 m1 (HD q r)⟩⟩
  |cell n=>
   obtain⟨a,rfl,q⟩:=gZ d1
   have e2':(match μ1[n]? with|some (some ds)=>some (⟨ds,some n⟩:Src)|_=>none)=some S:=e2
   cases e4:μ1[n]? with
   |none=>rw[e4]at e2';cases e2'
   |some o=>
    cases o with
    |none=>rw[e4]at e2';cases e2'
    |some ds=>
     rw[e4]at e2'
     cases e2'
     obtain⟨xs,ex,_⟩:=ok1.cont n a ds q (by rw[m1];exact e4)
     exact⟨a,rfl,.inl ⟨⟨xs,SqL.of ex⟩,h _ W1 ok1 l1 m1 (Ow q)⟩⟩
  |_=>cases e2
def cU(lo:Int)(n:Nat):List D:=(List.range n).map λ(k:Nat)=>D.int (lo+(k:Int))
theorem Iu{K:PySem.W.Frag}{W0:Wd}{lo:Int}{n:Nat}:DG K tb (Itr lo n) ⟨cU lo n,none⟩ W0 where
 go:=λi W d l ok _ e=>by
  unfold cU at e
  rw[List.getElem?_map]at e
  by_cases hi:i<n
  .rw[List.getElem?_range hi]at e
   cases e
   exact⟨hi,λx H' ⟨e1,e2⟩=>⟨W,e1.symm,ok,Le.refl _,rfl,by rw[e2];exact dW⟩⟩
  .rw[List.getElem?_eq_none (by simpa using hi)]at e;cases e
 stop:=λi W l ok _ hi=>by
  unfold cU at hi
  have hi':n<=i:=by simpa using hi
  exact hi'
def dj(fs:AF):IF:=λδ μ=>(fs δ μ).bind λr=>match r.1 with
 | [.int j]=>if -(2 ^ 62)<=j/\j<2 ^ 62 then some (⟨cU 0 j.toNat,none⟩,r.2)else none
 |_=>none
theorem dH{a:Expr}{fs:AF}{p:Pos}(hm:X.mg "range"=none)(ha:PAD X tb [a] fs)(hg:Gl X "range":=by rfl)(hs:starEach [a] X.env=[(false,eval a X.env)]:=by rfl):PID X tb tg (.Call (.Name "range" p) [a] [] pos) (dj fs):=
 yx (Ep hg hm ha hs) λσ H R zq8=>by
  obtain⟨W,δ,S,μ',e,ok,hd,hf,h⟩:=zq8
  unfold dj at hf
  obtain⟨⟨xs,μ1⟩,e1,e2⟩:=Za.mp hf
  match xs,e1,e2 with
  | [.int j],e1,e2=>
   have e2':(if -(2 ^ 62)<=j/\j<2 ^ 62 then some ((⟨cU 0 j.toNat,none⟩:Src),μ1)else none)=some (S,μ'):=e2
   split at e2'
   .rename_i hj
    cases e2'
    refine⟨W,δ,_,_,e,ok,hd,e1,λvs W1 ok1 l1 m1 d1=>?_⟩
    obtain⟨u,rfl,du⟩:=az.one d1
    rw[bf du]
    exact⟨j,rfl,hj.1,hj.2,h _ W1 ok1 l1 m1 Iu⟩
   .cases e2'
def qO(fs:AF):IF:=λδ μ=>(fs δ μ).bind λr=>match r.1 with
 | [.int i,.int j]=>if(-(2 ^ 62)<=i/\i<2 ^ 62)/\ -(2 ^ 62)<=j/\j<2 ^ 62 then some (⟨cU i (j-i).toNat,none⟩,r.2)else none
 |_=>none
theorem Ab{a b:Expr}{fs:AF}{p:Pos}(hm:X.mg "range"=none)(ha:PAD X tb [a,b] fs)(hg:Gl X "range":=by rfl)(hs:starEach [a,b] X.env=[(false,eval a X.env),(false,eval b X.env)]:=by rfl)(hs2:starEach [b] X.env=[(false,eval b X.env)]:=by rfl):
  PID X tb tg (.Call (.Name "range" p) [a,b] [] pos) (qO fs):=
 yx (DK hg hm ha hs hs2) λσ H R zq9=>by
  obtain⟨W,δ,S,μ',e,ok,hd,hf,h⟩:=zq9
  unfold qO at hf
  obtain⟨⟨xs,μ1⟩,e1,e2⟩:=Za.mp hf
  match xs,e1,e2 with
  | [.int i,.int j],e1,e2=>
   have e2':(if(-(2 ^ 62)<=i/\i<2 ^ 62)/\ -(2 ^ 62)<=j/\j<2 ^ 62 then some ((⟨cU i (j-i).toNat,none⟩:Src),μ1)else none)=some (S,μ'):=e2
   split at e2'
   .rename_i hj
    cases e2'
    refine⟨W,δ,_,_,e,ok,hd,e1,λvs W1 ok1 l1 m1 d1=>?_⟩
    obtain⟨u,v,rfl,du,dv⟩:=az.two d1
    rw[bf du,bf dv]
    exact⟨i,j,rfl,⟨hj.1.1,hj.1.2,hj.2.1,hj.2.2⟩,h _ W1 ok1 l1 m1 Iu⟩
   .cases e2'
open Classical in
noncomputable def forL(S:Src)(h:GF)(b:SF):List D->SF
 | [],δ,μ=>if S.ok μ then some (.nx,δ,μ)else none
 |d::r,δ,μ=>if S.ok μ then(h d δ μ).bind λδ1=>(b δ1 μ).bind λq=>match q.1 with
  | .nx=>forL S h b r q.2.1 q.2.2
  | .ct=>forL S h b r q.2.1 q.2.2
  | .bk=>some (.nx,q.2)
  | .rt d=>some (.rt d,q.2)
  else none
noncomputable def ik(f:IF)(h:GF)(b:SF):SF:=λδ μ=>(f δ μ).bind λr=>forL r.1 h b r.1.items δ r.2
theorem dR{body:List Stmt}{fi:IF}{ts:List Nat}{h:GF}{b:SF}(hp:PassesOwn (model X.prog X.w) X.A X.env X.xe)(hc:X.calm=true)(hi:PID X tb tg iter fi)(hg:PGD X tb tg ts h)(hb:uP X tb body b)
  (hs:∀x,foldedSetIterable iter X.env x=pure x:=by intro _;rfl):PSD X tb (.For tg iter body [] pos) (ik fi h b):=
 jV (PN hp hc hi hg hb hs) λE σ H zq10=>by
  obtain⟨W,δ,fl,δ',μ',e,ok,hd,hf,k⟩:=zq10
  unfold ik at hf
  obtain⟨⟨S,μ1⟩,e1,e2⟩:=Za.mp hf
  refine⟨W,δ,S,μ1,e,ok,hd,e1,λJ W1 ok1 l1 m1 io=>?_⟩
  refine⟨λi m σ2 H2=>m=S.items.length-i/\i<=S.items.length/\∃W2 δ2,W2.H=H2/\WOk X.K tb W2/\Le tb W1 W2/\iM X.K tb W2 δ2 σ2/\forL S h b (S.items.drop i) δ2 W2.mu=some (fl,δ',μ'),
   ⟨S.items.length,rfl,Nat.zero_le _,W1,δ,rfl,ok1,Le.refl _,hd.mono' l1,by rw[m1];exact e2⟩,?_⟩
  rintro i m σ2 H2 ⟨hm,hi',W2,δ2,rfl,ok2,l2,d2,hn⟩
  by_cases hlt:i<S.items.length
  .right
   have hdr:S.items.drop i=S.items[i]::S.items.drop (i+1):=List.drop_eq_getElem_cons hlt
   rw[hdr]at hn
   unfold forL at hn
   split at hn
   .rename_i hok
    obtain⟨δ3,e3,hn⟩:=Za.mp hn
    obtain⟨⟨fl4,δ4,μ4⟩,e4,e5⟩:=Za.mp hn
    obtain⟨go,yl⟩:=io.go i W2 S.items[i] l2 ok2 hok (by simp[hlt])
    refine⟨go,λσ5 H5=>∃W5,W5.H=H5/\WOk X.K tb W5/\Le tb W1 W5/\iM X.K tb W5 δ4 σ5/\forL S h b (S.items.drop (i+1)) δ4 W5.mu=some (fl,δ',μ'),λσ5 H5 ⟨W5,q1,q2,q3,q4,q5⟩=>⟨S.items.length-(i+1),by omega,rfl,hlt,W5,δ4,q1,q2,q3,q4,q5⟩,λx H' y=>?_⟩
    obtain⟨W3,rfl,ok3,l3,m3,d3⟩:=yl x H' y
    refine⟨W3,δ2,S.items[i],δ3,rfl,ok3,d2.mono' l3,d3,(by rw[m3];exact e3),λσ3 d3' _ _=>?_⟩
    refine⟨W3,δ3,fl4,δ4,μ4,rfl,ok3,d3',(by rw[m3];exact e4),λσ4 W4 ok4 l4 m4 d4=>?_⟩
    cases fl4 with
    |nx=>exact⟨W4,rfl,ok4,(l2.trans l3).trans l4,d4,by rw[m4];exact e5⟩
    |ct=>exact⟨W4,rfl,ok4,(l2.trans l3).trans l4,d4,by rw[m4];exact e5⟩
    |bk=>cases e5;exact k σ4 W4 ok4 (((l1.trans l2).trans l3).trans l4) m4 d4
    |rt d=>cases e5;exact k σ4 W4 ok4 (((l1.trans l2).trans l3).trans l4) m4 d4
   .cases hn
  .left
   have hdr:S.items.drop i=[]:=List.drop_of_length_le (by omega)
   rw[hdr]at hn
   unfold forL at hn
   split at hn
   .rename_i hok
    have hn':some (Fl.nx,δ2,W2.mu)=some (fl,δ',μ'):=hn
    cases hn'
    exact⟨io.stop i W2 l2 ok2 hok (by omega),k σ2 W2 ok2 (l1.trans l2) rfl d2⟩
   .cases hn
abbrev LF:=En->Mu->Option (List D×Mu)
def tDN(K:PySem.W.Frag)(tb:List Addr)(f:LF):TE:=λσ H Q=>∃W δ ds μ',W.H=H/\WOk K tb W/\iM K tb W δ σ/\f δ W.mu=some (ds,μ')/\
 ∀p vs W',WOk K tb W'->Le tb W W'->W'.mu=μ'->W'.H p=none->bV K tb W' ds vs->Q (.ref p) (upd W'.H p (.lst vs))
def PDN(X:Cx)(tb:List Addr)(e:Expr)(f:LF):Prop:=PE X e (tDN X.K tb f)
def mFz(f:LF):EF:=λδ μ=>(f δ μ).bind λr=>some (.lst r.1,r.2)
def oY(f:LF):EF:=λδ μ=>(f δ μ).bind λr=>some (.cell r.2.length,r.2++[some r.1])
theorem iV{f:LF}(h:PDN X tb e f):PD X tb e (mFz f):=fY h λσ H Q zq11=>by
 obtain⟨W,δ,d,μ',e,ok,hd,hf,k⟩:=zq11
 unfold mFz at hf
 obtain⟨⟨ds,μ1⟩,e1,e2⟩:=Za.mp hf
 cases e2
 refine⟨W,δ,ds,_,e,ok,hd,e1,λp vs W1 ok1 l1 m1 hp r=>?_⟩
 exact jk ok1 (λv W' ok' l' m' d'=>k v W' ok' (l1.trans l') (m'.trans m1) d') r hp
theorem rT{f:LF}(h:PDN X tb e f):PD X tb e (oY f):=fY h λσ H Q zq12=>by
 obtain⟨W,δ,d,μ',e,ok,hd,hf,k⟩:=zq12
 unfold oY at hf
 obtain⟨⟨ds,μ1⟩,e1,e2⟩:=Za.mp hf
 cases e2
 refine⟨W,δ,ds,μ1,e,ok,hd,e1,λp vs W1 ok1 l1 m1 hp r=>?_⟩
 obtain⟨ok2,l2,d2⟩:=ok1.new hp r
 exact k _ _ ok2 (l1.trans l2) (by show W1.mu++[some ds]=_;rw[m1]) (by rw[<-m1];exact d2)
def uJ(fs:AF):LF:=λδ μ=>(fs δ μ).bind λr=>if r.1.length<=sizeLine then some r else none
theorem su{es:List Expr}{fs:AF}(h:PAD X tb es fs):PDN X tb (.List es pos) (uJ fs):=fY (GD h) λσ H Q zq13=>by
 obtain⟨W,δ,ds,μ',e,ok,hd,hf,k⟩:=zq13
 unfold uJ at hf
 obtain⟨⟨xs,μ1⟩,e1,e2⟩:=Za.mp hf
 split at e2
 .rename_i hl
  cases e2
  exact⟨W,δ,_,_,e,ok,hd,e1,λvs W1 ok1 l1 m1 d1=>⟨by rw[<-az.length d1];exact hl,λp hp=>k p vs W1 ok1 l1 m1 hp d1⟩⟩
 .cases e2
def cu(own:List Str)(δ:En)(capI:List Nat):En:=List.replicate own.length none++capI.map λi=>(δ[i]?).join
theorem rQ{K:PySem.W.Frag}{W:Wd}{own:List Str}{capI:List Nat}{δ:En}{σ:SV}(h:iM K tb W δ σ):iM K tb W (cu own δ capI) (bT own σ capI):=by
 refine⟨by unfold cu bT uy;simp,λi d e=>?_⟩
 unfold cu at e
 unfold bT uy
 by_cases hi:i<own.length
 .rw[Zs (by simpa using hi),List.getElem?_replicate]at e
  split at e<;>cases e
 .rw[List.getElem?_append_right (by simpa using hi),List.getElem?_map]at e
  rw[List.getElem?_append_right (by simpa using hi),List.getElem?_map]
  rw[List.length_replicate]at e ⊢
  cases q:capI[i-own.length]? with
  |none=>rw[q]at e;cases e
  |some j=>
   rw[q]at e
   have e':(δ[j]?).join=some d:=by simpa using e
   cases q2:δ[j]? with
   |none=>rw[q2]at e';cases e'
   |some o=>
    rw[q2]at e'
    have e2:o=some d:=e'
    subst e2
    obtain⟨v,ev,dv⟩:=h.2 j d q2
    exact⟨v,by simp[ev],dv⟩
theorem fits_of{own:List Str}{capI:List Nat}{σ σ':SV}{ts:List Nat}(hts:∀i∈ts,i<own.length)(hl:σ'.length=(bT own σ capI).length)(h:∀i,i∉ts->σ'[i]? =(bT own σ capI)[i]?):Fits (bT own σ capI) σ':=
 ⟨hl,λi v e=>by
  rw[h i λz=>?_]
  .exact e
  .unfold bT at e
   rw[Zs (by simpa using hts i z),List.getElem?_replicate]at e
   split at e<;>cases e⟩
open Classical in
noncomputable def lcL(S:Src)(h:GF)(tt:TF)(fe:EF)(δb:En):List D->Mu->Option (List D×Mu)
 | [],μ=>if S.ok μ then some ([],μ)else none
 |d::r,μ=>if S.ok μ then(h d δb μ).bind λδ1=>(tt δ1 μ).bind λk=>if k.1=true then(fe δ1 k.2).bind λy=>(lcL S h tt fe δb r y.2).bind λys=>some (y.1::ys.1,ys.2)else lcL S h tt fe δb r k.2 else none
noncomputable def lLC(own:List Str)(capI:List Nat)(fi:IF)(h:GF)(tt:TF)(fe:EF):LF:=λδ μ=>(fi δ μ).bind λr=>if r.1.items.length<=sizeLine then lcL r.1 h tt fe (cu own δ capI) r.1.items r.2 else none
def Az(X:Cx)(tb:List Addr)(ifs:List Expr)(t:TF):Prop:=PIf X ifs (tDT X.K tb t)
def bU:TF:=λ_ μ=>some (true,μ)
theorem QC{X:Cx}{e:List Expr}{t t':TT}(h:PIf X e t)(k:∀σ H Q,t' σ H Q->t σ H Q):PIf X e t':=λpins s σ H Q I hq=>h pins s σ H Q I (k σ H Q hq)
theorem cR:Az X tb [] bU:=QC JS λσ H Q zq14=>by
 obtain⟨W,δ,k,μ',e,ok,hd,hf,h⟩:=zq14
 subst e;cases hf
 exact h W ok (Le.refl _) rfl
theorem sS{c:Expr}{t:TF}(h:PTD X tb c t):Az X tb [c] t:=KQ h
theorem iY{ifs:List Expr}{fi:IF}{h:GF}{tt:TF}{fe:EF}{own cap:List Str}{capI ts:List Nat}{scope:Scope}(hc:X.calm=true)(B:dZ X own cap capI scope)(hown:∀x∈own,(x,NameKind.free)∉scope.names)(hi:PID X tb tg iter fi)
  (hg:∀cs C fp s2 H2,PGD (bw X own cap scope cs C fp s2 H2) tb tg ts h) (ht:∀cs C fp s2 H2,Az (bw X own cap scope cs C fp s2 H2) tb ifs tt) (he:∀cs C fp s2 H2,PD (bw X own cap scope cs C fp s2 H2) tb elt fe)
  (hts:∀i∈ts,i<own.length:=by decide) (hs:∀x,foldedSetIterable iter X.env x=pure x:=by intro _;rfl):PDN X tb (.ListComp elt [⟨tg,iter,ifs,0⟩] scope pos) (lLC own capI fi h tt fe):=
 fY (Sh (g:=tDG X.K tb ts h) (tt:=tDT X.K tb tt) (te:=tD X.K tb fe) hc B hown hi hg ht he hs) λσ H Q zq15=>by
  obtain⟨W,δ,ds,μ',e,ok,hd,hf,k⟩:=zq15
  unfold lLC at hf
  obtain⟨⟨S,μ1⟩,e1,e2⟩:=Za.mp hf
  split at e2
  .rename_i hz
   refine⟨W,δ,S,μ1,e,ok,hd,e1,λJ W1 ok1 l1 m1 io=>?_⟩
   refine⟨λi m ys H2=>m=S.items.length-i/\i<=S.items.length/\ys.length<=i/\∃W2 zs rs,W2.H=H2/\WOk X.K tb W2/\Le tb W1 W2/\bV X.K tb W2 zs ys/\lcL S h tt fe (cu own δ capI) (S.items.drop i) W2.mu=some (rs,μ')/\zs++rs=ds,
    ⟨S.items.length,rfl,Nat.zero_le _,Nat.zero_le _,W1,[],ds,rfl,ok1,Le.refl _,az.nil,by rw[m1];exact e2,rfl⟩,?_⟩
   rintro i m ys H2 ⟨hm,hi',hy,W2,zs,rs,rfl,ok2,l2,d2,hn,hzs⟩
   by_cases hlt:i<S.items.length
   .right
    have hdr:S.items.drop i=S.items[i]::S.items.drop (i+1):=List.drop_eq_getElem_cons hlt
    rw[hdr]at hn
    unfold lcL at hn
    split at hn
    .rename_i hok
     obtain⟨δ3,e3,hn⟩:=Za.mp hn
     obtain⟨⟨kk,μ4⟩,e4,hn⟩:=Za.mp hn
     obtain⟨go,yl⟩:=io.go i W2 S.items[i] l2 ok2 hok (by simp[hlt])
     refine⟨go,Zc (Nat.lt_of_le_of_lt hy hlt) hz,λx H' y=>?_⟩
     obtain⟨W3,rfl,ok3,l3,m3,d3⟩:=yl x H' y
     refine⟨W3,cu own δ capI,S.items[i],δ3,rfl,ok3,(rQ hd).mono' ((l1.trans l2).trans l3),d3,(by rw[m3];exact e3),λσ3 d3' hl3 ht3=>⟨fits_of hts hl3 ht3,?_⟩⟩
     refine⟨W3,δ3,kk,μ4,rfl,ok3,d3',(by rw[m3];exact e4),λW4 ok4 l4 m4=>?_⟩
     cases kk with
     |false=>
      rw[if_neg Zr]
      exact⟨S.items.length-(i+1),by omega,rfl,hlt,by omega,W4,zs,rs,rfl,ok4,(l2.trans l3).trans l4,bV.mono' d2 (l3.trans l4),by rw[m4];exact hn,hzs⟩
     |true=>
      rw[if_pos rfl]
      have hn':((fe δ3 μ4).bind λy=>(lcL S h tt fe (cu own δ capI) (S.items.drop (i+1)) y.2).bind λys=>some (y.1::ys.1,ys.2))=some (rs,μ'):=hn
      obtain⟨⟨yd,μ5⟩,e5,hn'⟩:=Za.mp hn'
      obtain⟨⟨rs',μ6⟩,e6,e7⟩:=Za.mp hn'
      cases e7
      refine⟨W4,δ3,yd,μ5,rfl,ok4,d3'.mono' l4,(by rw[m4];exact e5),λv W5 ok5 l5 m5 d5=>?_⟩
      refine⟨S.items.length-(i+1),by omega,rfl,hlt,by rw[List.length_append];simp;omega,W5,zs++[yd],rs',rfl,ok5,((l2.trans l3).trans l4).trans l5,az.append (bV.mono' d2 ((l3.trans l4).trans l5)) (az.cons d5 az.nil),by rw[m5];exact e6,by rw[List.append_assoc];exact hzs⟩
    .cases hn
   .left
    have hdr:S.items.drop i=[]:=List.drop_of_length_le (by omega)
    rw[hdr]at hn
    unfold lcL at hn
    split at hn
    .rename_i hok
     cases hn
     rw[List.append_nil]at hzs
     subst hzs
     exact⟨io.stop i W2 l2 ok2 hok (by omega),λl hl=>k l ys W2 ok2 (l1.trans l2) rfl hl d2⟩
    .cases hn
  .cases e2
end
end L3
namespace L2
open PySem PySem.Spec PyProof.Rows
theorem xy{X:Cx}{pins:List (Addr×Obj)}{σ:L2.St}{H:Hp}{s:Shared}(I:Inv X pins σ H s)(hc:X.calm=true){A':Around}(h1:A'.handled=X.A.handled)(h2:A'.frames=X.A.frames):A'.handled=none/\A'.frames=some X.stack:=
 ⟨h1.trans (I.ok.hd hc),h2.trans I.ok.frames⟩
theorem rO{X:Cx}{e:Expr}{pos:Pos}{s:Shared}{Q:List Value->Shared->Prop}(h:wpAny (model X.prog X.w) X.A (eval e X.env) (λu s1=>Q [u] s1) X.xe s)(hs:starEach [e] X.env=(false,eval e X.env)::starEach [] X.env:=by rfl):
  wpAny (model X.prog X.w) X.A (spliced (backTo pos (starEach [e] X.env))) Q X.xe s:=by
 rw[hs]
 show wpAny _ _ (spliced ((false,eval e X.env)::backTo pos (starEach [] X.env))) _ _ s
 exact Calls.spliced_cons (thn h λu s1 q=>Calls.spliced_nil q)
def Dt(y:V)(k:Bool):Prop:=y= .bl k∨∃i,y= .int i/\k=(i != 0)
theorem Ca{P:Program}{w:World}{A:Around}{E:Value->Shared->Prop}{s:Shared}{y:V}{v:Value}{k:Bool}{Q:Bool->Shared->Prop}(r:RelV y v)(h:Dt y k)(hq:Q k s):wpAny (model P w) A (truthy v) Q E s:=by
 rcases h with rfl|⟨i,rfl,rfl⟩
 .cases r;exact wpAny_truthy_bool hq
 .obtain⟨t,rfl⟩:=r;exact PySem.P.truthy_int hq
theorem yr{M:Model}{A:Around}{E:Value->Shared->Prop}{s:Shared}{t:Sem (Option Value)}{P:Value->Shared->Prop}{f:Value->Sem Unit}(hf:∀u,f u=pure ())
  (h:wpAny M A t (λr s1=>∃u,r=some u/\wpAny M A (f u) (λ_ s2=>P u s2) E s1) E s):wpAny M A t (λr s1=>∃u,r=some u/\P u s1) E s:=λΓ p hΓ=>
 Sem.wp_mono M Γ t (λa p' s ⟨u,e,q⟩=>⟨u,e,by rw[hf]at q;exact q Γ p' hΓ⟩) (λ_ _ _ e=>e) p s (h Γ p hΓ)
section
variable {X:Cx} {e:Expr} {ts:pW} {p pos:Pos} {pins:List (Addr×Obj)} {σ:L2.St}
def RZ(ts:pW):TE:=λσ H Q=>ts σ H λS H1=>∃W:Nat->Nat->Hp->Prop,(∃m,W 0 m H1)/\∀i m H,W i m H->
 S.fin i H (λH'=>Q (.bl true) H')∨S.nxt i H λy H'=>∃k,Dt y k/\if k=true then∃m',m'<m/\W (i+1) m' H' else Q (.bl false) H'
def Tn(ts:pW):TE:=λσ H Q=>ts σ H λS H1=>∃W:Nat->Nat->Hp->Prop,(∃m,W 0 m H1)/\∀i m H,W i m H->
 S.fin i H (λH'=>Q (.bl false) H')∨S.nxt i H λy H'=>∃k,Dt y k/\if k=true then Q (.bl true) H' else∃m',m'<m/\W (i+1) m' H'
theorem HN{it:Addr}{lo:Nat}{S:lY}{SS:List (Addr×Obj)->Nat->Hp->Shared->Prop}{Q:VK}{W:Nat->Nat->Hp->Prop}(sm:qF X pins σ X.A.in1 it lo S SS)
  (st:∀i m H,W i m H->S.fin i H (λH'=>Q (.bl true) H')∨S.nxt i H λy H'=>∃k,Dt y k/\if k=true then∃m',m'<m/\W (i+1) m' H' else Q (.bl false) H'):
  ∀(m i:Nat)(H:Hp)(s:Shared),SS [] i H s->W i m H->codeAny (model X.prog X.w) X.A (.builtin "all.loop" ⟨[.ref it],[]⟩) (λr s'=>∃u,r= .ok (.ret u)/\EP X pins σ Q u s') s:=by
 intro m
 induction m using Nat.strongRecOn with
 |ind m ih=>
  intro i H s hs hw
  refine codeAny_builtin F.entry_all_loop ?_
  rw[Around.under_plainId F.plain_all_loop _]
  show wpAny _ X.A.in1 (pyNext (.ref it) >>= _) _ _ s
  rcases st i m H hw with hf|hn
  .refine wpAny_bind (wpAny_mono (sm.stop (λ_ _=>False) hs hf) (λr s1 ⟨hr,H1,q,I1⟩=>?_) λ_ _ z=>z.elim)
   subst hr
   refine wpAny_bind (wpAny_rule (wpAny_pure ⟨_,rfl,.bl true,H1,?_,rfl,q⟩))
   rw[List.append_nil]at I1
   exact I1
  .refine wpAny_bind (wpAny_mono (sm.next (λ_ _=>False) hs hn) (λr s1 ⟨u,y,H',hr,ry,⟨k,tk,q⟩,hs'⟩=>?_) λ_ _ z=>z.elim)
   subst hr
   refine wpAny_bind (wpAny_holding (Ca ry tk ?_))
   refine wpAny_bind (wpAny_letGo ?_)
   cases k with
   |true=>
    simp only[if_true]
    rw[if_pos rfl]at q
    obtain⟨m',hm,hw'⟩:=q
    exact wpAny_pure ⟨plainId_quiet F.plain_all_loop _,ih m' hm (i+1) H' s1 hs' hw'⟩
   |false=>
    simp only[Bool.false_eq_true,if_false]
    rw[if_neg Zr]at q
    refine wpAny_bind (wpAny_rule (wpAny_pure ⟨_,rfl,.bl false,H',?_,rfl,q⟩))
    have I1:=sm.inv hs'
    rw[List.append_nil]at I1
    exact I1
theorem HY{it:Addr}{lo:Nat}{S:lY}{SS:List (Addr×Obj)->Nat->Hp->Shared->Prop}{Q:VK}{W:Nat->Nat->Hp->Prop}(sm:qF X pins σ X.A.in1 it lo S SS)
  (st:∀i m H,W i m H->S.fin i H (λH'=>Q (.bl false) H')∨S.nxt i H λy H'=>∃k,Dt y k/\if k=true then Q (.bl true) H' else∃m',m'<m/\W (i+1) m' H'):
  ∀(m i:Nat)(H:Hp)(s:Shared),SS [] i H s->W i m H->codeAny (model X.prog X.w) X.A (.builtin "any.loop" ⟨[.ref it],[]⟩) (λr s'=>∃u,r= .ok (.ret u)/\EP X pins σ Q u s') s:=by
 intro m
 induction m using Nat.strongRecOn with
 |ind m ih=>
  intro i H s hs hw
  refine codeAny_builtin F.entry_any_loop ?_
  rw[Around.under_plainId F.plain_any_loop _]
  show wpAny _ X.A.in1 (pyNext (.ref it) >>= _) _ _ s
  rcases st i m H hw with hf|hn
  .refine wpAny_bind (wpAny_mono (sm.stop (λ_ _=>False) hs hf) (λr s1 ⟨hr,H1,q,I1⟩=>?_) λ_ _ z=>z.elim)
   subst hr
   refine wpAny_bind (wpAny_rule (wpAny_pure ⟨_,rfl,.bl false,H1,?_,rfl,q⟩))
   rw[List.append_nil]at I1
   exact I1
  .refine wpAny_bind (wpAny_mono (sm.next (λ_ _=>False) hs hn) (λr s1 ⟨u,y,H',hr,ry,⟨k,tk,q⟩,hs'⟩=>?_) λ_ _ z=>z.elim)
   subst hr
   refine wpAny_bind (wpAny_holding (Ca ry tk ?_))
   refine wpAny_bind (wpAny_letGo ?_)
   cases k with
   |false=>
    simp only[Bool.false_eq_true,if_false]
    rw[if_neg Zr]at q
    obtain⟨m',hm,hw'⟩:=q
    exact wpAny_pure ⟨plainId_quiet F.plain_any_loop _,ih m' hm (i+1) H' s1 hs' hw'⟩
   |true=>
    simp only[if_true]
    rw[if_pos rfl]at q
    refine wpAny_bind (wpAny_rule (wpAny_pure ⟨_,rfl,.bl true,H',?_,rfl,q⟩))
    have I1:=sm.inv hs'
    rw[List.append_nil]at I1
    exact I1
theorem Je(hc:X.calm=true)(hm:X.mg "all"=none)(hstr:yP X e ts)(hg:Gl X "all":=by rfl)(hs:starEach [e] X.env=(false,eval e X.env)::starEach [] X.env:=by rfl):PE X (.Call (.Name "all" p) [e] [] pos) (RZ ts):=by
 intro pins s σ H Q I h
 refine wpAny_Call_Name_kw (jK I hg hm boot_all ?_ (by decide) (by decide))
 refine PyProof.Rows.callWith_builtin1 (rO (thn (hstr pins s σ H _ I h) λu s1 ⟨S,H1,I1,rdy,W,⟨m,w0⟩,st⟩=>?_) hs) hs rfl
 refine call_function_tree F.kind_all F.plain_all F.entry_all (F.args_all1 _) ?_
 unfold Builtin.«all»
 refine wpAny_bind (m:=oneArg "all" _) (wpAny_pure ?_)
 obtain⟨a1,a2⟩:=xy I1 hc (A':=X.A.in1) rfl rfl
 refine wpAny_bind (wpAny_mono (rdy X.A.in1 (λ_ _=>False) a1 a2 (Nat.le_succ _) (by show X.A.units+1<=_;omega)) (λitv s2 ⟨it,lo,SS,e,sm,s0,_⟩=>?_) λ_ _ z=>z.elim)
 subst e
 refine wpAny_pure ⟨plainId_quiet F.plain_all_loop _,codeAny_mono (HN sm st m 0 H1 s2 s0 w0) λr s' ⟨u,hr,q⟩=>?_⟩
 subst hr
 exact q
theorem LC(hc:X.calm=true)(hm:X.mg "any"=none)(hstr:yP X e ts)(hg:Gl X "any":=by rfl)(hs:starEach [e] X.env=(false,eval e X.env)::starEach [] X.env:=by rfl):PE X (.Call (.Name "any" p) [e] [] pos) (Tn ts):=by
 intro pins s σ H Q I h
 refine wpAny_Call_Name_kw (jK I hg hm boot_any ?_ (by decide) (by decide))
 refine PyProof.Rows.callWith_builtin1 (rO (thn (hstr pins s σ H _ I h) λu s1 ⟨S,H1,I1,rdy,W,⟨m,w0⟩,st⟩=>?_) hs) hs rfl
 refine call_function_tree F.kind_any F.plain_any F.entry_any (F.args_any1 _) ?_
 unfold Builtin.«any»
 refine wpAny_bind (m:=oneArg "any" _) (wpAny_pure ?_)
 obtain⟨a1,a2⟩:=xy I1 hc (A':=X.A.in1) rfl rfl
 refine wpAny_bind (wpAny_mono (rdy X.A.in1 (λ_ _=>False) a1 a2 (Nat.le_succ _) (by show X.A.units+1<=_;omega)) (λitv s2 ⟨it,lo,SS,e,sm,s0,_⟩=>?_) λ_ _ z=>z.elim)
 subst e
 refine wpAny_pure ⟨plainId_quiet F.plain_any_loop _,codeAny_mono (HY sm st m 0 H1 s2 s0 w0) λr s' ⟨u,hr,q⟩=>?_⟩
 subst hr
 exact q
def Cw(J:It):lY:=⟨λi H Q=>J.go i H/\∀x H',J.yld i H x H'->Q x H',λi H Q=>J.stop i H/\Q H⟩
theorem vX{A':Around}{it:Addr}{fp:List Addr}{tn:Nat->Heap->Prop}{J:It}{H:Hp}{s:Shared}(hc:X.calm=true)(hP:A'.handled=none)(hf:A'.frames=some X.stack)
  (T:Turn X.prog X.w X.K (.Name "x" ⟨0,0,0,0⟩) J fp it tn) (I:Inv X pins σ H s) (st:tn 0 s.heap) (fk:∀b∈fp,jg X pins H b):
  ∃lo SS,qF X pins σ A' it lo (Cw J) SS/\SS [] 0 H s/\lo<=s.heap.objs.size:=by
 have toA:∀{P:List (Addr×Obj)}{H:Hp}{s:Shared},Inv X P σ H s->Inv ({ X with A:=A'}:Cx) P σ H s:=λI=>
  ⟨⟨I.ok.mod,I.ok.kind,I.ok.glob,I.ok.blt,I.ok.above,I.ok.inj,I.ok.has,I.ok.cab,λ_=>hP,hf,I.ok.stk,I.ok.exf,I.ok.bs,I.ok.bsz,I.ok.noex,I.ok.exfs,I.ok.funs,I.ok.frf⟩,I.os,I.bare,I.base,I.loc,I.cell,I.free,I.freeC,I.pin,I.hok,I.len⟩
 have ofA:∀{P:List (Addr×Obj)}{H:Hp}{s:Shared},X.Ok->Inv ({ X with A:=A'}:Cx) P σ H s->Inv X P σ H s:=λok I=>
  ⟨ok,I.os,I.bare,I.base,I.loc,I.cell,I.free,I.freeC,I.pin,I.hok,I.len⟩
 have flt:∀b∈fp,b<s.heap.objs.size:=λb hb=>let⟨o,e,_⟩:=T.obj 0 _ st b hb;Ze e
 have fkA:∀{P:List (Addr×Obj)}{H':Hp},(∀p∈P,s.heap.objs.size<=p.1)->(∀b∈fp,H' b=none)->∀b∈fp,jg ({ X with A:=A'}:Cx) (pins++P) H' b:=λ{P H'} hP hn b hb=>by
  obtain⟨q0,q1,q2,q3,q4,q5⟩:=fk b hb
  refine⟨hn b hb,q1,q2,q3,q4,λp hp=>?_⟩
  rcases Zm.mp hp with z|z
  .exact q5 p (by simp only[Zm];exact .inl z)
  .rcases Zm.mp z with z|z
   .exact q5 p (by simp only[Zm];exact .inr z)
   .exactλe=>absurd (flt b hb) (by rw[<-e];exact Nat.not_lt.mpr (hP p z))
 refine⟨s.heap.objs.size,λP i H' s'=>(∀p∈P,s.heap.objs.size<=p.1)/\Inv X (pins++P) σ H' s'/\tn i s'.heap/\∀b∈fp,H' b=none,qF.mk' (λst=>st.2.1) (λst=>st.1) ?_ ?_ ?_ ?_ ?_ ?_,⟨λp hp=>absurd hp (by simp),by rw[List.append_nil];exact I,st,λb hb=>(fk b hb).1⟩,Zg _⟩
 .rintro P i H1 s1 Q E ⟨hP1,I1,st1,fr1⟩ ⟨go,yl⟩
  have q:=T.item ({ X with A:=A'}:Cx) rfl rfl rfl hc i (pins++P) s1 σ H1 (λ_ _=>False) (toA I1) (fkA hP1 fr1) st1 go
  refine wpAny_mono (yr (λu=>rfl) q) (λr s2 ⟨u,hr,x,H',I3,r3,y3,st3,fr3⟩=>?_) λ_ _ z=>z.elim
  exact⟨u,x,H',hr,r3,yl x H' y3,hP1,ofA I1.ok I3,st3,fr3⟩
 .rintro P i H1 s1 Q E ⟨hP1,I1,st1,fr1⟩ ⟨hf,hq⟩
  exact wpAny_mono (T.done ({ X with A:=A'}:Cx) rfl rfl rfl hc i (pins++P) s1 σ H1 (λ_ _=>False) (toA I1) (fkA hP1 fr1) st1 hf) (λr s2 ⟨hr,I2⟩=>⟨hr,H1,hq,ofA I1.ok I2⟩) λ_ _ z=>z.elim
 .rintro P i H1 s1 h' tk ⟨hP1,I1,st1,fr1⟩ hk
  exact⟨hP1,I1.kept hk,T.keep _ _ _ st1 λb _ o e=>hk b o e,fr1⟩
 .rintro P i H1 s1 D o ⟨hP1,I1,st1,fr1⟩ hD ho hn hcell
  refine⟨λp hp=>?_,I1.pins_of λp hp=>?_,st1,fr1⟩
  .rcases Zi.mp hp with z|z
   .subst z;exact hD
   .exact hP1 p z
  .rcases Zm.mp hp with z|z
   .exact I1.pin p (by simp[z])
   .rcases Zi.mp z with z|z
    .subst z
     exact⟨ho,hn,λz=>absurd I.lt (by rw[<-z];exact Nat.not_lt.mpr hD),I.nofs hD,hcell⟩
    .exact I1.pin p (by simp[z])
 .rintro p P i H1 s1 ⟨hP1,I1,st1,fr1⟩
  exact⟨λq hq=>hP1 q (List.mem_cons_of_mem _ hq),I1.pins_of λq hq=>I1.pin q (by rcases Zm.mp hq with z|z<;>simp[z]),st1,fr1⟩
 .rintro P i H1 s1 h' tk D ⟨hP1,I1,st1,fr1⟩ hD hn hPD hk
  have l4:∀b,b<s.heap.objs.size->b≠D:=λb hb=>Zk (Zc hb hD)
  refine⟨hP1,I1.turned hk hn (Ne.symm (l4 _ I.lt)) (.inr (Zl I.sz hD)) (λx c e=>let⟨v,q⟩:=I.cell x c e;l4 c q.lt) (λp hp=>?_),T.keep _ _ _ st1 λb hb o e=>hk b o (l4 b (flt b hb)) e,fr1⟩
  rcases Zm.mp hp with z|z
  .exact l4 _ (Ze (I.pin p (by simp[z])).1)
  .rcases Zm.mp z with z|z
   .exact l4 _ (Ze (I.pin p (by simp[z])).1)
   .exact hPD p z
theorem GC{te:TE}(hc:X.calm=true)(he:PE X e te):yP X e (λσ H R=>te σ H λx H1=>∃a,x= .ref a/\((∃xs,SqL X.K H1 a xs)/\R (Cw (Itl X.K a)) H1∨(∃xs,SqT X.K H1 a xs)/\R (Cw (Itt X.K a)) H1)):=by
 intro pins s σ H R I h
 refine thn (he pins s σ H _ I h) λv s1 zq1=>?_
 obtain⟨x,H1,I1,r1,a,e,q⟩:=zq1
 subst e
 cases r1
 rcases q with⟨⟨xs,hq⟩,q⟩|⟨⟨xs,hq⟩,q⟩
 .refine⟨_,H1,I1,λA' E h1 h2 h3 h4=>?_,q⟩
  obtain⟨its,rv,p,hz⟩:=I1.list hq
  refine wpAny_pyIter_list p.isList ?_
  obtain⟨lo,SS,sm,s0,hl⟩:=vX (A':=A') (H:=H1) (s:={ s1 with heap:=s1.heap.push { cls:=.type "list_iterator",data:=.fields #[.ref a,.int 0 0] } }) hc h1 h2 (wB a s1.heap.objs.size) (I1.kept (t':=s1.toks) λb o e=>Zb _ e) ⟨_,Zf _ rfl,rfl,rfl⟩ λb hb=>by
   have e:b=s1.heap.objs.size:=by simpa using hb
   subst e
   exact I1.fpOk (Zg _) (I1.hok.fresh (Zg _))
  exact⟨_,lo,SS,rfl,sm,s0,hl⟩
 .refine⟨_,H1,I1,λA' E h1 h2 h3 h4=>?_,q⟩
  obtain⟨its,rv,p,hz⟩:=I1.tuple hq
  refine wpAny_pyIter_tuple (show s1.heap.IsTuple a its.toArray from p) ?_
  obtain⟨lo,SS,sm,s0,hl⟩:=vX (A':=A') (H:=H1) (s:={ s1 with heap:=s1.heap.push { cls:=.type "tuple_iterator",data:=.fields #[.ref a,.int 0 0] } }) hc h1 h2 (ul a s1.heap.objs.size) (I1.kept (t':=s1.toks) λb o e=>Zb _ e) ⟨_,Zf _ rfl,rfl,rfl⟩ λb hb=>by
   have e:b=s1.heap.objs.size:=by simpa using hb
   subst e
   exact I1.fpOk (Zg _) (I1.hok.fresh (Zg _))
  exact⟨_,lo,SS,rfl,sm,s0,hl⟩
end
section
variable {X:Cx} {e:Expr} {ts:pW} {p pos:Pos} {pins:List (Addr×Obj)} {σ:L2.St}
def Ql(S:lY)(Fin:List V->Hp->Prop)(H1:Hp):Prop:=∃W:Nat->Nat->List V->Hp->Prop,(∃m,W 0 m [] H1)/\∀i m ys H,W i m ys H->
 S.fin i H (λH'=>Fin ys H')∨(ys.length<sizeLine/\S.nxt i H λy H'=>∃m',m'<m/\W (i+1) m' (ys++[y]) H')
theorem yw{A:Around}{it D:Addr}{lo:Nat}{S:lY}{SS:List (Addr×Obj)->Nat->Hp->Shared->Prop}{Fin:List V->Hp->Prop}{W:Nat->Nat->List V->Hp->Prop}{res:Value}(sm:qF X pins σ A.in1 it lo S SS)(hD:lo<=D)
  (st:∀i m ys H,W i m ys H->S.fin i H (λH'=>Fin ys H')∨(ys.length<sizeLine/\S.nxt i H λy H'=>∃m',m'<m/\W (i+1) m' (ys++[y]) H')):
  ∀(m i:Nat)(ys:List V)(us:List Value)(c:Nat)(H:Hp)(s:Shared),SS [(D,aR us c)] i H s->W i m ys H->Vals ys us->ys.length<=sizeLine->
   codeAny (model X.prog X.w) A (.builtin "list.extend.loop" ⟨[.ref D,.ref it,res],[]⟩) (λr s'=>r= .ok (.ret res)/\∃ys us c H',Inv X pins σ H' s'/\Vals ys us/\ys.length<=sizeLine/\s'.heap.get? D=some (aR us c)/\H' D=none/\Fin ys H') s:=by
 intro m
 induction m using Nat.strongRecOn with
 |ind m ih=>
  intro i ys us c H s hsp hw hv hz
  have hn:H D=none:=((sm.inv hsp).pin (D,aR us c) (by simp)).2.1
  refine codeAny_builtin F.entry_extend_loop ?_
  rw[Around.under_plainId F.plain_extend_loop _]
  show wpAny _ A.in1 (pyNext (.ref it) >>= _) _ _ s
  rcases st i m ys H hw with hf|⟨hlt,hn'⟩
  .refine wpAny_bind (wpAny_mono (sm.stop (λ_ _=>False) hsp hf) (λr s1 ⟨hr,H1,q,I1⟩=>?_) λ_ _ z=>z.elim)
   subst hr
   have pl:=I1.pin (D,aR us c) (by simp)
   exact wpAny_pure ⟨rfl,ys,us,c,H1,I1.pins_of λp hp=>I1.pin p (by simp[hp]),hv,hz,pl.1,pl.2.1,q⟩
  .refine wpAny_bind (wpAny_mono (sm.next (λ_ _=>False) hsp hn') (λr s1 ⟨u,y,H',hr,ry,⟨m',hm,hw'⟩,hs'⟩=>?_) λ_ _ z=>z.elim)
   subst hr
   have pl:=(sm.inv hs').pin (D,aR us c) (by simp)
   have hul:us.length=ys.length:=hv.length.symm
   show wpAny _ A.in1 (updateSeq D (·.push u) >>= _) _ _ _
   refine wpAny_bind ?_
   refine wpAny_updateSeq pl.1 rfl (wpAny_pure ⟨plainId_quiet F.plain_extend_loop _,ih m' hm (i+1) (ys++[y]) (us++[u]) (c+1) H' _ (sm.put (tk:=s1.toks) hs' (λp hp=>absurd hp (by simp)) (λb o hb e=>(Heap.get?_update_other _ _ (Ne.symm hb)).trans e) (by rw[Heap.get?_update_self _ pl.1 rfl];simp[Obj.mapSeq,aR]) (λv z=>by cases z)) hw' (hv.append (.cons ry .nil)) (by rw[List.length_append];exact hlt)⟩) ?_ ?_
   .show us.toArray.size<=sizeLine
    rw[Zd,hul];exact hz
   .show(us.toArray.push u).size<=sizeLine+1
    rw[Array.size_push,Zd,hul];omega
theorem yh{A:Around}{E:Value->Shared->Prop}{a:Addr}{lo:Nat}{S:lY}{SS:List (Addr×Obj)->Nat->Hp->Shared->Prop}{Fin:List V->Hp->Prop}{H:Hp}{s:Shared}{Q:List Value->Shared->Prop}(sm:qF X pins σ A.in1 a lo S SS)(hs:SS [] 0 H s)(hal:a<lo)(hlo:lo<=s.heap.objs.size)
  (hg:∀P i H s,SS P i H s->∃g,s.heap.IsGen a g) (hC:Ql S Fin H) (hQ:∀ys us H' s',Inv X pins σ H' s'->Vals ys us->ys.length<=sizeLine->Fin ys H'->Q us s'):wpAny (model X.prog X.w) A (collect (.ref a)) Q E s:=by
 obtain⟨W,⟨m,w0⟩,st⟩:=hC
 have hT:∀{P i H s},SS P i H s->s.TypeIs (.ref a) "generator":=λh=>let⟨g,ig⟩:=hg _ _ _ _ h;ig.typeIs
 have hSa:s.heap.objs.size≠a:=Nat.ne_of_gt (Zc hal hlo)
 unfold collect
 refine wpAny_bind (wpAny_runValue (codeAny_builtin F.entry_proto_collect ?_))
 rw[Around.under_plainId F.plain_proto_collect _]
 show wpAny _ A.in1 (newList [] >>= λl=>again (.builtin "list.__iadd__" ⟨[l,.ref a],[]⟩)) _ _ s
 refine wpAny_bind (wpAny_newObj_type ?_)
 refine wpAny_pure ⟨plainId_quiet F.plain_list_iadd _,codeAny_builtin F.entry_list_iadd ?_⟩
 rw[Around.under_plainId F.plain_list_iadd _]
 have hn:H s.heap.objs.size=none:=(sm.inv hs).hok.fresh (Zg _)
 have hst₁:=sm.keep (h':=s.heap.push { cls:=.type "list",data:=.seq ([]:List Value).toArray}) (tk:=s.toks) hs λb o e=>Zb _ e
 show wpAny _ A.in1 (Builtin.List.listExtendWith (.ref s.heap.objs.size) (.ref a) (.ref s.heap.objs.size)) _ _ _
 unfold Builtin.List.listExtendWith
 refine wpAny_bind (wpAny_typeOf (hT hst₁) ?_)
 have h1:Builtin.List.listSameRef (.ref s.heap.objs.size) (.ref a)=false:=by simp[Builtin.List.listSameRef,hSa]
 have h2:(Value.type "generator"==Value.type "list")=false:=by decide
 have h3:(Value.type "generator"==Value.type "tuple")=false:=by decide
 simp only[h1,h2,h3,Bool.or_false,Bool.false_eq_true,if_false]
 obtain⟨g1,ig1⟩:=hg _ _ _ _ hst₁
 refine wpAny_bind (wpAny_pyIter_gen ig1 ?_)
 refine wpAny_bind (wpAny_holding ?_)
 unfold Builtin.List.listLengthHint
 refine wpAny_bind (wpAny_specialOf (hT hst₁) F.gen_no_len ?_)
 show wpAny _ A.in1 (specialOf (Value.ref a) (Str.ofString "__length_hint__") >>= _) _ _ _
 refine wpAny_bind (wpAny_specialOf (hT hst₁) F.gen_no_hint ?_)
 refine wpAny_pure ?_
 show wpAny _ A.in1 (rule "list.extend.makes-room" >>= λ_=>Builtin.List.listTouch (.ref s.heap.objs.size) >>= λ_=>
  again (.builtin "list.extend.loop" ⟨[.ref s.heap.objs.size,.ref a,.ref s.heap.objs.size],[]⟩)) _ _ _
 refine wpAny_bind (wpAny_rule ?_)
 have hS₁:(s.heap.push { cls:=.type "list",data:=.seq ([]:List Value).toArray}).get? s.heap.objs.size=some { cls:=.type "list",data:=.seq ([]:List Value).toArray}:=Zf _ rfl
 refine wpAny_bind ?_
 show wpAny _ A.in1 (updateSeq s.heap.objs.size (·.push .none) >>= λ_=>updateSeq s.heap.objs.size (·.pop)) _ _ _
 refine wpAny_bind (wpAny_updateSeq hS₁ rfl ?_)
 have hS₂:=Heap.get?_update_self (Obj.mapSeq (·.push Value.none)) hS₁ rfl
 refine wpAny_updateSeq hS₂ rfl ?_
 have hS₃:=Heap.get?_update_self (Obj.mapSeq (·.pop)) hS₂ rfl
 have oth:∀b o,b≠s.heap.objs.size->(s.heap.push { cls:=.type "list",data:=.seq ([]:List Value).toArray}).get? b=some o->
   (((s.heap.push { cls:=.type "list",data:=.seq ([]:List Value).toArray}).update s.heap.objs.size (Obj.mapSeq (·.push Value.none))).update s.heap.objs.size (Obj.mapSeq (·.pop))).get? b=some o:=
  λb o hb e=>(Heap.get?_update_other _ _ (Ne.symm hb)).trans ((Heap.get?_update_other _ _ (Ne.symm hb)).trans e)
 refine wpAny_pure ⟨plainId_quiet F.plain_extend_loop _,codeAny_mono (yw (res:=.ref s.heap.objs.size) sm hlo st m 0 [] [] _ H _ (sm.put (s:=({ s with heap:=s.heap.push { cls:=.type "list",data:=.seq ([]:List Value).toArray} }:Shared)) (h':=((s.heap.push { cls:=.type "list",data:=.seq ([]:List Value).toArray}).update s.heap.objs.size (Obj.mapSeq (·.push Value.none))).update s.heap.objs.size (Obj.mapSeq (·.pop))) (tk:=s.toks) (sm.pin hst₁ hlo hS₁ hn (λv z=>by cases z)) (λp hp=>absurd hp (by simp)) oth hS₃ (λv z=>by cases z)) w0 .nil (Nat.zero_le _)) λr s' ⟨hr,ys,us,c,H',I',hv,hz,ho,hn',hfin⟩=>?_⟩
 subst hr
 show wpAny _ A (load s.heap.objs.size >>= _) _ _ s'
 refine wpAny_bind (wpAny_load ho ?_)
 refine wpAny_pure ?_
 have e:(us.toArray).toList=us:=by simp
 show Q (us.toArray).toList s'
 rw[e]
 exact hQ ys us H' s' I' hv hz hfin
def Tt(ts:pW):TE:=λσ H Q=>ts σ H λS H1=>Ql S (λys H'=>∀p,H' p=none->Q (.ref p) (upd H' p (.tup ys))) H1
theorem tK{A:Around}{E:Value->Shared->Prop}{a:Addr}{lo:Nat}{S:lY}{SS:List (Addr×Obj)->Nat->Hp->Shared->Prop}{Fin:List V->Hp->Prop}{H:Hp}{s:Shared}{Q₁:Value->Shared->Prop}(sm:qF X pins σ A.in1.in1 a lo S SS)(hs:SS [] 0 H s)(hal:a<lo)(hlo:lo<=s.heap.objs.size)
  (hg:∀P i H s,SS P i H s->∃g,s.heap.IsGen a g) (hC:Ql S Fin H) (h:∀ys us H' s',Inv X pins σ H' s'->Vals ys us->ys.length<=sizeLine->Fin ys H'->Q₁ (.ref s'.heap.objs.size) { s' with heap:=s'.heap.push { cls:=.type "tuple",data:=.seq us.toArray} }):
  codeAny (model X.prog X.w) A (.call (.builtin "tuple.__new__") ⟨[.type "tuple",.ref a],[]⟩) (wants Q₁ E) s:=by
 refine codeAny_of_tree ?_
 show wpAny _ A.in1 (do checkBuiltinCall "tuple.__new__" ⟨[.type "tuple",.ref a],[]⟩;again (.builtin "tuple.__new__" ⟨[.type "tuple",.ref a],[]⟩)) _ _ s
 refine wpAny_bind (wpAny_of_eq (F.newCall_tuple_1 _) (wpAny_pure ⟨plainId_quiet F.plain_tuple_new _,codeAny_builtin F.entry_tuple_new ?_⟩))
 rw[Around.under_plainId F.plain_tuple_new _]
 have hsub:=sub_tuple_self
 have hinit:=init_tuple_lookup
 have hmh:=madeHere_tuple
 obtain⟨g0,ig0⟩:=hg _ _ _ _ hs
 have hTI:=ig0.typeIs
 have col:∀{Q:List Value->Shared->Prop}{E:Value->Shared->Prop},(∀ys us H' s',Inv X pins σ H' s'->Vals ys us->ys.length<=sizeLine->Fin ys H'->Q us s')->wpAny (model X.prog X.w) A.in1 (collect (.ref a)) Q E s:=λhQ=>yh sm hs hal hlo hg hC hQ
 wp_walk using wpAny_typeOf hTI,col
 intro ys us H' s' I' hv hz hfin
 show wpAny _ _ (Builtin.Tuple.tupleExact us.toArray >>= λv=>ret v) _ _ _
 unfold Builtin.Tuple.tupleExact
 refine wpAny_bind (wpAny_newObj_type ?_ (by show us.toArray.size<=sizeLine;rw[Zd,<-hv.length];exact hz))
 refine wpAny_pure ?_
 exact h ys us H' s' I' hv hz hfin
theorem Jr(hc:X.calm=true)(hm:X.mg "tuple"=none)(hstr:vI X e ts)(hg:Gl X "tuple":=by rfl)(hs:starEach [e] X.env=(false,eval e X.env)::starEach [] X.env:=by rfl):PE X (.Call (.Name "tuple" p) [e] [] pos) (Tt ts):=by
 intro pins s σ H Q I h
 refine wpAny_Call_Name_kw (jK I hg hm PyProof.Rows.boot_tuple ?_ (by decide) (by decide))
 refine PyProof.Rows.callWith_type1 (rO (thn (hstr pins s σ H _ I h) λu s1 ⟨a,S,H1,e,I1,rdy,hC⟩=>?_) hs) hs rfl
 subst e
 obtain⟨a1,a2⟩:=xy I1 hc (A':=X.A.in1.in1.in1) rfl rfl
 obtain⟨lo,SS,sm,s0,hal,hlo,hgn⟩:=rdy X.A.in1.in1.in1 a1 a2 (Nat.le_succ _) (by show X.A.units+1+1+1<=_;omega)
 refine callType_codes (Q₁:=λobj s₁=>s₁.TypeIs obj "tuple"/\EP X pins σ Q obj s₁) F.called_tuple (F.typeCall_tuple_1 _) F.entry_object_init
  (tK (A:=X.A.in1) sm s0 hal hlo hgn hC λys us H' s' I' hv hz hfin=>⟨⟨_,Zf _ rfl,rfl⟩,?_⟩) λobj s₁ h₁=>?_
 .have hf:H' s'.heap.objs.size=none:=I'.hok.fresh (Zg _)
  refine⟨.ref s'.heap.objs.size,upd H' s'.heap.objs.size (.tup ys),I'.laid (t':=s'.toks) (λb u e=>Zb _ e) (Zg _) ?_,rfl,hfin _ hf⟩
  exact⟨hz,us,hv,⟨_,Zf _ rfl,rfl,_,rfl⟩⟩
 .exact⟨h₁.1,F.args_object_init_2 obj _,object_init_meets F.called_tuple.init.lookup F.called_tuple.made (by decide) X.prog X.w X.A.in1 _ s₁ ⟨h₁.1,rfl,h₁.2⟩⟩
def Ud(ts:pW):TE:=λσ H Q=>ts σ H λS H1=>∃W:Nat->Nat->Int->Hp->Prop,(∃m,W 0 m 0 H1)/\∀i m t H,W i m t H->
 S.fin i H (λH'=>Q (.int t) H')∨S.nxt i H λy H'=>∃j,y= .int j/\∃m',m'<m/\W (i+1) m' (t+j) H'
theorem FP{A:Around}{it D:Addr}{lo:Nat}{S:lY}{SS:List (Addr×Obj)->Nat->Hp->Shared->Prop}{Q:VK}{W:Nat->Nat->Int->Hp->Prop}(sm:qF X pins σ A.in1 it lo S SS)(hD:lo<=D)
  (st:∀i m t H,W i m t H->S.fin i H (λH'=>Q (.int t) H')∨S.nxt i H λy H'=>∃j,y= .int j/\∃m',m'<m/\W (i+1) m' (t+j) H'):
  ∀(m i:Nat)(t:Int)(tA:Tok)(c:Nat)(stage:Int)(H:Hp)(s:Shared),(stage=0∨stage=2)->SS [(D,aR [.int t tA] c)] i H s->W i m t H->
   codeAny (model X.prog X.w) A (.builtin "sum.loop" ⟨[.ref it,.ref D,rawInt stage,rawInt 0],[]⟩) (λr s'=>∃u,r= .ok (.ret u)/\EP X pins σ Q u s') s:=by
 intro m
 induction m using Nat.strongRecOn with
 |ind m ih=>
  intro i t tA c stage H s hstg hsp hw
  have ho:s.heap.get? D=some (aR [.int t tA] c):=((sm.inv hsp).pin (D,aR [.int t tA] c) (by simp)).1
  refine codeAny_builtin F.entry_sum_loop ?_
  rw[Around.under_plainId F.plain_sum_loop _]
  show wpAny _ A.in1 (seqItems? (.ref D) >>= _) _ _ s
  refine wpAny_bind (wpAny_seqItems ho rfl ?_)
  show wpAny _ A.in1 (tryCatch (pyNext (.ref it)) _ >>= _) _ _ s
  rcases st i m t H hw with hf|hn'
  .refine wpAny_bind (wpAny_tryCatch (wpAny_mono (sm.stop (λ_ _=>False) hsp hf) (λr s1 ⟨hr,H1,q,I1⟩=>?_) λ_ _ z=>z.elim))
   subst hr
   exact wpAny_pure ⟨_,rfl,.int t,H1,I1.pins_of λp hp=>I1.pin p (by simp[hp]),⟨tA,rfl⟩,q⟩
  .refine wpAny_bind (wpAny_tryCatch (wpAny_mono (sm.next (λ_ _=>False) hsp hn') (λr s1 ⟨u,y,H',hr,ry,⟨j,ey,m',hm,hw'⟩,hs'⟩=>?_) λ_ _ z=>z.elim))
   subst hr ey
   obtain⟨tj,rfl⟩:=ry
   have pl:=(sm.inv hs').pin (D,aR [.int t tA] c) (by simp)
   have plain:∀(next:Value->Int),(∀r,next r=2)->wpAny (model X.prog X.w) A.in1 (do
     match<-(holding [Value.int j tj] (binaryOp .Add (Value.int t tA) (Value.int j tj))).attempt with
     | .ok r=>updateSeq D λ_=> #[r];letGo [Value.int t tA,Value.int j tj];(do updateSeq D λ_=> #[r];again (.builtin "sum.loop" ⟨[.ref it,.ref D,rawInt (next r),rawInt 0],[]⟩))
     | .error e=>updateSeq D λ_=> #[];letGo [Value.int t tA,Value.int j tj] [e];throw e) (λfin s'=>match fin with
      | .done f=>∃u,(Except.ok f:Result)= .ok (.ret u)/\EP X pins σ Q u s'
      | .again c=>c.quiet=true/\codeAny (model X.prog X.w) A c (λr s'=>∃u,r= .ok (.ret u)/\EP X pins σ Q u s') s') (λe s'=>∃u,(Except.error e:Result)= .ok (.ret u)/\EP X pins σ Q u s') s1:=by
    intro next hnx
    refine wpAny_bind (wpAny_attempt (wpAny_holding (add_int ?_)))
    refine wpAny_bind (wpAny_updateSeq (s:={ s1 with toks:=s1.toks+1}) pl.1 rfl ?_)
    have o1:=Heap.get?_update_self (Obj.mapSeq (λ_=> #[Value.int (t+j) s1.toks])) pl.1 rfl
    refine wpAny_bind (wpAny_letGo ?_)
    refine wpAny_bind (wpAny_updateSeq o1 rfl ?_)
    have o2:=Heap.get?_update_self (Obj.mapSeq (λ_=> #[Value.int (t+j) s1.toks])) o1 rfl
    rw[hnx]
    refine wpAny_pure ⟨plainId_quiet F.plain_sum_loop _,ih m' hm (i+1) (t+j) s1.toks _ 2 H' _ (.inr rfl) (sm.put (s:=s1) (h':=(s1.heap.update D (Obj.mapSeq (λ_=> #[Value.int (t+j) s1.toks]))).update D (Obj.mapSeq (λ_=> #[Value.int (t+j) s1.toks]))) (tk:=s1.toks+1) hs' (λp hp=>absurd hp (by simp)) (λb o hb e=>(Heap.get?_update_other _ _ (Ne.symm hb)).trans ((Heap.get?_update_other _ _ (Ne.symm hb)).trans e)) o2 (λv z=>by cases z)) hw'⟩
   rcases hstg with rfl|rfl
   .show wpAny _ A.in1 (if(_:Bool)=true then(mkInt (t+j) >>= _)else _) _ _ _
    split
    .refine wpAny_bind (wpAny_mkInt ?_)
     show wpAny _ A.in1 (updateSeq D (λ_=> #[.int (t+j) s1.toks]) >>= _) _ _ _
     refine wpAny_bind (wpAny_updateSeq (s:={ s1 with toks:=s1.toks+1}) pl.1 rfl ?_)
     have o1:=Heap.get?_update_self (Obj.mapSeq (λ_=> #[Value.int (t+j) s1.toks])) pl.1 rfl
     exact wpAny_pure ⟨plainId_quiet F.plain_sum_loop _,ih m' hm (i+1) (t+j) s1.toks _ 0 H' _ (.inl rfl) (sm.put (s:=s1) (h':=s1.heap.update D (Obj.mapSeq (λ_=> #[Value.int (t+j) s1.toks]))) (tk:=s1.toks+1) hs' (λp hp=>absurd hp (by simp)) (λb o hb e=>(Heap.get?_update_other _ _ (Ne.symm hb)).trans e) o1 (λv z=>by cases z)) hw'⟩
    .exact wpAny_bind (wpAny_rule (plain (λ_=>2) λ_=>rfl))
   .exact plain (λ_=>2) λ_=>rfl
theorem Jp(hc:X.calm=true)(hm:X.mg "sum"=none)(hstr:yP X e ts)(hg:Gl X "sum":=by rfl)(hs:starEach [e] X.env=(false,eval e X.env)::starEach [] X.env:=by rfl):PE X (.Call (.Name "sum" p) [e] [] pos) (Ud ts):=by
 intro pins s σ H Q I h
 refine wpAny_Call_Name_kw (jK I hg hm boot_sum ?_ (by decide) (by decide))
 refine PyProof.Rows.callWith_builtin1 (rO (thn (hstr pins s σ H _ I h) λu s1 ⟨S,H1,I1,rdy,W,⟨m,w0⟩,st⟩=>?_) hs) hs rfl
 refine call_function_tree F.kind_sum F.plain_sum F.entry_sum (F.args_sum1 _) ?_
 unfold Builtin.«sum»
 simp only[List.length_cons,List.length_nil]
 rw[if_neg (by decide)]
 refine wpAny_bind (wpAny_of_eq (show Builtin.Builtins.bindParams "sum" ["start"] 0 { }=pure [none]from rfl) ?_)
 obtain⟨a1,a2⟩:=xy I1 hc (A':=X.A.in1) rfl rfl
 refine wpAny_bind (wpAny_mono (rdy X.A.in1 (λ_ _=>False) a1 a2 (Nat.le_succ _) (by show X.A.units+1<=_;omega)) (λitv s2 ⟨it,lo,SS,e,sm,s0,hlo⟩=>?_) λ_ _ z=>z.elim)
 subst e
 refine wpAny_bind (wpAny_mkInt ?_)
 refine wpAny_bind (wpAny_pure ?_)
 simp only[List.forIn_cons,List.forIn_nil]
 refine wpAny_bind (wpAny_bind (wpAny_bind (wpAny_isInstance (T:="int") (b:=false) (typeIs_int _ _ _) PySem.sub_int_str ?_)))
 simp only[Bool.false_eq_true,if_false]
 refine wpAny_pure (wpAny_bind (wpAny_bind (wpAny_isInstance (T:="int") (b:=false) (typeIs_int _ _ _) PySem.sub_int_bytes ?_)))
 simp only[Bool.false_eq_true,if_false]
 refine wpAny_pure (wpAny_bind (wpAny_bind (wpAny_isInstance (T:="int") (b:=false) (typeIs_int _ _ _) PySem.sub_int_bytearray ?_)))
 simp only[Bool.false_eq_true,if_false]
 refine wpAny_pure (wpAny_pure ?_)
 refine wpAny_bind (wpAny_newObj_type ?_)
 have hn:H1 s2.heap.objs.size=none:=(sm.inv s0).hok.fresh (Zg _)
 refine wpAny_pure ⟨plainId_quiet F.plain_sum_loop _,codeAny_mono (FP sm hlo st m 0 0 s2.toks 0 0 H1 _ (.inl rfl) (sm.pin (sm.keep (s:=s2) (h':=s2.heap.push { cls:=.type "list",dict:=none,data:=.seq [Value.int 0 s2.toks].toArray}) (tk:=s2.toks+1) s0 λb o e=>Zb _ e) hlo (Zf _ rfl) hn (λv z=>by cases z)) w0) λr s' ⟨u,hr,q⟩=>?_⟩
 subst hr
 exact q
end
end L2
namespace L3
open PySem PySem.Spec PyProof.Rows L2
abbrev fZ:=Mu->Option (D×Mu)
structure Mg(K:PySem.W.Frag)(tb:List Addr)(S:lY)(ths:List fZ)(W0:Wd):Prop where
 nxt:∀(i:Nat) W th d μ' Q,Le tb W0 W->WOk K tb W->ths[i]? =some th->th W.mu=some (d,μ')->(∀v W',WOk K tb W'->Le tb W W'->W'.mu=μ'->Den K tb W' d v->Q v W'.H)->S.nxt i W.H Q
 fin:∃P:Mu->Prop,P W0.mu/\(∀th∈ths,∀μ d μ',P μ->th μ=some (d,μ')->P μ')/\∀(i:Nat) W Q,Le tb W0 W->WOk K tb W->P W.mu->ths.length<=i->(∀W',WOk K tb W'->Le tb W W'->W'.mu=W.mu->Q W'.H)->S.fin i W.H Q
abbrev StF:=En->Mu->Option (List fZ×Mu)
def Mh(K:PySem.W.Frag)(tb:List Addr)(f:StF):pW:=λσ H R=>∃W δ ths μ',W.H=H/\WOk K tb W/\iM K tb W δ σ/\f δ W.mu=some (ths,μ')/\
 ∀S W',WOk K tb W'->Le tb W W'->W'.mu=μ'->Mg K tb S ths W'->R S W'.H
def zU(X:Cx)(tb:List Addr)(e:Expr)(f:StF):Prop:=yP X e (Mh X.K tb f)
def Bd(X:Cx)(tb:List Addr)(e:Expr)(f:StF):Prop:=vI X e (Mh X.K tb f)
section
variable {X:Cx} {tb:List Addr} {e tg iter elt:Expr} {f:EF} {pos p:Pos} {fs:StF}
theorem Kd{t t':pW}(h:yP X e t)(k:∀σ H R,t' σ H R->t σ H R):yP X e t':=λpins s σ H R I hq=>h pins s σ H R I (k σ H R hq)
theorem Ii{t t':pW}(h:vI X e t)(k:∀σ H R,t' σ H R->t σ H R):vI X e t':=λpins s σ H R I hq=>h pins s σ H R I (k σ H R hq)
theorem tZ(h:Bd X tb e fs):zU X tb e fs:=zK h
def thE(d:D):fZ:=λμ=>some (d,μ)
def sI(f:EF):StF:=λδ μ=>(f δ μ).bind λr=>match r.1 with
 | .tup ds=>some (ds.map thE,r.2)
 | .lst ds=>some (ds.map thE,r.2)
 |_=>none
theorem Hm{K:PySem.W.Frag}{J:It}{ds:List D}{W0:Wd}(io:DG K tb J ⟨ds,none⟩ W0):Mg K tb (Cw J) (ds.map thE) W0 where
 nxt:=λi W th d μ' Q l ok e1 e2 hQ=>by
  rw[List.getElem?_map]at e1
  cases q:ds[i]? with
  |none=>rw[q]at e1;cases e1
  |some d0=>
   rw[q]at e1
   cases e1
   cases e2
   obtain⟨go,yl⟩:=io.go i W d l ok (Src.bB rfl) q
   exact⟨go,λx H' y=>by
    obtain⟨W',rfl,ok',l',m',d'⟩:=yl x H' y
    exact hQ x W' ok' l' m' d'⟩
 fin:=⟨λ_=>True,trivial,λ_ _ _ _ _ _ _=>trivial,λi W Q l ok _ hi hq=>⟨io.stop i W l ok (Src.bB rfl) (by simpa using hi),hq W ok (Le.refl _) rfl⟩⟩
theorem qN(hc:X.calm=true)(he:PD X tb e f):zU X tb e (sI f):=
 Kd (GC hc he) λσ H R zq1=>by
  obtain⟨W,δ,ths,μ',e,ok,hd,hf,h⟩:=zq1
  unfold sI at hf
  obtain⟨⟨x,μ1⟩,e1,e2⟩:=Za.mp hf
  refine⟨W,δ,x,μ1,e,ok,hd,e1,λv W1 ok1 l1 m1 d1=>?_⟩
  cases x with
  |tup ds=>
   cases e2
   obtain⟨a,xs,rfl,q,r⟩:=iB d1
   exact⟨a,rfl,.inr ⟨⟨xs,SqT.fz q⟩,h _ W1 ok1 l1 m1 (Hm (Ik q r))⟩⟩
  |lst ds=>
   cases e2
   obtain⟨a,xs,rfl,q,r⟩:=mL d1
   exact⟨a,rfl,.inl ⟨⟨xs,SqL.fz q⟩,h _ W1 ok1 l1 m1 (Hm (HD q r))⟩⟩
  |_=>cases e2
def thG(h:GF)(fe:EF)(δb:En)(d:D):fZ:=λμ=>(h d δb μ).bind λδ1=>fe δ1 μ
def pA(own:List Str)(capI:List Nat)(fi:IF)(h:GF)(fe:EF):StF:=λδ μ=>(fi δ μ).bind λr=>match r.1.cel with
 |none=>some (r.1.items.map (thG h fe (cu own δ capI)),r.2)
 |some _=>none
theorem lg{fi:IF}{h:GF}{fe:EF}{own cap:List Str}{capI ts:List Nat}{scope:Scope}{P:Addr}{kr:Nat}(hc:X.calm=true)(hr:gW kr X.A)(B:dZ X own cap capI scope)(hown:∀x∈own,(x,NameKind.free)∉scope.names)(hnc:∀y∈scope.names,y.2≠ .cell)
  (hP:P∈tb) (htb:∃c,X.env.code= .ref c/\PySem.W.CodeHd X.base c P) (hi:PID X tb tg iter fi)
  (hg:∀AG cs C code fp s2 H2,PGD (uB X AG own cap scope cs C code fp s2 H2) tb tg ts h)
  (he:∀AG cs C code fp s2 H2,(∀k,gW (k+1) X.A->gW k AG)->PD (uB X AG own cap scope cs C code fp s2 H2) tb elt fe)
  (hts:∀i∈ts,i<own.length:=by decide) (h0:scope.names.lookup (".0":Str)=some NameKind.local:=by rfl) (hco:scope.isCoroutine=false:=by rfl) (hs:∀x,genFold iter X.env x=pure x:=by intro _;rfl):
  Bd X tb (.GeneratorExp elt [⟨tg,iter,[],0⟩] scope pos) (pA own capI fi h fe):=
 Ii (Fj (g:=tDG X.K tb ts h) (te:=tD X.K tb fe) hc hr B hown hnc h0 hco htb hi hg he hs) λσ H R zq2=>by
  obtain⟨W,δ,ths,μ',e,ok,hd,hf,k⟩:=zq2
  unfold pA at hf
  obtain⟨⟨S,μ1⟩,e1,e2⟩:=Za.mp hf
  obtain⟨items,cel⟩:=S
  cases cel with
  |some n=>cases e2
  |none=>
   cases e2
   refine⟨W,δ,⟨items,none⟩,_,e,ok,hd,e1,λJ W1 ok1 l1 m1 io=>?_⟩
   obtain⟨ps,ep,tp⟩:=ok1.tab P hP
   refine⟨ps,ep,tp,λlo H2 ps' hG=>?_⟩
   obtain⟨ok2,l2⟩:=ok1.tbl hP ep hG
   refine k _ ⟨H2,W1.ad,W1.mu⟩ ok2 (l1.trans l2) m1 ⟨λi W3 th d μ3 Q l3 ok3 e3 e4 hQ=>?_,⟨λ_=>True,trivial,λ_ _ _ _ _ _ _=>trivial,λi W3 Q l3 ok3 _ hi3 hq=>?_⟩⟩
   .rw[List.getElem?_map]at e3
    cases q:items[i]? with
    |none=>rw[q]at e3;cases e3
    |some d0=>
     rw[q]at e3
     cases e3
     unfold thG at e4
     obtain⟨δ1,e5,e6⟩:=Za.mp e4
     obtain⟨go,yl⟩:=io.go i W3 d0 (l2.trans l3) ok3 (Src.bB rfl) q
     refine⟨go,λx H' y=>?_⟩
     obtain⟨W4,rfl,ok4,l4,m4,d4⟩:=yl x H' y
     refine⟨W4,cu own δ capI,d0,δ1,rfl,ok4,(rQ hd).mono' (((l1.trans l2).trans l3).trans l4),d4,(by rw[m4];exact e5),λσ' d' hl ht=>⟨fits_of hts hl ht,?_⟩⟩
     exact⟨W4,δ1,d,μ3,rfl,ok4,d',(by rw[m4];exact e6),λv W5 ok5 l5 m5 d5=>hQ v W5 ok5 (l4.trans l5) m5 d5⟩
   .exact⟨io.stop i W3 (l2.trans l3) ok3 (Src.bB rfl) (by simpa using hi3),hq W3 ok3 (Le.refl _) rfl⟩
def wZ:D->Option Bool
 | .bl b=>some b
 | .int i=>some (i != 0)
 |_=>none
theorem yF{K:PySem.W.Frag}{W:Wd}{x:D}{v:V}{k:Bool}(h:Den K tb W x v)(e:wZ x=some k):Dt v k:=by
 cases x with
 |bl b=>cases e;exact .inl (ir h)
 |int i=>cases e;exact .inr ⟨i,bf h,rfl⟩
 |_=>cases e
def uI:List fZ->Mu->Option (Bool×Mu)
 | [],μ=>some (true,μ)
 |t::r,μ=>(t μ).bind λx=>(wZ x.1).bind λk=>if k=true then uI r x.2 else some (false,x.2)
def zH:List fZ->Mu->Option (Bool×Mu)
 | [],μ=>some (false,μ)
 |t::r,μ=>(t μ).bind λx=>(wZ x.1).bind λk=>if k=true then some (true,x.2)else zH r x.2
def yc:List fZ->Mu->Option (List D×Mu)
 | [],μ=>some ([],μ)
 |t::r,μ=>(t μ).bind λx=>(yc r x.2).bind λq=>some (x.1::q.1,q.2)
def yM:Int->List fZ->Mu->Option (Int×Mu)
 |a,[],μ=>some (a,μ)
 |a,t::r,μ=>(t μ).bind λx=>match x.1 with
  | .int j=>yM (a+j) r x.2
  |_=>none
def Ac(f:StF):EF:=λδ μ=>(f δ μ).bind λr=>(uI r.1 r.2).bind λq=>some (.bl q.1,q.2)
def Hk(f:StF):EF:=λδ μ=>(f δ μ).bind λr=>(zH r.1 r.2).bind λq=>some (.bl q.1,q.2)
def vW(f:StF):EF:=λδ μ=>(f δ μ).bind λr=>if r.1.length<=sizeLine then(yc r.1 r.2).bind λq=>some (.tup q.1,q.2)else none
def Ku(f:StF):EF:=λδ μ=>(f δ μ).bind λr=>(yM 0 r.1 r.2).bind λq=>some (.int q.1,q.2)
theorem Bk(hc:X.calm=true)(hm:X.mg "all"=none)(hstr:zU X tb e fs)(hg:Gl X "all":=by rfl)(hs:starEach [e] X.env=(false,eval e X.env)::starEach [] X.env:=by rfl):PD X tb (.Call (.Name "all" p) [e] [] pos) (Ac fs):=
 fY (Je hc hm hstr hg hs) λσ H Q zq3=>by
  obtain⟨W,δ,d,μ',e,ok,hd,hf,h⟩:=zq3
  unfold Ac at hf
  obtain⟨⟨ths,μ1⟩,e1,hf⟩:=Za.mp hf
  obtain⟨⟨b,μ2⟩,e2,e3⟩:=Za.mp hf
  cases e3
  refine⟨W,δ,ths,μ1,e,ok,hd,e1,λS W1 ok1 l1 m1 so=>?_⟩
  obtain⟨P,p0,pk,fin⟩:=so.fin
  refine⟨λi m H2=>m=ths.length-i/\∃W2,W2.H=H2/\WOk X.K tb W2/\Le tb W1 W2/\P W2.mu/\uI (ths.drop i) W2.mu=some (b,μ2),⟨_,rfl,W1,rfl,ok1,Le.refl _,p0,by rw[m1];exact e2⟩,?_⟩
  rintro i m H2 ⟨rfl,W2,rfl,ok2,l2,hp2,ha⟩
  by_cases hlt:i<ths.length
  .right
   rw[List.drop_eq_getElem_cons hlt]at ha
   unfold uI at ha
   obtain⟨⟨x,μ3⟩,e3,ha⟩:=Za.mp ha
   obtain⟨k,e4,ha⟩:=Za.mp ha
   refine so.nxt i W2 ths[i] x μ3 _ l2 ok2 (by simp[hlt]) e3 λv W3 ok3 l3 m3 d3=>⟨k,yF d3 e4,?_⟩
   cases k with
   |true=>
    rw[if_pos rfl]
    exact⟨ths.length-(i+1),by omega,rfl,W3,rfl,ok3,l2.trans l3,(by rw[m3];exact pk _ (List.getElem_mem hlt) _ _ _ hp2 e3),by rw[m3];exact ha⟩
   |false=>
    rw[if_neg Zr]
    cases ha
    exact h _ W3 ok3 ((l1.trans l2).trans l3) m3 eO
  .left
   rw[List.drop_of_length_le (by omega)]at ha
   cases ha
   exact fin i W2 _ l2 ok2 hp2 (by omega) λW3 ok3 l3 m3=>h _ W3 ok3 ((l1.trans l2).trans l3) m3 eO
theorem Fy(hc:X.calm=true)(hm:X.mg "any"=none)(hstr:zU X tb e fs)(hg:Gl X "any":=by rfl)(hs:starEach [e] X.env=(false,eval e X.env)::starEach [] X.env:=by rfl):PD X tb (.Call (.Name "any" p) [e] [] pos) (Hk fs):=
 fY (LC hc hm hstr hg hs) λσ H Q zq4=>by
  obtain⟨W,δ,d,μ',e,ok,hd,hf,h⟩:=zq4
  unfold Hk at hf
  obtain⟨⟨ths,μ1⟩,e1,hf⟩:=Za.mp hf
  obtain⟨⟨b,μ2⟩,e2,e3⟩:=Za.mp hf
  cases e3
  refine⟨W,δ,ths,μ1,e,ok,hd,e1,λS W1 ok1 l1 m1 so=>?_⟩
  obtain⟨P,p0,pk,fin⟩:=so.fin
  refine⟨λi m H2=>m=ths.length-i/\∃W2,W2.H=H2/\WOk X.K tb W2/\Le tb W1 W2/\P W2.mu/\zH (ths.drop i) W2.mu=some (b,μ2),⟨_,rfl,W1,rfl,ok1,Le.refl _,p0,by rw[m1];exact e2⟩,?_⟩
  rintro i m H2 ⟨rfl,W2,rfl,ok2,l2,hp2,ha⟩
  by_cases hlt:i<ths.length
  .right
   rw[List.drop_eq_getElem_cons hlt]at ha
   unfold zH at ha
   obtain⟨⟨x,μ3⟩,e3,ha⟩:=Za.mp ha
   obtain⟨k,e4,ha⟩:=Za.mp ha
   refine so.nxt i W2 ths[i] x μ3 _ l2 ok2 (by simp[hlt]) e3 λv W3 ok3 l3 m3 d3=>⟨k,yF d3 e4,?_⟩
   cases k with
   |false=>
    rw[if_neg Zr]
    exact⟨ths.length-(i+1),by omega,rfl,W3,rfl,ok3,l2.trans l3,(by rw[m3];exact pk _ (List.getElem_mem hlt) _ _ _ hp2 e3),by rw[m3];exact ha⟩
   |true=>
    rw[if_pos rfl]
    cases ha
    exact h _ W3 ok3 ((l1.trans l2).trans l3) m3 eO
  .left
   rw[List.drop_of_length_le (by omega)]at ha
   cases ha
   exact fin i W2 _ l2 ok2 hp2 (by omega) λW3 ok3 l3 m3=>h _ W3 ok3 ((l1.trans l2).trans l3) m3 eO
theorem Nu(hc:X.calm=true)(hm:X.mg "sum"=none)(hstr:zU X tb e fs)(hg:Gl X "sum":=by rfl)(hs:starEach [e] X.env=(false,eval e X.env)::starEach [] X.env:=by rfl):PD X tb (.Call (.Name "sum" p) [e] [] pos) (Ku fs):=
 fY (Jp hc hm hstr hg hs) λσ H Q zq5=>by
  obtain⟨W,δ,d,μ',e,ok,hd,hf,h⟩:=zq5
  unfold Ku at hf
  obtain⟨⟨ths,μ1⟩,e1,hf⟩:=Za.mp hf
  obtain⟨⟨b,μ2⟩,e2,e3⟩:=Za.mp hf
  cases e3
  refine⟨W,δ,ths,μ1,e,ok,hd,e1,λS W1 ok1 l1 m1 so=>?_⟩
  obtain⟨P,p0,pk,fin⟩:=so.fin
  refine⟨λi m t H2=>m=ths.length-i/\∃W2,W2.H=H2/\WOk X.K tb W2/\Le tb W1 W2/\P W2.mu/\yM t (ths.drop i) W2.mu=some (b,μ2),⟨_,rfl,W1,rfl,ok1,Le.refl _,p0,by rw[m1];exact e2⟩,?_⟩
  rintro i m t H2 ⟨rfl,W2,rfl,ok2,l2,hp2,ha⟩
  by_cases hlt:i<ths.length
  .right
   rw[List.drop_eq_getElem_cons hlt]at ha
   unfold yM at ha
   obtain⟨⟨x,μ3⟩,e3,ha⟩:=Za.mp ha
   cases x with
   |int j=>
    refine so.nxt i W2 ths[i] _ μ3 _ l2 ok2 (by simp[hlt]) e3 λv W3 ok3 l3 m3 d3=>⟨j,bf d3,ths.length-(i+1),by omega,rfl,W3,rfl,ok3,l2.trans l3,(by rw[m3];exact pk _ (List.getElem_mem hlt) _ _ _ hp2 e3),by rw[m3];exact ha⟩
   |_=>cases ha
  .left
   rw[List.drop_of_length_le (by omega)]at ha
   cases ha
   exact fin i W2 _ l2 ok2 hp2 (by omega) λW3 ok3 l3 m3=>h _ W3 ok3 ((l1.trans l2).trans l3) m3 dW
theorem Cg(hc:X.calm=true)(hm:X.mg "tuple"=none)(hstr:Bd X tb e fs)(hg:Gl X "tuple":=by rfl)(hs:starEach [e] X.env=(false,eval e X.env)::starEach [] X.env:=by rfl):PD X tb (.Call (.Name "tuple" p) [e] [] pos) (vW fs):=
 fY (Jr hc hm hstr hg hs) λσ H Q zq6=>by
  obtain⟨W,δ,d,μ',e,ok,hd,hf,h⟩:=zq6
  unfold vW at hf
  obtain⟨⟨ths,μ1⟩,e1,hf⟩:=Za.mp hf
  split at hf
  .rename_i hz
   obtain⟨⟨ds,μ2⟩,e2,e3⟩:=Za.mp hf
   cases e3
   refine⟨W,δ,ths,μ1,e,ok,hd,e1,λS W1 ok1 l1 m1 so=>?_⟩
   obtain⟨P,p0,pk,fin⟩:=so.fin
   refine⟨λi m ys H2=>m=ths.length-i/\ys.length<=i/\i<=ths.length/\∃W2 zs rs,W2.H=H2/\WOk X.K tb W2/\Le tb W1 W2/\P W2.mu/\bV X.K tb W2 zs ys/\yc (ths.drop i) W2.mu=some (rs,μ2)/\zs++rs=ds,⟨_,rfl,Zg _,Nat.zero_le _,W1,[],ds,rfl,ok1,Le.refl _,p0,az.nil,by rw[m1];exact e2,rfl⟩,?_⟩
   rintro i m ys H2 ⟨rfl,hy,hi,W2,zs,rs,rfl,ok2,l2,hp2,d2,ha,hzs⟩
   by_cases hlt:i<ths.length
   .right
    rw[List.drop_eq_getElem_cons hlt]at ha
    unfold yc at ha
    obtain⟨⟨x,μ3⟩,e3,ha⟩:=Za.mp ha
    obtain⟨⟨rs',μ4⟩,e4,e5⟩:=Za.mp ha
    cases e5
    refine⟨by have hz':ths.length<=sizeLine:=hz;omega,so.nxt i W2 ths[i] x μ3 _ l2 ok2 (by simp[hlt]) e3 λv W3 ok3 l3 m3 d3=>?_⟩
    exact⟨ths.length-(i+1),by omega,rfl,by rw[List.length_append];simp;omega,hlt,W3,zs++[x],rs',rfl,ok3,l2.trans l3,(by rw[m3];exact pk _ (List.getElem_mem hlt) _ _ _ hp2 e3),az.append (bV.mono' d2 l3) (az.cons d3 az.nil),by rw[m3];exact e4,by rw[List.append_assoc];exact hzs⟩
   .left
    rw[List.drop_of_length_le (by omega)]at ha
    cases ha
    rw[List.append_nil]at hzs
    subst hzs
    exact fin i W2 _ l2 ok2 hp2 (by omega) λW3 ok3 l3 m3 p hp=>ni ok3 (λv W' ok' l' m' d'=>h v W' ok' (((l1.trans l2).trans l3).trans l') (m'.trans m3) d') (bV.mono' d2 l3) hp
  .cases hf
end
abbrev FF:=List D->Mu->Option (D×Mu)
def spD(K:PySem.W.Frag)(tb:List Addr)(n:Nat)(φ:FF):Sp:=λvs H Q _=>∃W ds d μ',W.H=H/\WOk K tb W/\bV K tb W ds vs/\ds.length=n/\φ ds W.mu=some (d,μ')/\
 ∀v W',WOk K tb W'->Le tb W W'->W'.mu=μ'->Den K tb W' d v->Q v W'.H
structure FI(P:Program)(w:World)(K:PySem.W.Frag)(mg:Str->Option Value)(base:Heap)(tb:List Addr)(x:Str)(n k:Nat)(φ:FF):Prop where
 is:∃f fd ps,nW P w K mg base CX0 k f fd ps (spD K tb n φ)/\mg x=some (.ref f)/\PySem.W.keepIn K (.ref f)=true/\Binds K fd ps []
theorem FI.more{P:Program}{w:World}{K:PySem.W.Frag}{mg:Str->Option Value}{base:Heap}{tb:List Addr}{x:Str}{n k k':Nat}{φ:FF}(F:FI P w K mg base tb x n k φ)(h:k<=k'):FI P w K mg base tb x n k' φ:=by
 obtain⟨f,fd,ps,h1,h2⟩:=F.is
 exact⟨f,fd,ps,h1.mono h,h2⟩
def aG(m:Nat)(g:SF):FF:=λds μ=>(g (ds.map some++List.replicate (m-ds.length) none) μ).bind λr=>match r.1 with
 | .rt d=>some (d,r.2.2)
 | .nx=>some (.non,r.2.2)
 |_=>none
section
variable {X:Cx} {tb:List Addr} {e:Expr} {es:List Expr} {fs:AF} {x:Str} {n k:Nat} {φ:FF} {p pos:Pos}
theorem aN(F:FI X.prog X.w X.K X.mg X.base tb x n k φ)(hr:gW k X.A)(ha:PAD X tb (e::es) fs)(hn:∀δ μ r,fs δ μ=some r->r.1.length=n)(hg:Gl X x:=by rfl)(hdb:(x==("__debug__":Str))=false:=by decide)
  (he:starEach (e::es) X.env=(false,eval e X.env)::starEach es X.env:=by rfl) (hpl:(backTo pos (starEach es X.env)).any (·.1)=false:=by rfl):PD X tb (.Call (.Name x p) (e::es) [] pos) (MC fs φ):=by
 obtain⟨f,fd,ps,h1,h2,h3,h4⟩:=F.is
 refine fY (Km (E:=E0) h1 hr hg h2 h3 h4 .nil SX ha hdb he hpl) λσ H Q zq7=>?_
 obtain⟨W,δ,d,μ',e,ok,hd,hf,h⟩:=zq7
 unfold MC at hf
 obtain⟨⟨xs,μ1⟩,e1,e2⟩:=Za.mp hf
 refine⟨W,δ,xs,μ1,e,ok,hd,e1,λvs W1 ok1 l1 m1 d1=>?_⟩
 refine⟨W1,xs,d,μ',rfl,ok1,by rw[List.append_nil];exact d1,hn _ _ _ e1,(by rw[m1];exact e2),λv W' ok' l' m' d'=>h v W' ok' (l1.trans l') m' d'⟩
theorem aO(δ:En)(μ:Mu)(r:List D×Mu)(h:aC δ μ=some r):r.1.length=0:=by cases h;rfl
theorem aF{f:EF}{fs:AF}{n:Nat}(hk:∀δ μ r,fs δ μ=some r->r.1.length=n)(δ:En)(μ:Mu)(r:List D×Mu)(h:ao f fs δ μ=some r):r.1.length=n+1:=by
 unfold ao at h
 obtain⟨q,_,h⟩:=Za.mp h
 obtain⟨t,e,h⟩:=Za.mp h
 cases h
 rw[List.length_cons,hk _ _ _ e]
end
structure fu(K:PySem.W.Frag)(x qual:Str)(st:Stmt)(f:Addr)(fd:FuncData)(P:Addr):Prop where
 ex:∃(oc:Value)(od:Option Addr)(kV doc pm:Value)(an:Option Addr)(c:Addr)(ct:Value)(osl:Array (Option Value)),
  fd=PySem.W.fnOf x qual (jP st) (iD st) (aK st) .none kV doc pm an (.ref c) ct/\K.lookup f=some ⟨oc,od,.func fd,osl⟩/\PySem.W.codeIn K (.ref c) qual=true/\∀h:Heap,K.In h->PySem.W.CodeHd h c P
 kp:PySem.W.keepIn K (.ref f)=true
theorem dg{P:Program}{w:World}{K:PySem.W.Frag}{mg:Str->Option Value}{base:Heap}{tb:List Addr}{x qual:Str}{st:Stmt}{f:Addr}{fd:FuncData}{T:Addr}{N ps:List Str}{n k:Nat}{g:SF}(F:fu K x qual st f fd T)(KB:K.In base)(hmg:mg x=some (.ref f))(S:aX N ps (aK st))(hps:ps.length=n)
  (hb:∀(kV doc pm:Value)(an:Option Addr)(cdv ct:Value)(us:List Value),us.length=ps.length->bindArgs (PySem.W.fnOf x qual (jP st) (iD st) (aK st) .none kV doc pm an cdv ct) ⟨us,[]⟩=pure (ps.zip us))
  (hbody:∀(c:Addr)(A:Around)(outer:List Env)(s:Shared)(H:Hp)(E:XK),PySem.W.CodeHd base c T->gW k (A.deeper (envOfC qual (aK st) s.heap.objs.size f (.ref c)))->
   uP (Bq CX0 P w K mg base N qual (aK st) f (.ref c) A outer s H E).nox tb (iD st) g):FI P w K mg base tb x n (k+1) (aG N.length g):=by
 obtain⟨oc,od,kV,doc,pm,an,c,ct,osl,rfl,lk,hcd,hhd⟩:=F.ex
 refine⟨f,_,ps,Mx lk hcd S (λvs H Q E ⟨W,ds,d,μ',e,ok,dl,hl,_⟩=>by rw[<-az.length dl,hl,hps]) λA outer s H vs Q E hr hsp=>?_,hmg,F.kp,.all (hb kV doc pm an (.ref c) ct)⟩
 obtain⟨W,ds,d,μ',e,ok,dl,hl,hf,k⟩:=hsp
 refine⟨_,(hbody c A outer s H E (hhd base KB) hr).nox,?_⟩
 unfold aG at hf
 obtain⟨⟨fl,δ',μ1⟩,e1,e2⟩:=Za.mp hf
 refine⟨W,_,fl,δ',μ1,e,ok,?_,e1,λσ' W' ok' l' m' d'=>?_⟩
 .have hlen:=az.length dl
  refine⟨by unfold L2.start;simp[hlen],λi y q=>?_⟩
  unfold L2.start
  by_cases hi:i<ds.length
  .rw[Zs (by simpa using hi),List.getElem?_map]at q
   cases q2:ds[i]? with
   |none=>rw[q2]at q;cases q
   |some z=>
    rw[q2]at q
    cases q
    obtain⟨v,ev,dv⟩:=az.get dl q2
    exact⟨v,by rw[Zs (by rw[Zu,<-hlen];exact hi),List.getElem?_map,ev];rfl,dv⟩
  .rw[List.getElem?_append_right (by simpa using hi),List.getElem?_replicate]at q
   split at q<;>cases q
 .cases fl with
  |nx=>cases e2;exact k .non W' ok' l' m' sy
  |rt d0=>cases e2;exactλv dv=>k v W' ok' l' m' dv
  |bk=>cases e2
  |ct=>cases e2
end L3
namespace L2
open PySem PySem.Spec PyProof.Rows
section
variable {X:Cx} {a b c e:Expr} {ta tb tc te:TE} {pos:Pos}
def ji(i j:Int):Nat:=Builtin.Int.intBits i+Builtin.Int.intBits j
theorem Jf:OpR X (binaryOp .Mult) (rI (λi j=>ji i j<=134217728) λi j=>.int (i*j)):=opI λ_ _ _ _ _ _ _ hc q=>mul_int q (IntMulOk.of_le (Zg _) (Zg _) hc)
theorem HH:OpR X (binaryOp .FloorDiv) (rI (λ_ j=>j≠0/\j.natAbs.log2<9000) λi j=>.int (i.fdiv j)):=opI λ_ _ _ _ _ _ _ hc q=>floordiv_int hc.1 q (.inl (PyProof.noPylong_of_log2 hc.2))
theorem Jg:OpR X (binaryOp .Pow) (rI (λi j=>0<=j/\(Builtin.Int.intBits i:Int)*j<=2 ^ 27) λi j=>.int (i ^ j.toNat)):=opI λ_ _ _ _ _ _ _ hc q=>pow_int hc.1 hc.2 q
def RP(K:PySem.W.Frag):R2:=λx y H Q=>∃a b xs ys,x= .ref a/\y= .ref b/\SqT K H a xs/\SqT K H b ys/\xs.length+ys.length<=sizeLine/\
 (xs=[]->Q (.ref b) H)/\(xs≠[]->ys=[]->Q (.ref a) H)/\(xs≠[]->ys≠[]->∀p,H p=none->Q (.ref p) (upd H p (.tup (xs++ys))))
theorem Lh:OpR X (binaryOp .Add) (RP X.K):=by
 intro pins s σ H x y v u Q I rx ry h
 obtain⟨t,b,xs,ys,rfl,rfl,ha,hb,hz,q0,q1,q2⟩:=h
 by_cases hx:xs=[]
 .subst hx
  cases rx
  cases ry
  obtain⟨its,r1,p1,_⟩:=I.tuple ha
  obtain⟨its2,r2,p2,_⟩:=I.tuple hb
  cases r1
  obtain⟨⟨cls,dd,data,sl⟩,ho,hc,n,hd⟩:=id p1
  obtain⟨⟨cls2,dd2,data2,sl2⟩,ho2,hc2,n2,hd2⟩:=id p2
  simp only at hc hd hc2 hd2
  subst hc hd hc2 hd2
  exact concat_meets ⟨_,ho,rfl⟩ ⟨_,ho2,rfl⟩ noFill_tuple_add seq_tuple_add PySem.F.slot_tuple_add PySem.F.entry_tuple_add (PySem.F.args_tuple_add_2 _ _)
   (tuple_addW0 t b _ _ n n2 dd dd2 sl sl2 (by simp)) ⟨ho,ho2,⟨.ref b,H,I,rfl,q0 rfl⟩⟩
 .exact Jk pins s σ H _ _ v u Q I rx ry ⟨t,b,xs,ys,rfl,rfl,ha,hb,hx,hz,q1 hx,q2 hx⟩
theorem qJ:fillsNumberSlot (.type "tuple") "mul"=pure false:=
 PySem.fillsNumberSlot_seq (id:="tuple.__mul__") (r:=some (.builtin "tuple.__rmul__")) F.slot_tuple_mul.lookup (by decide +kernel) F.slot_tuple_rmul.lookup (by decide +kernel)
theorem xO:seqRepeat? (.type "tuple")=pure (some (.builtin "tuple.__mul__")):=by
 unfold seqRepeat?
 rw[PySem.seqSlot_of (T:="tuple") (name:="__mul__") (id:="tuple.__mul__") F.slot_tuple_mul.lookup (by decide +kernel),PySem.seqSlot_of (T:="tuple") (name:="__rmul__") (id:="tuple.__rmul__") F.slot_tuple_rmul.lookup (by decide +kernel)]
 rfl
theorem uw(a:Int)(t:Tok)(l:Addr)(items:Array Value)(n:Nat)(dd:Option Addr)(sl:Array (Option Value)):
  Meets (Builtin.«int.__rmul__» ⟨[.int a t,.ref l],[]⟩) (λ_ R s=>s.heap.get? l=some { cls:=.type "tuple",dict:=dd,data:=.seq items n,slots:=sl}/\R (.ok (.ret Value.notImplemented)) s):=
 .of_wp λprog w A R s h=>by obtain⟨hp,g,d,tk,os⟩:=s;obtain⟨hl,h⟩:=h;wp_walk;exact⟨_,rfl,h⟩
theorem sW(l:Addr)(items:Array Value)(n:Nat)(x:Int)(u:Tok)(dd:Option Addr)(sl:Array (Option Value))(h0:(decide (x< -2 ^ 63)||decide (x>=2 ^ 63))=false)(h1:(items.isEmpty||x==1)=true):
  Meets (Builtin.«tuple.__mul__» ⟨[.ref l,.int x u],[]⟩) (λ_ R s=>s.heap.get? l=some { cls:=.type "tuple",dict:=dd,data:=.seq items n,slots:=sl}/\R (.ok (.ret (Value.ref l))) s):=
 .of_wp λprog w A R s h=>by
  obtain⟨hp,g,d,tk,os⟩:=s;obtain⟨hl,h⟩:=h
  unfold Builtin.«tuple.__mul__»
  wp_walk using AutoSeq1.wpAny_loadPart' hl
  refine wpAny_ite_false (decide_eq_false (by rw[h0];exact Zr)) ?_
  wp_walk using AutoSeq1.wpAny_loadPart' hl
  exact⟨_,rfl,h⟩
theorem uc(l:Addr)(items:Array Value)(n:Nat)(x:Int)(u:Tok)(dd:Option Addr)(sl:Array (Option Value))(h0:(decide (x< -2 ^ 63)||decide (x>=2 ^ 63))=false)(h1:(items.isEmpty||x==1)=false)(h2:(decide (x<=0)||items.isEmpty)=true):
  Meets (Builtin.«tuple.__mul__» ⟨[.ref l,.int x u],[]⟩) (λ_ R s=>s.heap.get? l=some { cls:=.type "tuple",dict:=dd,data:=.seq items n,slots:=sl}/\R (.ok (.ret (Value.ref s.heap.objs.size))) { s with heap:=s.heap.push { cls:=Value.type "tuple",data:=Data.seq #[] },toks:=s.toks}):=
 .of_wp λprog w A R s h=>by
  obtain⟨hp,g,d,tk,os⟩:=s;obtain⟨hl,h⟩:=h
  unfold Builtin.«tuple.__mul__»
  wp_walk using AutoSeq1.wpAny_loadPart' hl
  refine wpAny_ite_false (decide_eq_false (by rw[h0];exact Zr)) ?_
  wp_walk using AutoSeq1.wpAny_loadPart' hl
  exact⟨_,rfl,h⟩
theorem uN(l:Addr)(items:Array Value)(n:Nat)(x:Int)(u:Tok)(dd:Option Addr)(sl:Array (Option Value))(h0:(decide (x< -2 ^ 63)||decide (x>=2 ^ 63))=false)(h1:(items.isEmpty||x==1)=false)(h2:(decide (x<=0)||items.isEmpty)=false)
  (h3:¬(items.size:Int)*x>(2 ^ 63-1) / 8) (h4:Builtin.Tuple.tupleTooMany ((items.size:Int)*x)=false) (h5:((List.replicate x.toNat items).foldl (· ++ ·) #[]).size<=sizeLine):
  Meets (Builtin.«tuple.__mul__» ⟨[.ref l,.int x u],[]⟩) (λ_ R s=>s.heap.get? l=some { cls:=.type "tuple",dict:=dd,data:=.seq items n,slots:=sl}/\R (.ok (.ret (Value.ref s.heap.objs.size))) { s with heap:=s.heap.push { cls:=Value.type "tuple",data:=Data.seq ((List.replicate x.toNat items).foldl (· ++ ·) #[]) },toks:=s.toks}):=
 .of_wp λprog w A R s h=>by
  obtain⟨hp,g,d,tk,os⟩:=s;obtain⟨hl,h⟩:=h
  unfold Builtin.«tuple.__mul__»
  wp_walk using AutoSeq1.wpAny_loadPart' hl
  refine wpAny_ite_false (decide_eq_false (by rw[h0];exact Zr)) ?_
  wp_walk using AutoSeq1.wpAny_loadPart' hl
  refine wpAny_ite_false (decide_eq_false h3) ?_
  wp_walk using AutoSeq1.wpAny_loadPart' hl
  exact⟨_,rfl,h⟩
def Rt(K:PySem.W.Frag):R2:=λx y H Q=>∃l k xs,x= .ref l/\y= .int k/\SqT K H l xs/\ -(2 ^ 63)<=k/\k<2 ^ 63/\xs.length*k.toNat<=sizeLine/\
 ((xs=[]∨k=1)->Q (.ref l) H)/\(¬(xs=[]∨k=1)->∀p,H p=none->Q (.ref p) (upd H p (.tup (List.replicate k.toNat xs).flatten)))
theorem Ly:OpR X (binaryOp .Mult) (Rt X.K):=by
 intro pins s σ H x y v u Q I rx ry h
 obtain⟨l,k,xs,rfl,rfl,hH,h1,h2,hz,q1,q2⟩:=h
 cases rx
 obtain⟨t,rfl⟩:=ry
 obtain⟨its,r,p,hz0⟩:=I.tuple hH
 have hl:=r.length
 obtain⟨⟨cls,dd,data,sl⟩,e,hc,n,hd⟩:=id p
 simp only at hc hd
 subst hc hd
 have h0:(decide (k< -2 ^ 63)||decide (k>=2 ^ 63))=false:=by
  rw[decide_eq_false (by omega),decide_eq_false (by omega)];rfl
 refine wpAny_binaryOp_repeat_ref (T:="tuple") (U:="int") (by decide) ⟨_,e,rfl⟩ (λs'=>typeIs_int s' k t) qJ F.fills_int_mul F.slot_int_rmul xO F.slot_int_index.lookup
  (call_meets F.slot_int_rmul (typeIs_int s k t) F.entry_int_rmul (F.args_int_rmul_2 _ _) (uw k t l its.toArray n dd sl) ⟨e,rfl,⟨_,e,rfl⟩,?_⟩)
 by_cases hs:xs=[]∨k=1
 .refine call_meets F.slot_tuple_mul ⟨_,e,rfl⟩ F.entry_tuple_mul (F.args_tuple_mul_2 _ _) (sW l its.toArray n k t dd sl h0 ?_) ⟨e,⟨.ref l,H,I,rfl,q1 hs⟩⟩
  rcases hs with hs|hs
  .subst hs;cases r;rfl
  .subst hs;simp
 .have hne:(its.toArray.isEmpty||k==1)=false:=by
   rw[Bool.or_eq_false_iff]
   refine⟨?_,by simpa usingλz=>hs (.inr z)⟩
   cases its with
   |nil=>cases r;exact absurd (Or.inl rfl) hs
   |cons a b=>simp
  have hne':its.toArray.isEmpty=false:=(Bool.or_eq_false_iff.mp hne).1
  by_cases hk:k<=0
  .refine call_meets F.slot_tuple_mul ⟨_,e,rfl⟩ F.entry_tuple_mul (F.args_tuple_mul_2 _ _) (uc l its.toArray n k t dd sl h0 hne (by rw[decide_eq_true hk];rfl)) ⟨e,?_⟩
   have hk0:k.toNat=0:=by omega
   refine⟨.ref s.heap.objs.size,_,I.laid (t':=s.toks) (o:=.tup []) (λb ob q=>Zb _ q) (Zg _) ⟨Nat.zero_le _,[],.nil,IsTup.new _ _⟩,rfl,?_⟩
   have:=q2 hs _ (I.hok.fresh (Zg _))
   rw[hk0]at this
   exact this
  .have hp:its.length*k.toNat<=sizeLine:=by rw[<-hl];exact hz
   have hsz:=sizeLine_eq
   have hcast:((its.toArray.size:Int))*k=((its.length*k.toNat:Nat):Int):=by
    rw[Zd,Int.natCast_mul,Int.toNat_of_nonneg (by omega)]
   have hfold:List.foldl (λx1 x2=>x1++x2) #[] (List.replicate k.toNat its.toArray)=(List.replicate k.toNat its).flatten.toArray:=by
    have:=foldl_rep its k.toNat []
    rw[List.nil_append]at this
    exact this
   have hlen:(List.replicate k.toNat its).flatten.length<=sizeLine:=by rw[len_rep,Nat.mul_comm];exact hp
   refine call_meets F.slot_tuple_mul ⟨_,e,rfl⟩ F.entry_tuple_mul (F.args_tuple_mul_2 _ _) (uN l its.toArray n k t dd sl h0 hne (by rw[decide_eq_false hk,hne'];rfl) ?_ ?_ ?_) ⟨e,?_⟩
   .rw[hcast]
    have:(sizeLine:Int)<=(2 ^ 63-1) / 8:=by decide
    omega
   .rw[hcast]
    unfold Builtin.Tuple.tupleTooMany
    exact decide_eq_false (by omega)
   .rw[hfold,Zd];exact hlen
   .rw[hfold]
    refine⟨.ref s.heap.objs.size,_,I.laid (t':=s.toks) (o:=.tup (List.replicate k.toNat xs).flatten) (λb ob q=>Zb _ q) (Zg _) ⟨by rw[len_rep,Nat.mul_comm];exact hz,_,r.rep k.toNat,IsTup.new _ _⟩,rfl,q2 hs _ (I.hok.fresh (Zg _))⟩
def Pb(K:PySem.W.Frag)(T:String)(x:V)(H:Hp)(k:Bool):Prop:=match x with
 | .non=>k=false
 | .bl _=>k=(T=="bool"||T=="int")
 | .int _=>k=(T=="int")
 | .str _=>k=(T=="str")
 | .ref p=>(k=(T=="list")/\∃xs,SqL K H p xs)∨(k=(T=="tuple")/\∃xs,SqT K H p xs)∨(k=(T=="dict")/\∃xs,H p=some (.dK xs))
 |_=>False
def Ld:List String:=["bool","int","str","list","tuple","dict"]
theorem Ht:lL X (.builtin "isinstance") (λxs H Q=>∃x T k,xs=[x,.ty T]/\T∈Ld/\Pb X.K T x H k/\Q (.bl k) H):=by
 intro pins s σ H xs us Q I r h
 obtain⟨x,T,k,rfl,hT,hx,q⟩:=h
 obtain⟨u,w',rfl,rx,rt⟩:=vals2 r
 cases rt
 have fin:EP X pins σ Q (.bool k) s:=⟨.bl k,H,I,rfl,q⟩
 have fin1:EP X pins σ Q (.bool k) { s with toks:=s.toks+1}:=⟨.bl k,H,I.tok _,rfl,q⟩
 simp only[Ld,Zi,List.not_mem_nil,or_false]at hT
 cases x with
 |non=>
  cases rx
  have hk:k=false:=hx
  subst hk
  rcases hT with rfl|rfl|rfl|rfl|rfl|rfl
  .exact IsiPair.NoneType_bool fin1
  .exact IsiPair.NoneType_int fin1
  .exact IsiPair.NoneType_str fin1
  .exact IsiPair.NoneType_list fin1
  .exact IsiPair.NoneType_tuple fin1
  .exact IsiPair.NoneType_dict fin1
 |bl b=>
  cases rx
  have hk:k=_:=hx
  subst hk
  rcases hT with rfl|rfl|rfl|rfl|rfl|rfl
  .exact IsiPair.bool_bool fin
  .exact IsiPair.bool_int fin
  .exact IsiPair.bool_str fin1
  .exact IsiPair.bool_list fin1
  .exact IsiPair.bool_tuple fin1
  .exact IsiPair.bool_dict fin1
 |int b=>
  obtain⟨t,rfl⟩:=rx
  have hk:k=_:=hx
  subst hk
  rcases hT with rfl|rfl|rfl|rfl|rfl|rfl
  .exact IsiPair.int_bool fin1
  .exact IsiPair.int_int fin
  .exact IsiPair.int_str fin1
  .exact IsiPair.int_list fin1
  .exact IsiPair.int_tuple fin1
  .exact IsiPair.int_dict fin1
 |str b=>
  obtain⟨t,rfl⟩:=rx
  have hk:k=_:=hx
  subst hk
  rcases hT with rfl|rfl|rfl|rfl|rfl|rfl
  .exact IsiPair.str_bool fin1
  .exact IsiPair.str_int fin1
  .exact IsiPair.str_str fin
  .exact IsiPair.str_list fin1
  .exact IsiPair.str_tuple fin1
  .exact IsiPair.str_dict fin1
 |ref p=>
  cases rx
  rcases hx with⟨hk,xs,hq⟩|⟨hk,xs,hq⟩|⟨hk,xs,hq⟩
  .subst hk
   obtain⟨its,_,pl,_⟩:=I.list hq
   obtain⟨o,ho,hc,_⟩:=pl.isList
   rcases hT with rfl|rfl|rfl|rfl|rfl|rfl
   .exact IsiPair.list_bool ho hc fin1
   .exact IsiPair.list_int ho hc fin1
   .exact IsiPair.list_str ho hc fin1
   .exact IsiPair.list_list ho hc fin
   .exact IsiPair.list_tuple ho hc fin1
   .exact IsiPair.list_dict ho hc fin1
  .subst hk
   obtain⟨its,_,pl,_⟩:=I.tuple hq
   obtain⟨o,ho,hc,_⟩:=pl
   rcases hT with rfl|rfl|rfl|rfl|rfl|rfl
   .exact IsiPair.tuple_bool ho hc fin1
   .exact IsiPair.tuple_int ho hc fin1
   .exact IsiPair.tuple_str ho hc fin1
   .exact IsiPair.tuple_list ho hc fin1
   .exact IsiPair.tuple_tuple ho hc fin
   .exact IsiPair.tuple_dict ho hc fin1
  .subst hk
   obtain⟨_,_,vs,_,o,_,_,ho,ex,_⟩:=I.hok p _ hq
   have hc:=ex.1
   rcases hT with rfl|rfl|rfl|rfl|rfl|rfl
   .exact IsiPair.dict_bool ho hc fin1
   .exact IsiPair.dict_int ho hc fin1
   .exact IsiPair.dict_str ho hc fin1
   .exact IsiPair.dict_list ho hc fin1
   .exact IsiPair.dict_tuple ho hc fin1
   .exact IsiPair.dict_dict ho hc fin
 |_=>exact hx.elim
end
end L2
namespace L3
open PySem PySem.Spec PyProof.Rows L2
abbrev O2:=D->D->Mu->Option (D×Mu)
abbrev O1':=D->Mu->Option (D×Mu)
abbrev ON:=List D->Mu->Option (D×Mu)
def bW:O2
 | .int i,.int j,μ=>some (.int (i+j),μ)
 | .tup xs,.tup ys,μ=>if xs.length+ys.length<=sizeLine then some (.tup (xs++ys),μ)else none
 | .lst xs,.lst ys,μ=>if xs.length+ys.length<=sizeLine then some (.lst (xs++ys),μ)else none
 | .str x,.str y,μ=>if x.length+y.length<=sizeLine then some (.str (x++y),μ)else none
 |_,_,_=>none
def nA:O2
 | .int i,.int j,μ=>some (.int (i-j),μ)
 |_,_,_=>none
def eG:O2
 | .int i,.int j,μ=>if ji i j<=134217728 then some (.int (i*j),μ)else none
 | .tup xs,.int k,μ=>if -(2 ^ 63)<=k/\k<2 ^ 63/\xs.length*k.toNat<=sizeLine then some (.tup (List.replicate k.toNat xs).flatten,μ)else none
 | .lst xs,.int k,μ=>if -(2 ^ 63)<=k/\k<2 ^ 63/\xs.length*k.toNat<=sizeLine then some (.lst (List.replicate k.toNat xs).flatten,μ)else none
 |_,_,_=>none
def oDiv:O2
 | .int i,.int j,μ=>if j≠0/\j.natAbs.log2<9000 then some (.int (i.fdiv j),μ)else none
 |_,_,_=>none
def oMod:O2
 | .int i,.int j,μ=>if j≠0 then some (.int (i.fmod j),μ)else none
 |_,_,_=>none
def ue:O2
 | .int i,.int j,μ=>if 0<=j/\(Builtin.Int.intBits i:Int)*j<=2 ^ 27 then some (.int (i ^ j.toNat),μ)else none
 |_,_,_=>none
def oLt:O2
 | .int i,.int j,μ=>some (.bl (decide (i<j)),μ)
 |_,_,_=>none
def oGt:O2
 | .int i,.int j,μ=>some (.bl (decide (j<i)),μ)
 |_,_,_=>none
def oGe:O2
 | .int i,.int j,μ=>some (.bl (decide (j<=i)),μ)
 |_,_,_=>none
section
variable {X:Cx} {tb:List Addr}
theorem xK{K:PySem.W.Frag}{F:Hp}{ad:List Addr}{ds:List D}{vs:List V}(h:az K F ad ds vs):∀k:Nat,az K F ad (List.replicate k ds).flatten (List.replicate k vs).flatten
 |0=>az.nil
 |k+1=>by
  rw[List.replicate_succ,List.replicate_succ,List.flatten_cons,List.flatten_cons]
  exact az.append h (xK h k)
theorem lr{K:PySem.W.Frag}{F:Hp}{ad:List Addr}{ds:List D}{vs:List V}(h:az K F ad ds vs):vs=[]↔ds=[]:=by
 have:=az.length h
 cases ds<;>cases vs<;>simp_all
theorem JC{α:Type}(xs:List α):(List.replicate (1:Int).toNat xs).flatten=xs:=by simp
theorem dw:OpD X tb (binaryOp .Add) bW:=⟨_,Np.or (Lh.or (Oa.or An)),λW x y v u d μ' Q ok dx dy ho h=>by
 cases x with
 |int i=>
  cases y with
  |int j=>cases ho;rw[bf dx,bf dy];exact .inl ⟨i,j,rfl,rfl,put ok h dW⟩
  |_=>cases ho
 |tup xs=>
  cases y with
  |tup ys=>
   have ho':(if xs.length+ys.length<=sizeLine then some (D.tup (xs++ys),W.mu)else none)=some (d,μ'):=ho
   split at ho'
   .rename_i hz
    cases ho'
    obtain⟨a,us,rfl,q1,r1⟩:=iB dx
    obtain⟨b,ws,rfl,q2,r2⟩:=iB dy
    refine .inr (.inl ⟨a,b,us,ws,rfl,rfl,SqT.fz q1,SqT.fz q2,by rw[<-az.length r1,<-az.length r2];exact hz,λe=>?_,λ_ e=>?_,λ_ _ p hp=>ni ok h (az.append r1 r2) hp⟩)
    .have e':=(lr r1).mp e
     subst e'
     exact put ok h dy
    .have e':=(lr r2).mp e
     subst e'
     rw[List.append_nil]at h
     exact put ok h dx
   .cases ho'
  |_=>cases ho
 |lst xs=>
  cases y with
  |lst ys=>
   have ho':(if xs.length+ys.length<=sizeLine then some (D.lst (xs++ys),W.mu)else none)=some (d,μ'):=ho
   split at ho'
   .rename_i hz
    cases ho'
    obtain⟨a,us,rfl,q1,r1⟩:=sE dx
    obtain⟨b,ws,rfl,q2,r2⟩:=sE dy
    exact .inr (.inr (.inl ⟨a,b,us,ws,rfl,rfl,(eQ q1).1,(eQ q2).1,by rw[<-az.length r1,<-az.length r2];exact hz,λp hp=>jk ok h (az.append r1 r2) hp⟩))
   .cases ho'
  |_=>cases ho
 |str x=>
  cases y with
  |str y=>
   have ho':(if x.length+y.length<=sizeLine then some (D.str (x++y),W.mu)else none)=some (d,μ'):=ho
   split at ho'
   .rename_i hz
    cases ho'
    rw[jX dx,jX dy]
    exact .inr (.inr (.inr ⟨x,y,rfl,rfl,hz,put ok h JG⟩))
   .cases ho'
  |_=>cases ho
 |_=>cases y<;>cases ho⟩
theorem nZ:OpD X tb (binaryOp .Sub) nA:=⟨_,Pk,λW x y v u d μ' Q ok dx dy ho h=>by
 cases x with
 |int i=>
  cases y with
  |int j=>cases ho;rw[bf dx,bf dy];exact⟨i,j,rfl,rfl,put ok h dW⟩
  |_=>cases ho
 |_=>cases y<;>cases ho⟩
theorem eZ:OpD X tb (binaryOp .Mult) eG:=⟨_,Jf.or (Ly.or Pq),λW x y v u d μ' Q ok dx dy ho h=>by
 cases x with
 |int i=>
  cases y with
  |int j=>
   have ho':(if ji i j<=134217728 then some (D.int (i*j),W.mu)else none)=some (d,μ'):=ho
   split at ho'
   .rename_i hz
    cases ho'
    rw[bf dx,bf dy];exact .inl ⟨i,j,rfl,rfl,hz,put ok h dW⟩
   .cases ho'
  |_=>cases ho
 |tup xs=>
  cases y with
  |int k=>
   have ho':(if -(2 ^ 63)<=k/\k<2 ^ 63/\xs.length*k.toNat<=sizeLine then some (D.tup (List.replicate k.toNat xs).flatten,W.mu)else none)=some (d,μ'):=ho
   split at ho'
   .rename_i hz
    cases ho'
    obtain⟨a,us,rfl,q1,r1⟩:=iB dx
    rw[bf dy]
    refine .inr (.inl ⟨a,k,us,rfl,rfl,SqT.fz q1,hz.1,hz.2.1,by rw[<-az.length r1];exact hz.2.2,λe=>?_,λ_ p hp=>ni ok h (xK r1 _) hp⟩)
    rcases e with e|e
    .have e':=(lr r1).mp e
     subst e'
     have e2:(List.replicate k.toNat ([]:List D)).flatten=[]:=by simp
     rw[e2]at h
     exact put ok h dx
    .subst e
     rw[JC]at h
     exact put ok h dx
   .cases ho'
  |_=>cases ho
 |lst xs=>
  cases y with
  |int k=>
   have ho':(if -(2 ^ 63)<=k/\k<2 ^ 63/\xs.length*k.toNat<=sizeLine then some (D.lst (List.replicate k.toNat xs).flatten,W.mu)else none)=some (d,μ'):=ho
   split at ho'
   .rename_i hz
    cases ho'
    obtain⟨a,us,rfl,q1,r1⟩:=sE dx
    rw[bf dy]
    exact .inr (.inr ⟨a,k,us,rfl,rfl,(eQ q1).1,hz.1,hz.2.1,by rw[<-az.length r1];exact hz.2.2,λp hp=>jk ok h (xK r1 _) hp⟩)
   .cases ho'
  |_=>cases ho
 |_=>cases y<;>cases ho⟩
theorem gG:OpD X tb (binaryOp .FloorDiv) oDiv:=⟨_,HH,λW x y v u d μ' Q ok dx dy ho h=>by
 cases x with
 |int i=>
  cases y with
  |int j=>
   have ho':(if j≠0/\j.natAbs.log2<9000 then some (D.int (i.fdiv j),W.mu)else none)=some (d,μ'):=ho
   split at ho'
   .rename_i hz
    cases ho'
    rw[bf dx,bf dy];exact⟨i,j,rfl,rfl,hz,put ok h dW⟩
   .cases ho'
  |_=>cases ho
 |_=>cases y<;>cases ho⟩
theorem cJ:OpD X tb (binaryOp .Mod) oMod:=⟨_,JV,λW x y v u d μ' Q ok dx dy ho h=>by
 cases x with
 |int i=>
  cases y with
  |int j=>
   have ho':(if j≠0 then some (D.int (i.fmod j),W.mu)else none)=some (d,μ'):=ho
   split at ho'
   .rename_i hz
    cases ho'
    rw[bf dx,bf dy];exact⟨i,j,rfl,rfl,hz,put ok h dW⟩
   .cases ho'
  |_=>cases ho
 |_=>cases y<;>cases ho⟩
theorem Aq:OpD X tb (binaryOp .Pow) ue:=⟨_,Jg,λW x y v u d μ' Q ok dx dy ho h=>by
 cases x with
 |int i=>
  cases y with
  |int j=>
   have ho':(if 0<=j/\(Builtin.Int.intBits i:Int)*j<=2 ^ 27 then some (D.int (i ^ j.toNat),W.mu)else none)=some (d,μ'):=ho
   split at ho'
   .rename_i hz
    cases ho'
    rw[bf dx,bf dy];exact⟨i,j,rfl,rfl,hz,put ok h dW⟩
   .cases ho'
  |_=>cases ho
 |_=>cases y<;>cases ho⟩
theorem Cr:OpD X tb (compareOp .Lt) oLt:=⟨_,Sg,λW x y v u d μ' Q ok dx dy ho h=>by
 cases x with
 |int i=>
  cases y with
  |int j=>cases ho;rw[bf dx,bf dy];exact⟨i,j,rfl,rfl,put ok h eO⟩
  |_=>cases ho
 |_=>cases y<;>cases ho⟩
theorem Ml:OpD X tb (compareOp .Gt) oGt:=⟨_,RJ,λW x y v u d μ' Q ok dx dy ho h=>by
 cases x with
 |int i=>
  cases y with
  |int j=>cases ho;rw[bf dx,bf dy];exact⟨i,j,rfl,rfl,put ok h eO⟩
  |_=>cases ho
 |_=>cases y<;>cases ho⟩
theorem Mf:OpD X tb (compareOp .GtE) oGe:=⟨_,Td,λW x y v u d μ' Q ok dx dy ho h=>by
 cases x with
 |int i=>
  cases y with
  |int j=>cases ho;rw[bf dx,bf dy];exact⟨i,j,rfl,rfl,put ok h eO⟩
  |_=>cases ho
 |_=>cases y<;>cases ho⟩
end
open PySem.SeqAt
mutual
def eqD:D->D->Bool
 | .non,.non=>true
 | .bl a,.bl b=>a==b
 | .bl a,.int b=>(if a then 1 else 0)==b
 | .int a,.bl b=>a==(if b then 1 else 0)
 | .int a,.int b=>a==b
 | .str a,.str b=>a==b
 | .tup xs,.tup ys=>iW xs ys
 | .lst xs,.lst ys=>iW xs ys
 |_,_=>false
def iW:List D->List D->Bool
 | [],[]=>true
 |x::xs,y::ys=>eqD x y&&iW xs ys
 |_,_=>false
end
mutual
def gq:D->Nat
 | .tup ds=>iR ds+1
 | .lst ds=>iR ds+1
 |_=>0
def iR:List D->Nat
 | []=>0
 |d::ds=>max (gq d) (iR ds)
end
mutual
def cI:D->Bool
 | .non=>true
 | .bl _=>true
 | .int _=>true
 | .str _=>true
 | .tup ds=>eU ds
 | .lst ds=>eU ds
 |_=>false
def eU:List D->Bool
 | []=>true
 |d::ds=>cI d&&eU ds
end
mutual
def DV(K:PySem.W.Frag)(H:Hp):D->V->Prop
 | .non,v=>v= .non
 | .bl b,v=>v= .bl b
 | .int i,v=>v= .int i
 | .str x,v=>v= .str x
 | .tup ds,v=>∃a xs,v= .ref a/\SqT K H a xs/\DVL K H ds xs
 | .lst ds,v=>∃a xs,v= .ref a/\SqL K H a xs/\DVL K H ds xs
 | .ro _,_=>False
 | .dic _,_=>False
 | .cell _,_=>False
def DVL(K:PySem.W.Frag)(H:Hp):List D->List V->Prop
 | [],vs=>vs=[]
 |d::ds,vs=>∃u us,vs=u::us/\DV K H d u/\DVL K H ds us
end
section
variable {K:PySem.W.Frag} {tb:List Addr} {W:Wd}
mutual
theorem Nf:∀(d:D)(v:V),cI d=true->aZ K (W.fz tb) W.ad d v->DV K W.H d v
 | .non,v,_,h=>by unfold aZ at h;unfold DV;exact h
 | .bl _,v,_,h=>by unfold aZ at h;unfold DV;exact h
 | .int _,v,_,h=>by unfold aZ at h;unfold DV;exact h
 | .str _,v,_,h=>by unfold aZ at h;unfold DV;exact h
 | .tup ds,v,p,h=>by
  unfold aZ at h;unfold DV;unfold cI at p
  obtain⟨a,xs,e,q,r⟩:=h
  exact⟨a,xs,e,SqT.fz q,tX ds xs p r⟩
 | .lst ds,v,p,h=>by
  unfold aZ at h;unfold DV;unfold cI at p
  obtain⟨a,xs,e,q,r⟩:=h
  exact⟨a,xs,e,SqL.of (eQ q).1,tX ds xs p r⟩
 | .ro ds,v,p,h=>by unfold cI at p;cases p
 | .dic ds,v,p,h=>by unfold cI at p;cases p
 | .cell ds,v,p,h=>by unfold cI at p;cases p
theorem tX:∀(ds:List D)(vs:List V),eU ds=true->az K (W.fz tb) W.ad ds vs->DVL K W.H ds vs
 | [],vs,_,h=>by unfold az at h;unfold DVL;exact h
 |d::ds,vs,p,h=>by
  unfold az at h;unfold DVL;unfold eU at p
  rw[Zo]at p
  obtain⟨u,us,e,q,r⟩:=h
  exact⟨u,us,e,Nf d u p.1 q,tX ds us p.2 r⟩
end
end
def qP(xs ys:List D)(j:Nat):Bool:=match xs[j]?,ys[j]? with
 |some x,some y=>eqD x y
 |_,_=>false
theorem lC:∀(xs ys:List D),xs.length=ys.length->(List.range xs.length).all (qP xs ys)=iW xs ys
 | [],[],_=>by unfold iW;rfl
 |x::xs,y::ys,h=>by
  unfold iW
  rw[List.length_cons,List.range_succ_eq_map,List.all_cons,List.all_map,<-lC xs ys (by simpa using h)]
  rfl
theorem pq:∀(xs ys:List D),xs.length≠ys.length->iW xs ys=false
 | [],[],h=>absurd rfl h
 | [],y::ys,_=>by unfold iW;rfl
 |x::xs,[],_=>by unfold iW;rfl
 |x::xs,y::ys,h=>by
  unfold iW
  rw[pq xs ys (by simpa using h),Bool.and_false]
theorem yu(xs ys:List D):((List.range (min xs.length ys.length)).all (qP xs ys)&&xs.length==ys.length)=iW xs ys:=by
 by_cases h:xs.length=ys.length
 .rw[<-h,Nat.min_self,lC xs ys h];simp
 .rw[pq xs ys h,beq_false_of_ne h,Bool.and_false]
section
variable {X:Cx} {pins:List (Addr×Obj)} {σ:L2.St} {H:Hp} {s:Shared}
theorem DVL.length{K:PySem.W.Frag}:∀{ds:List D}{vs:List V},DVL K H ds vs->ds.length=vs.length
 | [],vs,h=>by unfold DVL at h;subst h;rfl
 |d::ds,vs,h=>by
  unfold DVL at h
  obtain⟨u,us,rfl,_,r⟩:=h
  rw[List.length_cons,List.length_cons,DVL.length r]
theorem DVL.get'{K:PySem.W.Frag}:∀{ds:List D}{vs:List V}{i:Nat}{v:V},DVL K H ds vs->vs[i]? =some v->∃d,ds[i]? =some d/\DV K H d v
 | [],vs,i,v,h,e=>by unfold DVL at h;subst h;simp at e
 |d::ds,vs,0,x,h,e=>by
  unfold DVL at h
  obtain⟨u,us,rfl,p,r⟩:=h
  simp at e;subst e
  exact⟨d,rfl,p⟩
 |d::ds,vs,i+1,x,h,e=>by
  unfold DVL at h
  obtain⟨u,us,rfl,p,r⟩:=h
  obtain⟨y,e1,e2⟩:=DVL.get' (i:=i) r (by simpa using e)
  exact⟨y,by simpa using e1,e2⟩
theorem zB{a:Addr}{xs ys:List V}(I:Inv X pins σ H s)(h:SqL X.K H a xs)(h':SqT X.K H a ys):False:=by
 obtain⟨its,_,pl,_⟩:=I.list h
 obtain⟨its',_,pt,_⟩:=I.tuple h'
 obtain⟨o,ho,hc,_⟩:=pl.isList
 obtain⟨o',ho',hc',_⟩:=pt
 rw[ho]at ho';cases ho'
 rw[hc]at hc'
 exact absurd hc' (by decide)
mutual
theorem tM(I:Inv X pins σ H s):∀(x y:D)(v:V),DV X.K H x v->DV X.K H y v->eqD x y=true
 | .non,.non,v,h,k=>by unfold eqD;rfl
 | .non,.bl b,v,h,k=>by unfold DV at h k;subst h;cases k
 | .non,.int b,v,h,k=>by unfold DV at h k;subst h;cases k
 | .non,.str b,v,h,k=>by unfold DV at h k;subst h;cases k
 | .non,.tup ys,v,h,k=>by unfold DV at h k;obtain⟨a,us,rfl,q,r⟩:=k;cases h
 | .non,.lst ys,v,h,k=>by unfold DV at h k;obtain⟨a,us,rfl,q,r⟩:=k;cases h
 | .bl a,.non,v,h,k=>by unfold DV at h k;subst h;cases k
 | .bl a,.bl b,v,h,k=>by unfold DV at h k;subst h;cases k;unfold eqD;simp
 | .bl a,.int b,v,h,k=>by unfold DV at h k;subst h;cases k
 | .bl a,.str b,v,h,k=>by unfold DV at h k;subst h;cases k
 | .bl a,.tup ys,v,h,k=>by unfold DV at h k;obtain⟨a,us,rfl,q,r⟩:=k;cases h
 | .bl a,.lst ys,v,h,k=>by unfold DV at h k;obtain⟨a,us,rfl,q,r⟩:=k;cases h
 | .int a,.non,v,h,k=>by unfold DV at h k;subst h;cases k
 | .int a,.bl b,v,h,k=>by unfold DV at h k;subst h;cases k
 | .int a,.int b,v,h,k=>by unfold DV at h k;subst h;cases k;unfold eqD;simp
 | .int a,.str b,v,h,k=>by unfold DV at h k;subst h;cases k
 | .int a,.tup ys,v,h,k=>by unfold DV at h k;obtain⟨a,us,rfl,q,r⟩:=k;cases h
 | .int a,.lst ys,v,h,k=>by unfold DV at h k;obtain⟨a,us,rfl,q,r⟩:=k;cases h
 | .str a,.non,v,h,k=>by unfold DV at h k;subst h;cases k
 | .str a,.bl b,v,h,k=>by unfold DV at h k;subst h;cases k
 | .str a,.int b,v,h,k=>by unfold DV at h k;subst h;cases k
 | .str a,.str b,v,h,k=>by unfold DV at h k;subst h;cases k;unfold eqD;simp
 | .str a,.tup ys,v,h,k=>by unfold DV at h k;obtain⟨a,us,rfl,q,r⟩:=k;cases h
 | .str a,.lst ys,v,h,k=>by unfold DV at h k;obtain⟨a,us,rfl,q,r⟩:=k;cases h
 | .tup xs,.non,v,h,k=>by unfold DV at h k;obtain⟨a,us,rfl,q,r⟩:=h;cases k
 | .tup xs,.bl b,v,h,k=>by unfold DV at h k;obtain⟨a,us,rfl,q,r⟩:=h;cases k
 | .tup xs,.int b,v,h,k=>by unfold DV at h k;obtain⟨a,us,rfl,q,r⟩:=h;cases k
 | .tup xs,.str b,v,h,k=>by unfold DV at h k;obtain⟨a,us,rfl,q,r⟩:=h;cases k
 | .tup xs,.tup ys,v,h,k=>by
  unfold DV at h k
  obtain⟨a,us,rfl,q,r⟩:=h
  obtain⟨a',us',e,q',r'⟩:=k
  cases e
  have:=I.tuple_inj q q'
  subst this
  unfold eqD
  exact pX I xs ys us r r'
 | .tup xs,.lst ys,v,h,k=>by
  unfold DV at h k
  obtain⟨a,us,rfl,q,r⟩:=h
  obtain⟨a',us',e,q',r'⟩:=k
  cases e
  exact(zB I q' q).elim
 | .lst xs,.non,v,h,k=>by unfold DV at h k;obtain⟨a,us,rfl,q,r⟩:=h;cases k
 | .lst xs,.bl b,v,h,k=>by unfold DV at h k;obtain⟨a,us,rfl,q,r⟩:=h;cases k
 | .lst xs,.int b,v,h,k=>by unfold DV at h k;obtain⟨a,us,rfl,q,r⟩:=h;cases k
 | .lst xs,.str b,v,h,k=>by unfold DV at h k;obtain⟨a,us,rfl,q,r⟩:=h;cases k
 | .lst xs,.tup ys,v,h,k=>by
  unfold DV at h k
  obtain⟨a,us,rfl,q,r⟩:=h
  obtain⟨a',us',e,q',r'⟩:=k
  cases e
  exact(zB I q q').elim
 | .lst xs,.lst ys,v,h,k=>by
  unfold DV at h k
  obtain⟨a,us,rfl,q,r⟩:=h
  obtain⟨a',us',e,q',r'⟩:=k
  cases e
  have:=I.list_inj q q'
  subst this
  unfold eqD
  exact pX I xs ys us r r'
 | .ro _,_,v,h,_=>by unfold DV at h;exact h.elim
 | .dic _,_,v,h,_=>by unfold DV at h;exact h.elim
 | .cell _,_,v,h,_=>by unfold DV at h;exact h.elim
 |_,.ro _,v,_,k=>by unfold DV at k;exact k.elim
 |_,.dic _,v,_,k=>by unfold DV at k;exact k.elim
 |_,.cell _,v,_,k=>by unfold DV at k;exact k.elim
theorem pX(I:Inv X pins σ H s):∀(xs ys:List D)(vs:List V),DVL X.K H xs vs->DVL X.K H ys vs->iW xs ys=true
 | [],[],vs,_,_=>by unfold iW;rfl
 | [],y::ys,vs,h,k=>by unfold DVL at h k;subst h;obtain⟨u,us,e,_⟩:=k;cases e
 |x::xs,[],vs,h,k=>by unfold DVL at h k;subst k;obtain⟨u,us,e,_⟩:=h;cases e
 |x::xs,y::ys,vs,h,k=>by
  unfold DVL at h k
  obtain⟨u,us,rfl,p,r⟩:=h
  obtain⟨u',us',e,p',r'⟩:=k
  cases e
  unfold iW
  rw[tM I x y u p p',pX I xs ys us r r'];rfl
end
def sk:D->D->Bool
 | .tup _,.tup _=>true
 | .lst _,.lst _=>true
 |_,_=>false
def Vw(s:Shared):D->Value->Prop
 | .non,v=>v= .none
 | .bl b,v=>v= .bool b
 | .int i,v=>∃t,v= .int i t
 | .str z,v=>∃t,v= .str z t
 | .tup _,v=>∃a its,v= .ref a/\IsTup s.heap a its
 | .lst _,v=>∃a its,v= .ref a/\s.heap.IsList a its
 |_,_=>False
theorem vw{x:D}{v:V}{vv:Value}(I:Inv X pins σ H s)(h:DV X.K H x v)(rv:RelV v vv):Vw s x vv:=by
 cases x<;>unfold DV at h
 case tup=>obtain⟨a,us,rfl,q,r⟩:=h;obtain⟨_,_,pl,_⟩:=I.tuple q;exact⟨a,_,rv,pl⟩
 case lst=>obtain⟨a,us,rfl,q,r⟩:=h;obtain⟨_,_,pl,_⟩:=I.list q;exact⟨a,_,rv,pl.isList⟩
 case ro=>exact h.elim
 case dic=>exact h.elim
 case cell=>exact h.elim
 all_goals subst h;exact rv
theorem lA{vv uu:Value}{A:Around}(hu:A.units<cLine):∀(x y:D),Vw s x vv->Vw s y uu->sk x y=false->EqAt A s vv uu (eqD x y)
 | .non,.non,rfl,rfl,_=>by unfold eqD;exact EqAt.same _
 | .non,.bl _,rfl,rfl,_=>by unfold eqD;exact EqAt.none_bool _
 | .non,.int _,rfl,⟨_,rfl⟩,_=>by unfold eqD;exact EqAt.none_int _ _
 | .non,.str _,rfl,⟨_,rfl⟩,_=>by unfold eqD;exact EqAt.none_str _ _
 | .non,.tup _,rfl,⟨_,_,rfl,m⟩,_=>by unfold eqD;exact EqAt.none_tuple m hu
 | .non,.lst _,rfl,⟨_,_,rfl,m⟩,_=>by unfold eqD;exact EqAt.none_list m hu
 | .bl _,.non,rfl,rfl,_=>by unfold eqD;exact EqAt.bool_none _
 | .bl _,.bl _,rfl,rfl,_=>by unfold eqD;exact EqAt.bool_bool _ _
 | .bl _,.int _,rfl,⟨_,rfl⟩,_=>by unfold eqD;exact EqAt.bool_int _ _ _
 | .bl _,.str _,rfl,⟨_,rfl⟩,_=>by unfold eqD;exact EqAt.bool_str _ _ _
 | .bl _,.tup _,rfl,⟨_,_,rfl,m⟩,_=>by unfold eqD;exact EqAt.bool_tuple _ m hu
 | .bl _,.lst _,rfl,⟨_,_,rfl,m⟩,_=>by unfold eqD;exact EqAt.bool_list _ m hu
 | .int _,.non,⟨_,rfl⟩,rfl,_=>by unfold eqD;exact EqAt.int_none _ _
 | .int _,.bl _,⟨_,rfl⟩,rfl,_=>by unfold eqD;exact EqAt.int_bool _ _ _
 | .int _,.int _,⟨_,rfl⟩,⟨_,rfl⟩,_=>by unfold eqD;exact EqAt.int_int _ _ _ _
 | .int _,.str _,⟨_,rfl⟩,⟨_,rfl⟩,_=>by unfold eqD;exact EqAt.int_str _ _ _ _
 | .int _,.tup _,⟨_,rfl⟩,⟨_,_,rfl,m⟩,_=>by unfold eqD;exact EqAt.int_tuple _ _ m hu
 | .int _,.lst _,⟨_,rfl⟩,⟨_,_,rfl,m⟩,_=>by unfold eqD;exact EqAt.int_list _ _ m hu
 | .str _,.non,⟨_,rfl⟩,rfl,_=>by unfold eqD;exact EqAt.str_none _ _
 | .str _,.bl _,⟨_,rfl⟩,rfl,_=>by unfold eqD;exact EqAt.str_bool _ _ _
 | .str _,.int _,⟨_,rfl⟩,⟨_,rfl⟩,_=>by unfold eqD;exact EqAt.str_int _ _ _ _
 | .str _,.str _,⟨_,rfl⟩,⟨_,rfl⟩,_=>by unfold eqD;exact EqAt.str_str _ _ _ _
 | .str _,.tup _,⟨_,rfl⟩,⟨_,_,rfl,m⟩,_=>by unfold eqD;exact EqAt.str_tuple _ _ m hu
 | .str _,.lst _,⟨_,rfl⟩,⟨_,_,rfl,m⟩,_=>by unfold eqD;exact EqAt.str_list _ _ m hu
 | .tup _,.non,⟨_,_,rfl,l⟩,rfl,_=>by unfold eqD;exact EqAt.tuple_none l hu
 | .tup _,.bl _,⟨_,_,rfl,l⟩,rfl,_=>by unfold eqD;exact EqAt.tuple_bool _ l hu
 | .tup _,.int _,⟨_,_,rfl,l⟩,⟨_,rfl⟩,_=>by unfold eqD;exact EqAt.tuple_int _ _ l hu
 | .tup _,.str _,⟨_,_,rfl,l⟩,⟨_,rfl⟩,_=>by unfold eqD;exact EqAt.tuple_str _ _ l hu
 | .tup _,.tup _,_,_,h=>nomatch h
 | .tup _,.lst _,⟨_,_,rfl,l⟩,⟨_,_,rfl,m⟩,_=>by unfold eqD;exact EqAt.tuple_list l m hu
 | .lst _,.non,⟨_,_,rfl,l⟩,rfl,_=>by unfold eqD;exact EqAt.list_none l hu
 | .lst _,.bl _,⟨_,_,rfl,l⟩,rfl,_=>by unfold eqD;exact EqAt.list_bool _ l hu
 | .lst _,.int _,⟨_,_,rfl,l⟩,⟨_,rfl⟩,_=>by unfold eqD;exact EqAt.list_int _ _ l hu
 | .lst _,.str _,⟨_,_,rfl,l⟩,⟨_,rfl⟩,_=>by unfold eqD;exact EqAt.list_str _ _ l hu
 | .lst _,.tup _,⟨_,_,rfl,l⟩,⟨_,_,rfl,m⟩,_=>by unfold eqD;exact EqAt.list_tuple l m hu
 | .lst _,.lst _,_,_,h=>nomatch h
 | .ro _,_,p,_,_=>p.elim
 |_,.ro _,_,p,_=>p.elim
 | .dic _,_,p,_,_=>p.elim
 |_,.dic _,_,p,_=>p.elim
 | .cell _,_,p,_,_=>p.elim
 |_,.cell _,_,p,_=>p.elim
theorem lF{vv uu:Value}{A:Around}(hu:A.units<cLine):∀(x y:D),Vw s x vv->Vw s y uu->sk x y=false->RcAt A s vv uu (eqD x y)
 | .non,.non,rfl,rfl,_=>by unfold eqD;exact RcAt.none_none
 | .non,.bl _,rfl,rfl,_=>by unfold eqD;exact RcAt.none_bool _
 | .non,.int _,rfl,⟨_,rfl⟩,_=>by unfold eqD;exact RcAt.none_int _ _
 | .non,.str _,rfl,⟨_,rfl⟩,_=>by unfold eqD;exact RcAt.none_str _ _
 | .non,.tup _,rfl,⟨_,_,rfl,m⟩,_=>by unfold eqD;exact RcAt.none_tuple m hu
 | .non,.lst _,rfl,⟨_,_,rfl,m⟩,_=>by unfold eqD;exact RcAt.none_list m hu
 | .bl _,.non,rfl,rfl,_=>by unfold eqD;exact RcAt.bool_none _
 | .bl _,.bl _,rfl,rfl,_=>by unfold eqD;exact RcAt.bool_bool _ _
 | .bl _,.int _,rfl,⟨_,rfl⟩,_=>by unfold eqD;exact RcAt.bool_int _ _ _
 | .bl _,.str _,rfl,⟨_,rfl⟩,_=>by unfold eqD;exact RcAt.bool_str _ _ _
 | .bl _,.tup _,rfl,⟨_,_,rfl,m⟩,_=>by unfold eqD;exact RcAt.bool_tuple _ m hu
 | .bl _,.lst _,rfl,⟨_,_,rfl,m⟩,_=>by unfold eqD;exact RcAt.bool_list _ m hu
 | .int _,.non,⟨_,rfl⟩,rfl,_=>by unfold eqD;exact RcAt.int_none _ _
 | .int _,.bl _,⟨_,rfl⟩,rfl,_=>by unfold eqD;exact RcAt.int_bool _ _ _
 | .int _,.int _,⟨_,rfl⟩,⟨_,rfl⟩,_=>by unfold eqD;exact RcAt.int_int _ _ _ _
 | .int _,.str _,⟨_,rfl⟩,⟨_,rfl⟩,_=>by unfold eqD;exact RcAt.int_str _ _ _ _
 | .int _,.tup _,⟨_,rfl⟩,⟨_,_,rfl,m⟩,_=>by unfold eqD;exact RcAt.int_tuple _ _ m hu
 | .int _,.lst _,⟨_,rfl⟩,⟨_,_,rfl,m⟩,_=>by unfold eqD;exact RcAt.int_list _ _ m hu
 | .str _,.non,⟨_,rfl⟩,rfl,_=>by unfold eqD;exact RcAt.str_none _ _
 | .str _,.bl _,⟨_,rfl⟩,rfl,_=>by unfold eqD;exact RcAt.str_bool _ _ _
 | .str _,.int _,⟨_,rfl⟩,⟨_,rfl⟩,_=>by unfold eqD;exact RcAt.str_int _ _ _ _
 | .str _,.str _,⟨_,rfl⟩,⟨_,rfl⟩,_=>by unfold eqD;exact RcAt.str_str _ _ _ _
 | .str _,.tup _,⟨_,rfl⟩,⟨_,_,rfl,m⟩,_=>by unfold eqD;exact RcAt.str_tuple _ _ m hu
 | .str _,.lst _,⟨_,rfl⟩,⟨_,_,rfl,m⟩,_=>by unfold eqD;exact RcAt.str_list _ _ m hu
 | .tup _,.non,⟨_,_,rfl,l⟩,rfl,_=>by unfold eqD;exact RcAt.tuple_none l hu
 | .tup _,.bl _,⟨_,_,rfl,l⟩,rfl,_=>by unfold eqD;exact RcAt.tuple_bool _ l hu
 | .tup _,.int _,⟨_,_,rfl,l⟩,⟨_,rfl⟩,_=>by unfold eqD;exact RcAt.tuple_int _ _ l hu
 | .tup _,.str _,⟨_,_,rfl,l⟩,⟨_,rfl⟩,_=>by unfold eqD;exact RcAt.tuple_str _ _ l hu
 | .tup _,.tup _,_,_,h=>nomatch h
 | .tup _,.lst _,⟨_,_,rfl,l⟩,⟨_,_,rfl,m⟩,_=>by unfold eqD;exact RcAt.tuple_list l m hu
 | .lst _,.non,⟨_,_,rfl,l⟩,rfl,_=>by unfold eqD;exact RcAt.list_none l hu
 | .lst _,.bl _,⟨_,_,rfl,l⟩,rfl,_=>by unfold eqD;exact RcAt.list_bool _ l hu
 | .lst _,.int _,⟨_,_,rfl,l⟩,⟨_,rfl⟩,_=>by unfold eqD;exact RcAt.list_int _ _ l hu
 | .lst _,.str _,⟨_,_,rfl,l⟩,⟨_,rfl⟩,_=>by unfold eqD;exact RcAt.list_str _ _ l hu
 | .lst _,.tup _,⟨_,_,rfl,l⟩,⟨_,_,rfl,m⟩,_=>by unfold eqD;exact RcAt.list_tuple l m hu
 | .lst _,.lst _,_,_,h=>nomatch h
 | .ro _,_,p,_,_=>p.elim
 |_,.ro _,_,p,_=>p.elim
 | .dic _,_,p,_,_=>p.elim
 |_,.dic _,_,p,_=>p.elim
 | .cell _,_,p,_,_=>p.elim
 |_,.cell _,_,p,_=>p.elim
theorem lG{vv uu:Value}{A:Around}(hu:A.units<cLine):∀(x y:D),Vw s x vv->Vw s y uu->sk x y=false->RcNeAt A s vv uu (!eqD x y)
 | .non,.non,rfl,rfl,_=>by unfold eqD;exact RcNeAt.none_none
 | .non,.bl _,rfl,rfl,_=>by unfold eqD;exact RcNeAt.none_bool _
 | .non,.int _,rfl,⟨_,rfl⟩,_=>by unfold eqD;exact RcNeAt.none_int _ _
 | .non,.str _,rfl,⟨_,rfl⟩,_=>by unfold eqD;exact RcNeAt.none_str _ _
 | .non,.tup _,rfl,⟨_,_,rfl,m⟩,_=>by unfold eqD;exact RcNeAt.none_tuple m hu
 | .non,.lst _,rfl,⟨_,_,rfl,m⟩,_=>by unfold eqD;exact RcNeAt.none_list m hu
 | .bl _,.non,rfl,rfl,_=>by unfold eqD;exact RcNeAt.bool_none _
 | .bl _,.bl _,rfl,rfl,_=>by unfold eqD;exact RcNeAt.bool_bool _ _
 | .bl _,.int _,rfl,⟨_,rfl⟩,_=>by unfold eqD;exact RcNeAt.bool_int _ _ _
 | .bl _,.str _,rfl,⟨_,rfl⟩,_=>by unfold eqD;exact RcNeAt.bool_str _ _ _
 | .bl _,.tup _,rfl,⟨_,_,rfl,m⟩,_=>by unfold eqD;exact RcNeAt.bool_tuple _ m hu
 | .bl _,.lst _,rfl,⟨_,_,rfl,m⟩,_=>by unfold eqD;exact RcNeAt.bool_list _ m hu
 | .int _,.non,⟨_,rfl⟩,rfl,_=>by unfold eqD;exact RcNeAt.int_none _ _
 | .int _,.bl _,⟨_,rfl⟩,rfl,_=>by unfold eqD;exact RcNeAt.int_bool _ _ _
 | .int _,.int _,⟨_,rfl⟩,⟨_,rfl⟩,_=>by unfold eqD;exact RcNeAt.int_int _ _ _ _
 | .int _,.str _,⟨_,rfl⟩,⟨_,rfl⟩,_=>by unfold eqD;exact RcNeAt.int_str _ _ _ _
 | .int _,.tup _,⟨_,rfl⟩,⟨_,_,rfl,m⟩,_=>by unfold eqD;exact RcNeAt.int_tuple _ _ m hu
 | .int _,.lst _,⟨_,rfl⟩,⟨_,_,rfl,m⟩,_=>by unfold eqD;exact RcNeAt.int_list _ _ m hu
 | .str _,.non,⟨_,rfl⟩,rfl,_=>by unfold eqD;exact RcNeAt.str_none _ _
 | .str _,.bl _,⟨_,rfl⟩,rfl,_=>by unfold eqD;exact RcNeAt.str_bool _ _ _
 | .str _,.int _,⟨_,rfl⟩,⟨_,rfl⟩,_=>by unfold eqD;exact RcNeAt.str_int _ _ _ _
 | .str _,.str _,⟨_,rfl⟩,⟨_,rfl⟩,_=>by unfold eqD;exact RcNeAt.str_str _ _ _ _
 | .str _,.tup _,⟨_,rfl⟩,⟨_,_,rfl,m⟩,_=>by unfold eqD;exact RcNeAt.str_tuple _ _ m hu
 | .str _,.lst _,⟨_,rfl⟩,⟨_,_,rfl,m⟩,_=>by unfold eqD;exact RcNeAt.str_list _ _ m hu
 | .tup _,.non,⟨_,_,rfl,l⟩,rfl,_=>by unfold eqD;exact RcNeAt.tuple_none l hu
 | .tup _,.bl _,⟨_,_,rfl,l⟩,rfl,_=>by unfold eqD;exact RcNeAt.tuple_bool _ l hu
 | .tup _,.int _,⟨_,_,rfl,l⟩,⟨_,rfl⟩,_=>by unfold eqD;exact RcNeAt.tuple_int _ _ l hu
 | .tup _,.str _,⟨_,_,rfl,l⟩,⟨_,rfl⟩,_=>by unfold eqD;exact RcNeAt.tuple_str _ _ l hu
 | .tup _,.tup _,_,_,h=>nomatch h
 | .tup _,.lst _,⟨_,_,rfl,l⟩,⟨_,_,rfl,m⟩,_=>by unfold eqD;exact RcNeAt.tuple_list l m hu
 | .lst _,.non,⟨_,_,rfl,l⟩,rfl,_=>by unfold eqD;exact RcNeAt.list_none l hu
 | .lst _,.bl _,⟨_,_,rfl,l⟩,rfl,_=>by unfold eqD;exact RcNeAt.list_bool _ l hu
 | .lst _,.int _,⟨_,_,rfl,l⟩,⟨_,rfl⟩,_=>by unfold eqD;exact RcNeAt.list_int _ _ l hu
 | .lst _,.str _,⟨_,_,rfl,l⟩,⟨_,rfl⟩,_=>by unfold eqD;exact RcNeAt.list_str _ _ l hu
 | .lst _,.tup _,⟨_,_,rfl,l⟩,⟨_,_,rfl,m⟩,_=>by unfold eqD;exact RcNeAt.list_tuple l m hu
 | .lst _,.lst _,_,_,h=>nomatch h
 | .ro _,_,p,_,_=>p.elim
 |_,.ro _,_,p,_=>p.elim
 | .dic _,_,p,_,_=>p.elim
 |_,.dic _,_,p,_=>p.elim
 | .cell _,_,p,_,_=>p.elim
 |_,.cell _,_,p,_=>p.elim
theorem wF{xs ys:List D}{us ws:List V}{its0 its1:List Value}{A:Around}(r:DVL X.K H xs us)(r2:DVL X.K H ys ws)(iv0:Vals us its0)(iv1:Vals ws its1)
  (E:∀(j:Nat)(x y:D),xs[j]? =some x->ys[j]? =some y->∀(z z':Value),its0[j]? =some z->its1[j]? =some z'->EqAt A.in1 s z z' (eqD x y)) (j:Nat) (h1:j<its0.toArray.size) (h2:j<its1.toArray.size):EqAt A.in1 s its0.toArray[j] its1.toArray[j] (qP xs ys j):=by
 have h1':j<its0.length:=by simpa using h1
 have h2':j<its1.length:=by simpa using h2
 obtain⟨d,e1,dv⟩:=DVL.get' r (show us[j]? =some (us[j]'(by rw[iv0.length];exact h1')) by simp)
 obtain⟨d',e2,dv'⟩:=DVL.get' r2 (show ws[j]? =some (ws[j]'(by rw[iv1.length];exact h2')) by simp)
 obtain⟨z,ez,rz⟩:=iv0.get (show us[j]? =some (us[j]'(by rw[iv0.length];exact h1')) by simp)
 obtain⟨z',ez',rz'⟩:=iv1.get (show ws[j]? =some (ws[j]'(by rw[iv1.length];exact h2')) by simp)
 have f1:its0.toArray[j]=z:=by simpa[h1']using ez
 have f2:its1.toArray[j]=z':=by simpa[h2']using ez'
 rw[f1,f2]
 have:=E j d d' e1 e2 z z' ez ez'
 unfold qP
 rw[e1,e2]
 exact this
theorem Dg{xs ys:List D}{us ws:List V}{its0 its1:List Value}{a b:Addr}{A:Around}(pl0:IsTup s.heap a its0.toArray)(pl1:IsTup s.heap b its1.toArray)(r:DVL X.K H xs us)(r2:DVL X.K H ys ws)(iv0:Vals us its0)(iv1:Vals ws its1)(hu:A.units<cLine)
  (E:∀(j:Nat)(x y:D),xs[j]? =some x->ys[j]? =some y->∀(z z':Value),its0[j]? =some z->its1[j]? =some z'->EqAt A.in1 s z z' (eqD x y)):RcAt A s (.ref a) (.ref b) (iW xs ys):=by
 have hl0:its0.toArray.size=xs.length:=by rw[Zd,<-iv0.length,<-DVL.length r]
 have hl1:its1.toArray.size=ys.length:=by rw[Zd,<-iv1.length,<-DVL.length r2]
 have rc:=RcAt.tuples (A:=A) (e:=qP xs ys) pl0 pl1 (by omega) (wF r r2 iv0 iv1 E)
 rw[hl0,hl1,yu]at rc
 exact rc
theorem CZ{xs ys:List D}{us ws:List V}{its0 its1:List Value}{a b:Addr}{A:Around}(pl0:PlainL s.heap a its0.toArray)(pl1:PlainL s.heap b its1.toArray)(r:DVL X.K H xs us)(r2:DVL X.K H ys ws)(iv0:Vals us its0)(iv1:Vals ws its1)(hu:A.units<cLine)
  (E:∀(j:Nat)(x y:D),xs[j]? =some x->ys[j]? =some y->∀(z z':Value),its0[j]? =some z->its1[j]? =some z'->EqAt A.in1 s z z' (eqD x y)):RcAt A s (.ref a) (.ref b) (iW xs ys):=by
 have hl0:its0.toArray.size=xs.length:=by rw[Zd,<-iv0.length,<-DVL.length r]
 have hl1:its1.toArray.size=ys.length:=by rw[Zd,<-iv1.length,<-DVL.length r2]
 by_cases hlen:xs.length=ys.length
 .have rc:=RcAt.lists (A:=A) (e:=qP xs ys) pl0.isList pl1.isList (by rw[hl0,hl1,hlen]) (by omega) (wF r r2 iv0 iv1 E)
  rw[hl0,lC _ _ hlen]at rc
  exact rc
 .rw[pq _ _ hlen]
  exact RcAt.lists_lengths pl0.isList pl1.isList (by rw[hl0,hl1];simpa using hlen) (by omega)
theorem JM{xs ys:List D}{us ws:List V}{its0 its1:List Value}{a b:Addr}{A:Around}(pl0:IsTup s.heap a its0.toArray)(pl1:IsTup s.heap b its1.toArray)(r:DVL X.K H xs us)(r2:DVL X.K H ys ws)(iv0:Vals us its0)(iv1:Vals ws its1)(hu:A.units<cLine)
  (E:∀(j:Nat)(x y:D),xs[j]? =some x->ys[j]? =some y->∀(z z':Value),its0[j]? =some z->its1[j]? =some z'->EqAt A.in1 s z z' (eqD x y)):RcNeAt A s (.ref a) (.ref b) (!iW xs ys):=by
 have hl0:its0.toArray.size=xs.length:=by rw[Zd,<-iv0.length,<-DVL.length r]
 have hl1:its1.toArray.size=ys.length:=by rw[Zd,<-iv1.length,<-DVL.length r2]
 have rc:=RcNeAt.tuples (A:=A) (e:=qP xs ys) pl0 pl1 (by omega) (wF r r2 iv0 iv1 E)
 rw[hl0,hl1,yu]at rc
 exact rc
theorem Jt{xs ys:List D}{us ws:List V}{its0 its1:List Value}{a b:Addr}{A:Around}(pl0:PlainL s.heap a its0.toArray)(pl1:PlainL s.heap b its1.toArray)(r:DVL X.K H xs us)(r2:DVL X.K H ys ws)(iv0:Vals us its0)(iv1:Vals ws its1)(hu:A.units<cLine)
  (E:∀(j:Nat)(x y:D),xs[j]? =some x->ys[j]? =some y->∀(z z':Value),its0[j]? =some z->its1[j]? =some z'->EqAt A.in1 s z z' (eqD x y)):RcNeAt A s (.ref a) (.ref b) (!iW xs ys):=by
 have hl0:its0.toArray.size=xs.length:=by rw[Zd,<-iv0.length,<-DVL.length r]
 have hl1:its1.toArray.size=ys.length:=by rw[Zd,<-iv1.length,<-DVL.length r2]
 by_cases hlen:xs.length=ys.length
 .have rc:=RcNeAt.lists (A:=A) (e:=qP xs ys) pl0.isList pl1.isList (by rw[hl0,hl1,hlen]) (by omega) (wF r r2 iv0 iv1 E)
  rw[hl0,lC _ _ hlen]at rc
  exact rc
 .rw[pq _ _ hlen]
  exact RcNeAt.lists_lengths pl0.isList pl1.isList (by rw[hl0,hl1];simpa using hlen) (by omega)
mutual
theorem Pz(I:Inv X pins σ H s):∀(x y:D)(v u:V)(vv uu:Value)(A:Around),DV X.K H x v->DV X.K H y u->RelV v vv->RelV u uu->A.units+gq x<cLine->EqAt A s vv uu (eqD x y)
 | .tup xs,y,v,u,vv,uu,A,h,k,rv,ru,hu=>by
  cases y with
  |tup ys=>
   have h0:=h
   have k0:=k
   unfold DV at h k;unfold gq at hu
   obtain⟨a,us,rfl,q,r⟩:=h;cases rv;obtain⟨its0,iv0,pl0,hz0⟩:=I.tuple q;obtain⟨b,ws,rfl,p,r2⟩:=k;cases ru;obtain⟨its1,iv1,pl1,hz1⟩:=I.tuple p
   by_cases hab:a=b
   .subst hab
    rw[tM I _ _ _ h0 k0]
    exact EqAt.same _
   .unfold eqD
    exact EqAt.of_refs hab (Dg pl0 pl1 r r2 iv0 iv1 (by omega) (lB I xs ys us ws its0 its1 A.in1 r r2 iv0 iv1 (by rw[units_in1];omega)))
  |_=>exact lA (by omega) _ _ (vw I h rv) (vw I k ru) rfl
 | .lst xs,y,v,u,vv,uu,A,h,k,rv,ru,hu=>by
  cases y with
  |lst ys=>
   have h0:=h
   have k0:=k
   unfold DV at h k;unfold gq at hu
   obtain⟨a,us,rfl,q,r⟩:=h;cases rv;obtain⟨its0,iv0,pl0,hz0⟩:=I.list q;obtain⟨b,ws,rfl,p,r2⟩:=k;cases ru;obtain⟨its1,iv1,pl1,hz1⟩:=I.list p
   by_cases hab:a=b
   .subst hab
    rw[tM I _ _ _ h0 k0]
    exact EqAt.same _
   .unfold eqD
    exact EqAt.of_refs hab (CZ pl0 pl1 r r2 iv0 iv1 (by omega) (lB I xs ys us ws its0 its1 A.in1 r r2 iv0 iv1 (by rw[units_in1];omega)))
  |_=>exact lA (by omega) _ _ (vw I h rv) (vw I k ru) rfl
 | .non,y,v,u,vv,uu,A,h,k,rv,ru,hu=>lA (by omega) _ _ (vw I h rv) (vw I k ru) (by cases y<;>rfl)
 | .bl _,y,v,u,vv,uu,A,h,k,rv,ru,hu=>lA (by omega) _ _ (vw I h rv) (vw I k ru) (by cases y<;>rfl)
 | .int _,y,v,u,vv,uu,A,h,k,rv,ru,hu=>lA (by omega) _ _ (vw I h rv) (vw I k ru) (by cases y<;>rfl)
 | .str _,y,v,u,vv,uu,A,h,k,rv,ru,hu=>lA (by omega) _ _ (vw I h rv) (vw I k ru) (by cases y<;>rfl)
 | .ro _,y,v,u,vv,uu,A,h,k,rv,ru,hu=>lA (by omega) _ _ (vw I h rv) (vw I k ru) (by cases y<;>rfl)
 | .dic _,y,v,u,vv,uu,A,h,k,rv,ru,hu=>lA (by omega) _ _ (vw I h rv) (vw I k ru) (by cases y<;>rfl)
 | .cell _,y,v,u,vv,uu,A,h,k,rv,ru,hu=>lA (by omega) _ _ (vw I h rv) (vw I k ru) (by cases y<;>rfl)
theorem lB(I:Inv X pins σ H s):∀(xs ys:List D)(vs us:List V)(vvs uus:List Value)(A:Around),DVL X.K H xs vs->DVL X.K H ys us->Vals vs vvs->Vals us uus->A.units+iR xs<cLine->
  ∀(j:Nat)(x y:D),xs[j]? =some x->ys[j]? =some y->∀(z z':Value),vvs[j]? =some z->uus[j]? =some z'->EqAt A s z z' (eqD x y)
 | [],ys,vs,us,vvs,uus,A,_,_,_,_,_=>λj x y e=>by simp at e
 |x::xs,[],vs,us,vvs,uus,A,_,_,_,_,_=>λj _ y _ e=>by simp at e
 |x::xs,y::ys,vs,us,vvs,uus,A,h,k,rv,ru,hu=>by
  unfold DVL at h k
  unfold iR at hu
  obtain⟨v,vs',rfl,p,r⟩:=h
  obtain⟨u,us',rfl,p',r'⟩:=k
  cases rv with
  |cons rv1 rv2=>
   cases ru with
   |cons ru1 ru2=>
    intro j x' y' e1 e2 z z' ez ez'
    cases j with
    |zero=>
     simp at e1 e2 ez ez'
     subst e1 e2 ez ez'
     exact Pz I x y v u _ _ A p p' rv1 ru1 (by omega)
    |succ j=>
     exact lB I xs ys vs' us' _ _ A r r' rv2 ru2 (by omega) j x' y' (by simpa using e1) (by simpa using e2) z z' (by simpa using ez) (by simpa using ez')
end
theorem Py(I:Inv X pins σ H s):∀(x y:D)(v u:V)(vv uu:Value)(A:Around),DV X.K H x v->DV X.K H y u->RelV v vv->RelV u uu->A.units+gq x<cLine->RcAt A s vv uu (eqD x y)
 | .tup xs,y,v,u,vv,uu,A,h,k,rv,ru,hu=>by
  cases y with
  |tup ys=>
   unfold DV at h k;unfold gq at hu
   obtain⟨a,us,rfl,q,r⟩:=h;cases rv;obtain⟨its0,iv0,pl0,hz0⟩:=I.tuple q;obtain⟨b,ws,rfl,p,r2⟩:=k;cases ru;obtain⟨its1,iv1,pl1,hz1⟩:=I.tuple p
   unfold eqD
   exact Dg pl0 pl1 r r2 iv0 iv1 (by omega) (lB I xs ys us ws its0 its1 A.in1 r r2 iv0 iv1 (by rw[units_in1];omega))
  |_=>exact lF (by omega) _ _ (vw I h rv) (vw I k ru) rfl
 | .lst xs,y,v,u,vv,uu,A,h,k,rv,ru,hu=>by
  cases y with
  |lst ys=>
   unfold DV at h k;unfold gq at hu
   obtain⟨a,us,rfl,q,r⟩:=h;cases rv;obtain⟨its0,iv0,pl0,hz0⟩:=I.list q;obtain⟨b,ws,rfl,p,r2⟩:=k;cases ru;obtain⟨its1,iv1,pl1,hz1⟩:=I.list p
   unfold eqD
   exact CZ pl0 pl1 r r2 iv0 iv1 (by omega) (lB I xs ys us ws its0 its1 A.in1 r r2 iv0 iv1 (by rw[units_in1];omega))
  |_=>exact lF (by omega) _ _ (vw I h rv) (vw I k ru) rfl
 | .non,y,v,u,vv,uu,A,h,k,rv,ru,hu=>lF (by omega) _ _ (vw I h rv) (vw I k ru) (by cases y<;>rfl)
 | .bl _,y,v,u,vv,uu,A,h,k,rv,ru,hu=>lF (by omega) _ _ (vw I h rv) (vw I k ru) (by cases y<;>rfl)
 | .int _,y,v,u,vv,uu,A,h,k,rv,ru,hu=>lF (by omega) _ _ (vw I h rv) (vw I k ru) (by cases y<;>rfl)
 | .str _,y,v,u,vv,uu,A,h,k,rv,ru,hu=>lF (by omega) _ _ (vw I h rv) (vw I k ru) (by cases y<;>rfl)
 | .ro _,y,v,u,vv,uu,A,h,k,rv,ru,hu=>lF (by omega) _ _ (vw I h rv) (vw I k ru) (by cases y<;>rfl)
 | .dic _,y,v,u,vv,uu,A,h,k,rv,ru,hu=>lF (by omega) _ _ (vw I h rv) (vw I k ru) (by cases y<;>rfl)
 | .cell _,y,v,u,vv,uu,A,h,k,rv,ru,hu=>lF (by omega) _ _ (vw I h rv) (vw I k ru) (by cases y<;>rfl)
theorem Om(I:Inv X pins σ H s):∀(x y:D)(v u:V)(vv uu:Value)(A:Around),DV X.K H x v->DV X.K H y u->RelV v vv->RelV u uu->A.units+gq x<cLine->RcNeAt A s vv uu (!eqD x y)
 | .tup xs,y,v,u,vv,uu,A,h,k,rv,ru,hu=>by
  cases y with
  |tup ys=>
   unfold DV at h k;unfold gq at hu
   obtain⟨a,us,rfl,q,r⟩:=h;cases rv;obtain⟨its0,iv0,pl0,hz0⟩:=I.tuple q;obtain⟨b,ws,rfl,p,r2⟩:=k;cases ru;obtain⟨its1,iv1,pl1,hz1⟩:=I.tuple p
   unfold eqD
   exact JM pl0 pl1 r r2 iv0 iv1 (by omega) (lB I xs ys us ws its0 its1 A.in1 r r2 iv0 iv1 (by rw[units_in1];omega))
  |_=>exact lG (by omega) _ _ (vw I h rv) (vw I k ru) rfl
 | .lst xs,y,v,u,vv,uu,A,h,k,rv,ru,hu=>by
  cases y with
  |lst ys=>
   unfold DV at h k;unfold gq at hu
   obtain⟨a,us,rfl,q,r⟩:=h;cases rv;obtain⟨its0,iv0,pl0,hz0⟩:=I.list q;obtain⟨b,ws,rfl,p,r2⟩:=k;cases ru;obtain⟨its1,iv1,pl1,hz1⟩:=I.list p
   unfold eqD
   exact Jt pl0 pl1 r r2 iv0 iv1 (by omega) (lB I xs ys us ws its0 its1 A.in1 r r2 iv0 iv1 (by rw[units_in1];omega))
  |_=>exact lG (by omega) _ _ (vw I h rv) (vw I k ru) rfl
 | .non,y,v,u,vv,uu,A,h,k,rv,ru,hu=>lG (by omega) _ _ (vw I h rv) (vw I k ru) (by cases y<;>rfl)
 | .bl _,y,v,u,vv,uu,A,h,k,rv,ru,hu=>lG (by omega) _ _ (vw I h rv) (vw I k ru) (by cases y<;>rfl)
 | .int _,y,v,u,vv,uu,A,h,k,rv,ru,hu=>lG (by omega) _ _ (vw I h rv) (vw I k ru) (by cases y<;>rfl)
 | .str _,y,v,u,vv,uu,A,h,k,rv,ru,hu=>lG (by omega) _ _ (vw I h rv) (vw I k ru) (by cases y<;>rfl)
 | .ro _,y,v,u,vv,uu,A,h,k,rv,ru,hu=>lG (by omega) _ _ (vw I h rv) (vw I k ru) (by cases y<;>rfl)
 | .dic _,y,v,u,vv,uu,A,h,k,rv,ru,hu=>lG (by omega) _ _ (vw I h rv) (vw I k ru) (by cases y<;>rfl)
 | .cell _,y,v,u,vv,uu,A,h,k,rv,ru,hu=>lG (by omega) _ _ (vw I h rv) (vw I k ru) (by cases y<;>rfl)
end
def rsv(d:D)(μ:Mu):D:=match d with
 | .cell n=>match μ[n]? with
  |some (some ds)=>.lst ds
  |_=>d
 | .ro ds=>.lst ds
 |_=>d
theorem xg{K:PySem.W.Frag}{tb:List Addr}{W:Wd}{d:D}{v:V}(ok:WOk K tb W)(h:Den K tb W d v)(p:cI (rsv d W.mu)=true):DV K W.H (rsv d W.mu) v:=by
 cases d with
 |cell n=>
  obtain⟨a,rfl,q⟩:=gZ h
  unfold rsv at p ⊢
  dsimp only at p ⊢
  cases e:W.mu[n]? with
  |none=>rw[e]at p;cases p
  |some o=>
   rw[e]at p
   cases o with
   |none=>cases p
   |some ds=>
    dsimp only at p ⊢
    unfold cI at p
    obtain⟨xs,ex,r⟩:=ok.cont n a ds q e
    unfold DV
    exact⟨a,xs,rfl,SqL.of ex,tX ds xs p r⟩
 |ro ds=>
  obtain⟨a,xs,rfl,q,r⟩:=uW h
  have p':cI (.lst ds)=true:=p
  unfold cI at p'
  show DV K W.H (.lst ds) _
  unfold DV
  exact⟨a,xs,rfl,SqL.fz q,tX ds xs p' r⟩
 |_=>exact Nf _ _ p h
def oEq:O2:=λx y μ=>if(cI (rsv x μ)&&cI (rsv y μ))=true/\gq (rsv x μ)<100 then some (.bl (eqD (rsv x μ) (rsv y μ)),μ)else none
def oNe:O2:=λx y μ=>if(cI (rsv x μ)&&cI (rsv y μ))=true/\gq (rsv x μ)<100 then some (.bl (!eqD (rsv x μ) (rsv y μ)),μ)else none
def rEqD(K:PySem.W.Frag):R2:=λv u H Q=>∃x y,DV K H x v/\DV K H y u/\gq x<100/\Q (.bl (eqD x y)) H
def rNeD(K:PySem.W.Frag):R2:=λv u H Q=>∃x y,DV K H x v/\DV K H y u/\gq x<100/\Q (.bl (!eqD x y)) H
section
variable {X:Cx} {tb:List Addr} {k:Nat}
theorem Oz(hr:gW k X.A):OpR X (compareOp .Eq) (rEqD X.K):=by
 intro pins s σ H v u vv uu Q I rv ru h
 obtain⟨x,y,hx,hy,hd,q⟩:=h
 have hun:=hr.un
 exact Py I x y v u vv uu X.A hx hy rv ru (by omega) X.prog X.w X.xe _ ⟨.bl _,H,I,rfl,q⟩
theorem Qv(hr:gW k X.A):OpR X (compareOp .NotEq) (rNeD X.K):=by
 intro pins s σ H v u vv uu Q I rv ru h
 obtain⟨x,y,hx,hy,hd,q⟩:=h
 have hun:=hr.un
 exact Om I x y v u vv uu X.A hx hy rv ru (by omega) X.prog X.w X.xe _ ⟨.bl _,H,I,rfl,q⟩
theorem jD(hr:gW k X.A):OpD X tb (compareOp .Eq) oEq:=⟨_,Oz hr,λW x y v u d μ' Q ok dx dy ho h=>by
 unfold oEq at ho
 split at ho
 .rename_i hc
  cases ho
  rw[Zo]at hc
  exact⟨_,_,xg ok dx hc.1.1,xg ok dy hc.1.2,hc.2,put ok h eO⟩
 .cases ho⟩
theorem nR(hr:gW k X.A):OpD X tb (compareOp .NotEq) oNe:=⟨_,Qv hr,λW x y v u d μ' Q ok dx dy ho h=>by
 unfold oNe at ho
 split at ho
 .rename_i hc
  cases ho
  rw[Zo]at hc
  exact⟨_,_,xg ok dx hc.1.1,xg ok dy hc.1.2,hc.2,put ok h eO⟩
 .cases ho⟩
end
end L3
namespace L2
open PySem PySem.Spec PyProof.Rows
section
variable {prog:Program} {w:World} {A:Around} {E:Value->Shared->Prop} {s:Shared}
theorem oX{it l:Addr}{i:Nat}{items}{x:Value}{Q:Value->Shared->Prop}(hit:s.heap.IsTupleIter it l i)(hl:s.heap.IsTuple l items)(hx:items[i]? =some x)
  (hQ:∀h',h'.IsTupleIter it l (i+1)->Heap.SameBut it s.heap h'->Q x { s with heap:=h'}):wpAny (model prog w) A (Builtin.SmallTypes.nextOf (.ref it)) Q E s:=by
 obtain⟨o,ho,hc,hd⟩:=id hit
 obtain⟨ol,hol,_,nl,hdl⟩:=hl
 unfold Builtin.SmallTypes.nextOf
 refine wpAny_bind (wpAny_callSpecial?_slot (name:=Str.ofString "__next__") hit.typeIs F.slot_tuple_iterator_next
  (wpAny_call_entry F.slot_tuple_iterator_next hit.typeIs F.entry_tuple_iterator_next ?_ (F.args_tuple_iterator_next_1 _)))
 show wpAny _ _ (field (.ref it) 0 >>= _) _ _ s
 refine wpAny_bind (wpAny_field ho hd (x:=.ref l) rfl ?_)
 show wpAny _ _ (if(Value.ref l==Value.none)=true then _ else _) _ _ s
 rw[if_neg (show¬((Value.ref l==Value.none)=true)from Zr)]
 show wpAny _ _ (field (.ref it) 1 >>= _) _ _ s
 refine wpAny_bind (wpAny_field ho hd (x:=.int i 0) rfl ?_)
 show wpAny _ _ (seqItems? (.ref l) >>= _) _ _ s
 refine wpAny_bind (wpAny_seqItems hol hdl ?_)
 simp only[Int.toNat_natCast,hx]
 refine wpAny_bind (wpAny_setField ho hd (by simp) (wpAny_pure ⟨x,rfl,wpAny_pure (hQ _ ?_ (Heap.SameBut.update ..))⟩))
 exact⟨_,Heap.get?_update_self _ ho (Obj.isFreed_of_fields (Obj.data_mapFields hd _)),(Obj.cls_mapFields ..).trans hc,by
  rw[Obj.data_mapFields hd];simp[rawInt]⟩
theorem qx{it l:Addr}{i:Nat}{items}{Q:Value->Shared->Prop}(hh:A.handled=none)(hit:s.heap.IsTupleIter it l i)(hl:s.heap.IsTuple l items)(hx:items[i]? =none)
  (hE:∀h' e,Heap.ExtBut it s.heap h'->(∃o,h'.get? e=some o/\o.cls= .type "StopIteration")->E (.ref e) { s with heap:=h'}):wpAny (model prog w) A (Builtin.SmallTypes.nextOf (.ref it)) Q E s:=by
 obtain⟨o,ho,hc,hd⟩:=id hit
 obtain⟨ol,hol,_,nl,hdl⟩:=hl
 unfold Builtin.SmallTypes.nextOf
 refine wpAny_bind (wpAny_callSpecial?_slot (name:=Str.ofString "__next__") hit.typeIs F.slot_tuple_iterator_next
  (wpAny_call_entry F.slot_tuple_iterator_next hit.typeIs F.entry_tuple_iterator_next ?_ (F.args_tuple_iterator_next_1 _)))
 show wpAny _ _ (field (.ref it) 0 >>= _) _ _ s
 refine wpAny_bind (wpAny_field ho hd (x:=.ref l) rfl ?_)
 show wpAny _ _ (if(Value.ref l==Value.none)=true then _ else _) _ _ s
 rw[if_neg (show¬((Value.ref l==Value.none)=true)from Zr)]
 show wpAny _ _ (field (.ref it) 1 >>= _) _ _ s
 refine wpAny_bind (wpAny_field ho hd (x:=.int i 0) rfl ?_)
 show wpAny _ _ (seqItems? (.ref l) >>= _) _ _ s
 refine wpAny_bind (wpAny_seqItems hol hdl ?_)
 simp only[Int.toNat_natCast,hx]
 refine wpAny_bind (wpAny_rule (wpAny_bind (wpAny_setField ho hd (by simp) ?_)))
 show wpAny _ _ (newExc (.type "StopIteration") [] >>= _) _ _ _
 refine wpAny_bind ?_
 simp only[newExc,newTuple]
 refine wpAny_bind (wpAny_newObj_type ?_ (by size_fits))
 refine wpAny_bind (m:=firstArgMember _ _) (wpAny_of_eq (a:=Value.none) (by first|rfl|(simp only[firstArgMember];rfl)) ?_)
 refine wpAny_newObj_type ?_ (by size_fits)
 simp only[raiseNew]
 refine wpAny_bind (wpAny_handled ?_)
 first|rw[show A.in1.handled=none from hh]|rw[hh]
 refine wpAny_bind (wpAny_pure (wpAny_throw ?_))
 exact hE _ _ (((Heap.SameBut.update ..).extBut.push _).push _) ⟨_,Zf _ rfl,rfl⟩
end
def dM(k:Bool)(h:Heap)(it l:Addr)(i:Nat):Prop:=if k=true then h.IsTupleIter it l i else h.IsListIter it l i
def iu(k:Bool)(h:Heap)(l:Addr)(xs:Array Value):Prop:=if k=true then h.IsTuple l xs else h.IsList l xs
section
variable {prog:Program} {w:World} {A:Around} {E:Value->Shared->Prop} {s:Shared} {k:Bool} {it l:Addr} {i:Nat} {xs:Array Value} {h h':Heap}
theorem dM.obj(x:dM k h it l i):∃o,h.get? it=some o/\(∀v,o.data≠ .cell v)/\(o.cls= .type "tuple_iterator"∨o.cls= .type "list_iterator"):=by
 cases k
 .obtain⟨o,e,c,d⟩:h.IsListIter it l i:=x
  exact⟨o,e,(λv z=>by rw[d]at z;cases z),.inr c⟩
 .obtain⟨o,e,c,d⟩:h.IsTupleIter it l i:=x
  exact⟨o,e,(λv z=>by rw[d]at z;cases z),.inl c⟩
theorem dM.at'(x:dM k h it l i)(hk:∀o,h.get? it=some o->h'.get? it=some o):dM k h' it l i:=by
 cases k
 .obtain⟨o,e,c,d⟩:h.IsListIter it l i:=x
  exact(⟨o,hk o e,c,d⟩:h'.IsListIter it l i)
 .obtain⟨o,e,c,d⟩:h.IsTupleIter it l i:=x
  exact(⟨o,hk o e,c,d⟩:h'.IsTupleIter it l i)
theorem iu.at'(x:iu k h l xs)(hk:∀o,h.get? l=some o->h'.get? l=some o):iu k h' l xs:=by
 cases k
 .obtain⟨o,e,c⟩:h.IsList l xs:=x
  exact(⟨o,hk o e,c⟩:h'.IsList l xs)
 .obtain⟨o,e,c⟩:h.IsTuple l xs:=x
  exact(⟨o,hk o e,c⟩:h'.IsTuple l xs)
theorem gU{x:Value}{Q:Value->Shared->Prop}(hit:dM k s.heap it l i)(hl:iu k s.heap l xs)(hx:xs[i]? =some x)
  (hQ:∀h',dM k h' it l (i+1)->Heap.SameBut it s.heap h'->Q x { s with heap:=h'}):wpAny (model prog w) A (Builtin.SmallTypes.nextOf (.ref it)) Q E s:=by
 cases k
 .exact wpAny_nextOf_list_item hit hl hx hQ
 .exact oX hit hl hx hQ
theorem jY{Q:Value->Shared->Prop}(hh:A.handled=none)(hit:dM k s.heap it l i)(hl:iu k s.heap l xs)(hx:xs[i]? =none)
  (hE:∀h' e,Heap.ExtBut it s.heap h'->(∃o,h'.get? e=some o/\o.cls= .type "StopIteration")->E (.ref e) { s with heap:=h'}):wpAny (model prog w) A (Builtin.SmallTypes.nextOf (.ref it)) Q E s:=by
 cases k
 .exact wpAny_nextOf_list_end hh hit hl hx hE
 .exact qx hh hit hl hx hE
end
structure ZA(z TI TO i1 i2:Addr):Prop where
 TIz:TI≠z
 TOz:TO≠z
 i1z:i1≠z
 i2z:i2≠z
 TITO:TI≠TO
 TIi1:TI≠i1
 TIi2:TI≠i2
 TOi1:TO≠i1
 TOi2:TO≠i2
 i12:i1≠i2
section
variable {prog:Program} {w:World} {A:Around} {E:Value->Shared->Prop} {s:Shared}
theorem Ex{z TI TO i1 i2 l1 l2:Addr}{c1 c2:Bool}{k1 k2:Nat}{xs ys:Array Value}{x y a b:Value}{Q:Value->Shared->Prop}(D:ZA z TI TO i1 i2)
  (l1z:l1≠z) (l2z:l2≠z) (l2i1:l2≠i1) (l2TO:l2≠TO)
  (hz:IsZip s.heap z TI TO .none) (hTI:IsPair s.heap TI (.ref i1) (.ref i2)) (hTO:IsPair s.heap TO a b)
  (h1:dM c1 s.heap i1 l1 k1) (h2:dM c2 s.heap i2 l2 k2) (hl1:iu c1 s.heap l1 xs) (hl2:iu c2 s.heap l2 ys) (hx:xs[k1]? =some x) (hy:ys[k2]? =some y)
  (hQ:∀h',IsZip h' z TI TO (rawInt s.heap.objs.size)->IsPair h' TO x y->dM c1 h' i1 l1 (k1+1)->dM c2 h' i2 l2 (k2+1)->IsPair h' s.heap.objs.size x y->h'.objs.size=s.heap.objs.size+1->
   (∀c o,c≠z->c≠TO->c≠i1->c≠i2->s.heap.get? c=some o->h'.get? c=some o)->Q (.ref s.heap.objs.size) { s with heap:=h'}):
  wpAny (model prog w) A (Builtin.«zip.__next__» ⟨[.ref z],[]⟩) (λfin s'=>∃v,fin= .done (.ret v)/\Q v s') E s:=by
 show wpAny _ _ (field (.ref z) 2 >>= _) _ _ _
 refine wpAny_bind (wpAny_field hz rfl (x:=.bool false) rfl ?_)
 show wpAny _ _ (field (.ref z) 3 >>= _) _ _ _
 refine wpAny_bind (wpAny_field hz rfl (x:=.ref TI) rfl ?_)
 refine wpAny_bind (wpAny_seqItems hTI rfl ?_)
 show wpAny _ _ (Builtin.SmallTypes.ownedTupleIsFree (.ref z) >>= _) _ _ _
 refine wpAny_bind ?_
 unfold Builtin.SmallTypes.ownedTupleIsFree
 refine wpAny_bind (wpAny_field hz rfl (x:=.none) rfl (wpAny_pure ?_))
 simp only[if_true]
 refine wpAny_bind (wpAny_rule ?_)
 refine wpAny_bind (wpAny_field hz rfl (x:=.ref TO) rfl ?_)
 refine wpAny_bind (wpAny_setField_rec hz (by simp) λh₁ hz₁ hs₁=>?_)
 replace hz₁:IsZip h₁ z TI TO .ellipsis:=hz₁
 refine wpAny_bind ?_
 simp only[List.zipIdx_cons,List.zipIdx_nil,List.forIn_cons,List.forIn_nil]
 refine wpAny_bind (wpAny_bind (wpAny_onRaise ?_))
 show wpAny _ _ (Builtin.SmallTypes.nextOf (.ref i1) >>= _) _ _ _
 refine wpAny_bind (gU (h1.at' λo e=>hs₁.extBut _ _ D.i1z e) (hl1.at' λo e=>hs₁.extBut _ _ l1z e) hx λh₂ h1₂ hs₂=>wpAny_pure ?_)
 have hTO₂:IsPair h₂ TO a b:=hs₂.extBut _ _ D.TOi1 (hs₁.extBut _ _ D.TOz hTO)
 refine wpAny_bind (wpAny_seqItems hTO₂ rfl ?_)
 refine wpAny_bind (wpAny_updateSeq_pair hTO₂ λh₃ hTO₃ hs₃=>?_)
 replace hTO₃:IsPair h₃ TO x b:=hTO₃
 refine wpAny_bind (wpAny_letGo (wpAny_pure ?_))
 refine wpAny_bind (wpAny_bind (wpAny_onRaise ?_))
 show wpAny _ _ (Builtin.SmallTypes.nextOf (.ref i2) >>= _) _ _ _
 refine wpAny_bind (gU (h2.at' λo e=>hs₃.extBut _ _ D.TOi2.symm (hs₂.extBut _ _ D.i12.symm (hs₁.extBut _ _ D.i2z e))) (hl2.at' λo e=>hs₃.extBut _ _ l2TO (hs₂.extBut _ _ l2i1 (hs₁.extBut _ _ l2z e))) hy λh₄ h2₄ hs₄=>wpAny_pure ?_)
 have hTO₄:IsPair h₄ TO x b:=hs₄.extBut _ _ D.TOi2 hTO₃
 refine wpAny_bind (wpAny_seqItems hTO₄ rfl ?_)
 refine wpAny_bind (wpAny_updateSeq_pair hTO₄ λh₅ hTO₅ hs₅=>?_)
 replace hTO₅:IsPair h₅ TO x y:=hTO₅
 refine wpAny_bind (wpAny_letGo (wpAny_pure (wpAny_pure ?_)))
 refine wpAny_bind (wpAny_seqItems hTO₅ rfl ?_)
 refine wpAny_bind (wpAny_newTuple ?_)
 have hsz:h₅.objs.size=s.heap.objs.size:=by rw[hs₅.1,hs₄.1,hs₃.1,hs₂.1,hs₁.1]
 have hz₅:IsZip h₅ z TI TO .ellipsis:=hs₅.extBut _ _ D.TOz.symm (hs₄.extBut _ _ D.i2z.symm (hs₃.extBut _ _ D.TOz.symm (hs₂.extBut _ _ D.i1z.symm hz₁)))
 have hk₅:∀c o,c≠z->c≠TO->c≠i1->c≠i2->s.heap.get? c=some o->h₅.get? c=some o:=λc o q1 q2 q3 q4 e=>
  hs₅.extBut _ _ q2 (hs₄.extBut _ _ q4 (hs₃.extBut _ _ q2 (hs₂.extBut _ _ q3 (hs₁.extBut _ _ q1 e))))
 have h1₅:dM c1 h₅ i1 l1 (k1+1):=h1₂.at' λo e=>hs₅.extBut _ _ D.TOi1.symm (hs₄.extBut _ _ D.i12 (hs₃.extBut _ _ D.TOi1.symm e))
 have h2₅:dM c2 h₅ i2 l2 (k2+1):=h2₄.at' λo e=>hs₅.extBut _ _ D.TOi2.symm e
 have hzlt:z<h₅.objs.size:=Ze hz₅
 show wpAny _ _ (Builtin.SmallTypes.ownedTupleHandOut (.ref z) (.ref h₅.objs.size) >>= _) _ _ _
 refine wpAny_bind ?_
 unfold Builtin.SmallTypes.ownedTupleHandOut
 have hz₆:IsZip (h₅.push { cls:=.type "tuple",data:=.seq #[x,y] }) z TI TO .ellipsis:=Zb _ hz₅
 refine wpAny_bind (wpAny_setField_rec hz₆ (by simp) λh₇ hz₇ hs₇=>?_)
 replace hz₇:IsZip h₇ z TI TO (rawInt h₅.objs.size):=hz₇
 refine wpAny_setField_rec hz₇ (by simp) λh₈ hz₈ hs₈=>?_
 replace hz₈:IsZip h₈ z TI TO (rawInt h₅.objs.size):=hz₈
 have up:∀c o,c≠z->h₅.get? c=some o->h₈.get? c=some o:=λc o q1 e=>hs₈.extBut _ _ q1 (hs₇.extBut _ _ q1 (Zb _ e))
 have hT₈:IsPair h₈ h₅.objs.size x y:=hs₈.extBut _ _ (Nat.ne_of_gt hzlt) (hs₇.extBut _ _ (Nat.ne_of_gt hzlt) (Zf _ rfl))
 have hz8:h₈.objs.size=h₅.objs.size+1:=by rw[hs₈.1,hs₇.1,Heap.size_push]
 rw[hsz]at hz₈ hT₈ hz8
 refine wpAny_pure ⟨_,rfl,?_⟩
 show Q (.ref h₅.objs.size) _
 rw[hsz]
 exact hQ h₈ hz₈ (up _ _ D.TOz hTO₅) (h1₅.at' λo e=>up _ o D.i1z e) (h2₅.at' λo e=>up _ o D.i2z e) hT₈ hz8 λc o q1 q2 q3 q4 e=>up c o q1 (hk₅ c o q1 q2 q3 q4 e)
theorem Gn{z TI TO i1 i2 l1 l2:Addr}{c1 c2:Bool}{k1 k2:Nat}{xs ys:Array Value}{a b:Value}{Q:PySem.Fin->Shared->Prop}(hh:A.handled=none)(D:ZA z TI TO i1 i2)
  (l1z:l1≠z) (l2z:l2≠z) (l2i1:l2≠i1) (l2TO:l2≠TO)
  (hz:IsZip s.heap z TI TO .none) (hTI:IsPair s.heap TI (.ref i1) (.ref i2)) (hTO:IsPair s.heap TO a b)
  (h1:dM c1 s.heap i1 l1 k1) (h2:dM c2 s.heap i2 l2 k2) (hl1:iu c1 s.heap l1 xs) (hl2:iu c2 s.heap l2 ys) (hend:xs[k1]? =none∨ys[k2]? =none)
  (hE:∀h' e,(∀c o,c≠z->c≠TO->c≠i1->c≠i2->s.heap.get? c=some o->h'.get? c=some o)->(∃o,h'.get? e=some o/\o.cls= .type "StopIteration")->E (.ref e) { s with heap:=h'}):
  wpAny (model prog w) A (Builtin.«zip.__next__» ⟨[.ref z],[]⟩) Q E s:=by
 show wpAny _ _ (field (.ref z) 2 >>= _) _ _ _
 refine wpAny_bind (wpAny_field hz rfl (x:=.bool false) rfl ?_)
 show wpAny _ _ (field (.ref z) 3 >>= _) _ _ _
 refine wpAny_bind (wpAny_field hz rfl (x:=.ref TI) rfl ?_)
 refine wpAny_bind (wpAny_seqItems hTI rfl ?_)
 show wpAny _ _ (Builtin.SmallTypes.ownedTupleIsFree (.ref z) >>= _) _ _ _
 refine wpAny_bind ?_
 unfold Builtin.SmallTypes.ownedTupleIsFree
 refine wpAny_bind (wpAny_field hz rfl (x:=.none) rfl (wpAny_pure ?_))
 simp only[if_true]
 refine wpAny_bind (wpAny_rule ?_)
 refine wpAny_bind (wpAny_field hz rfl (x:=.ref TO) rfl ?_)
 refine wpAny_bind (wpAny_setField_rec hz (by simp) λh₁ hz₁ hs₁=>?_)
 replace hz₁:IsZip h₁ z TI TO .ellipsis:=hz₁
 refine wpAny_bind ?_
 simp only[List.zipIdx_cons,List.zipIdx_nil,List.forIn_cons,List.forIn_nil]
 refine wpAny_bind (wpAny_bind (wpAny_onRaise ?_))
 show wpAny _ _ (Builtin.SmallTypes.nextOf (.ref i1) >>= _) _ _ _
 cases hx:xs[k1]? with
 |none=>
  refine wpAny_bind (jY hh (h1.at' λo e=>hs₁.extBut _ _ D.i1z e) (hl1.at' λo e=>hs₁.extBut _ _ l1z e) hx λh₂ e hs₂ he=>?_)
  obtain⟨oe,hoe,hce⟩:=he
  have hz₂:IsZip h₂ z TI TO .ellipsis:=hs₂ _ _ D.i1z.symm hz₁
  have hez:e≠z:=λx=>by subst x;rw[hz₂]at hoe;cases hoe;simp at hce
  exact wpAny_setField_rec hz₂ (by simp) λh₃ _ hs₃=>hE h₃ e (λc o q1 _ q3 _ x=>hs₃.extBut _ _ q1 (hs₂ _ _ q3 (hs₁.extBut _ _ q1 x))) ⟨oe,hs₃.extBut _ _ hez hoe,hce⟩
 |some x=>
  have hy:ys[k2]? =none:=by rcases hend with h|h;rw[hx]at h;cases h;exact h
  refine wpAny_bind (gU (h1.at' λo e=>hs₁.extBut _ _ D.i1z e) (hl1.at' λo e=>hs₁.extBut _ _ l1z e) hx λh₂ h1₂ hs₂=>wpAny_pure ?_)
  have hTO₂:IsPair h₂ TO a b:=hs₂.extBut _ _ D.TOi1 (hs₁.extBut _ _ D.TOz hTO)
  refine wpAny_bind (wpAny_seqItems hTO₂ rfl ?_)
  refine wpAny_bind (wpAny_updateSeq_pair hTO₂ λh₃ hTO₃ hs₃=>?_)
  refine wpAny_bind (wpAny_letGo (wpAny_pure ?_))
  refine wpAny_bind (wpAny_bind (wpAny_onRaise ?_))
  show wpAny _ _ (Builtin.SmallTypes.nextOf (.ref i2) >>= _) _ _ _
  refine wpAny_bind (jY hh (h2.at' λo e=>hs₃.extBut _ _ D.TOi2.symm (hs₂.extBut _ _ D.i12.symm (hs₁.extBut _ _ D.i2z e))) (hl2.at' λo e=>hs₃.extBut _ _ l2TO (hs₂.extBut _ _ l2i1 (hs₁.extBut _ _ l2z e))) hy λh₄ e hs₄ he=>?_)
  obtain⟨oe,hoe,hce⟩:=he
  have hz₄:IsZip h₄ z TI TO .ellipsis:=hs₄ _ _ D.i2z.symm (hs₃.extBut _ _ D.TOz.symm (hs₂.extBut _ _ D.i1z.symm hz₁))
  have hez:e≠z:=λx=>by subst x;rw[hz₄]at hoe;cases hoe;simp at hce
  exact wpAny_setField_rec hz₄ (by simp) λh₅ _ hs₅=>hE h₅ e (λc o q1 q2 q3 q4 x=>hs₅.extBut _ _ q1 (hs₄ _ _ q4 (hs₃.extBut _ _ q2 (hs₂.extBut _ _ q3 (hs₁.extBut _ _ q1 x))))) ⟨oe,hs₅.extBut _ _ hez hoe,hce⟩
end
section
variable {prog:Program} {w:World} {A:Around} {E:Value->Shared->Prop} {s:Shared}
theorem qL{z TI TO i1 i2 l1 l2:Addr}{c1 c2:Bool}{k1 k2:Nat}{xs ys:Array Value}{x y a b:Value}{Q:Option Value->Shared->Prop}(D:ZA z TI TO i1 i2)
  (l1z:l1≠z) (l2z:l2≠z) (l2i1:l2≠i1) (l2TO:l2≠TO)
  (hz:IsZip s.heap z TI TO .none) (hTI:IsPair s.heap TI (.ref i1) (.ref i2)) (hTO:IsPair s.heap TO a b)
  (h1:dM c1 s.heap i1 l1 k1) (h2:dM c2 s.heap i2 l2 k2) (hl1:iu c1 s.heap l1 xs) (hl2:iu c2 s.heap l2 ys) (hx:xs[k1]? =some x) (hy:ys[k2]? =some y)
  (hQ:∀h',IsZip h' z TI TO (rawInt s.heap.objs.size)->IsPair h' TO x y->dM c1 h' i1 l1 (k1+1)->dM c2 h' i2 l2 (k2+1)->IsPair h' s.heap.objs.size x y->h'.objs.size=s.heap.objs.size+1->
   (∀c o,c≠z->c≠TO->c≠i1->c≠i2->s.heap.get? c=some o->h'.get? c=some o)->Q (some (.ref s.heap.objs.size)) { s with heap:=h'}):
  wpAny (model prog w) A (pyNext (.ref z)) Q E s:=by
 have hT:s.TypeIs (.ref z) "zip":=⟨_,hz,rfl⟩
 unfold pyNext
 exact wpAny_bind (wpAny_attempt (wpAny_callSpecial?_slot (name:=Str.ofString "__next__") hT F.slot_zip_next
  (wpAny_call_entry F.slot_zip_next hT F.entry_zip_next
   (Ex D l1z l2z l2i1 l2TO hz hTI hTO h1 h2 hl1 hl2 hx hy λh' a1 a2 a3 a4 a5 a6 a7=>wpAny_pure (hQ h' a1 a2 a3 a4 a5 a6 a7)) (F.args_zip_next_1 _))))
theorem rE{z TI TO i1 i2 l1 l2:Addr}{c1 c2:Bool}{k1 k2:Nat}{xs ys:Array Value}{a b:Value}{Q:Option Value->Shared->Prop}(hh:A.handled=none)(D:ZA z TI TO i1 i2)
  (l1z:l1≠z) (l2z:l2≠z) (l2i1:l2≠i1) (l2TO:l2≠TO)
  (hz:IsZip s.heap z TI TO .none) (hTI:IsPair s.heap TI (.ref i1) (.ref i2)) (hTO:IsPair s.heap TO a b)
  (h1:dM c1 s.heap i1 l1 k1) (h2:dM c2 s.heap i2 l2 k2) (hl1:iu c1 s.heap l1 xs) (hl2:iu c2 s.heap l2 ys) (hend:xs[k1]? =none∨ys[k2]? =none)
  (hQ:∀h',(∀c o,c≠z->c≠TO->c≠i1->c≠i2->s.heap.get? c=some o->h'.get? c=some o)->Q none { s with heap:=h'}):wpAny (model prog w) A (pyNext (.ref z)) Q E s:=by
 have hT:s.TypeIs (.ref z) "zip":=⟨_,hz,rfl⟩
 unfold pyNext
 refine wpAny_bind (wpAny_attempt (wpAny_callSpecial?_slot (name:=Str.ofString "__next__") hT F.slot_zip_next
  (wpAny_call_entry F.slot_zip_next hT F.entry_zip_next (Gn hh D l1z l2z l2i1 l2TO hz hTI hTO h1 h2 hl1 hl2 hend λh' e hk he=>?_) (F.args_zip_next_1 _))))
 obtain⟨o,ho,hc⟩:=he
 refine wpAny_bind (wpAny_isInstance (T:="StopIteration") (b:=true) ⟨o,ho,hc⟩ isSubtype_stop ?_)
 exact wpAny_pure (hQ _ hk)
def itTy(k:Bool):String:=if k=true then "tuple_iterator" else "list_iterator"
abbrev jc(k:Bool)(l:Addr):Obj:={ cls:=.type (itTy k),data:=.fields #[.ref l,.int 0 0] }
theorem kY{k:Bool}{l:Addr}{xs:Array Value}{Q:Value->Shared->Prop}(hl:iu k s.heap l xs)(hQ:Q (.ref s.heap.objs.size) { s with heap:=s.heap.push (jc k l) }):wpAny (model prog w) A (pyIter (.ref l)) Q E s:=by
 cases k
 .exact wpAny_pyIter_list hl hQ
 .exact wpAny_pyIter_tuple hl hQ
end
abbrev zH2(h:Heap)(c1 c2:Bool)(l1 l2:Addr):Heap:=(h.push (jc c1 l1)).push (jc c2 l2)
abbrev zH3(h:Heap)(c1 c2:Bool)(l1 l2:Addr):Heap:=(zH2 h c1 c2 l1 l2).push { cls:=.type "tuple",data:=.seq #[.ref h.objs.size,.ref (h.push (jc c1 l1)).objs.size] }
abbrev zH4(h:Heap)(c1 c2:Bool)(l1 l2:Addr):Heap:=(zH3 h c1 c2 l1 l2).push { cls:=.type "tuple",data:=.seq #[.none,.none] }
abbrev zH5(h:Heap)(c1 c2:Bool)(l1 l2:Addr):Heap:=(zH4 h c1 c2 l1 l2).push { cls:=.type "zip",data:=.fields #[.none,.bool false,.bool false,.ref (zH2 h c1 c2 l1 l2).objs.size,.ref (zH3 h c1 c2 l1 l2).objs.size] }
theorem Ih(c1 c2:Bool)(l1 l2:Addr)(xs ys:Array Value):
  Meets (Builtin.«zip.__new__» ⟨[.type "zip",.ref l1,.ref l2],[]⟩) (λ_ R s=>iu c1 s.heap l1 xs/\iu c2 s.heap l2 ys/\
   R (.ok (.ret (.ref (zH4 s.heap c1 c2 l1 l2).objs.size))) { s with heap:=zH5 s.heap c1 c2 l1 l2}):=
 .of_wp λprog w A R s h=>by
  obtain⟨hp,g,d,tk,os⟩:=s;obtain⟨hl1,hl2,h⟩:=h
  have hsub:=sub_zip
  have hL1:iu c1 (Shared.heap ⟨hp,g,d,tk,os⟩) l1 xs:=hl1
  have hL2:iu c2 (Shared.heap ⟨hp.push (jc c1 l1),g,d,tk,os⟩) l2 ys:=hl2.at' λo e=>Zb _ e
  wp_walk using kY hL1,kY hL2
  exact⟨_,rfl,h⟩
section
variable {prog:Program} {w:World} {A:Around} {E:Value->Shared->Prop} {s:Shared}
theorem dM.new(k:Bool)(h:Heap)(l:Addr):dM k (h.push (jc k l)) h.objs.size l 0:=by
 cases k
 .exact(⟨jc false l,Zf _ rfl,rfl,rfl⟩:Heap.IsListIter _ _ _ 0)
 .exact(⟨jc true l,Zf _ rfl,rfl,rfl⟩:Heap.IsTupleIter _ _ _ 0)
theorem Es{c1 c2:Bool}{l1 l2:Addr}{xs ys:Array Value}{Q:Value->Shared->Prop}(hl1:iu c1 s.heap l1 xs)(hl2:iu c2 s.heap l2 ys)
  (h:∀h',IsZip h' (s.heap.objs.size+4) (s.heap.objs.size+2) (s.heap.objs.size+3) .none->IsPair h' (s.heap.objs.size+2) (.ref s.heap.objs.size) (.ref (s.heap.objs.size+1))->
   IsPair h' (s.heap.objs.size+3) .none .none->dM c1 h' s.heap.objs.size l1 0->dM c2 h' (s.heap.objs.size+1) l2 0->h'.objs.size=s.heap.objs.size+5->
   (∀c o,s.heap.get? c=some o->h'.get? c=some o)->Q (.ref (s.heap.objs.size+4)) { s with heap:=h'}):
  wpAny (model prog w) A (call (.type "zip") [.ref l1,.ref l2]) Q E s:=by
 refine callType_new F.called_zip (by decide) (F.typeCall_zip_2 _ _) (F.newCall_zip_2 _ _) (λobj=>F.args_object_init_3 obj _ _) F.entry_zip_new
  (Ih c1 c2 l1 l2 xs ys) ⟨hl1,hl2,?_⟩
 have z1:(s.heap.push (jc c1 l1)).objs.size=s.heap.objs.size+1:=Heap.size_push ..
 have z2:(zH2 s.heap c1 c2 l1 l2).objs.size=s.heap.objs.size+2:=by rw[Heap.size_push,z1]
 have z3:(zH3 s.heap c1 c2 l1 l2).objs.size=s.heap.objs.size+3:=by rw[Heap.size_push,z2]
 have z4:(zH4 s.heap c1 c2 l1 l2).objs.size=s.heap.objs.size+4:=by rw[Heap.size_push,z3]
 have z5:(zH5 s.heap c1 c2 l1 l2).objs.size=s.heap.objs.size+5:=by rw[Heap.size_push,z4]
 have g5:(zH5 s.heap c1 c2 l1 l2).get? (zH4 s.heap c1 c2 l1 l2).objs.size=some _:=Zf _ rfl
 have g4:(zH5 s.heap c1 c2 l1 l2).get? (zH3 s.heap c1 c2 l1 l2).objs.size=some _:=Zb _ (Zf _ rfl)
 have g3:(zH5 s.heap c1 c2 l1 l2).get? (zH2 s.heap c1 c2 l1 l2).objs.size=some _:=Zb _ (Zb _ (Zf _ rfl))
 have g2:dM c2 (zH5 s.heap c1 c2 l1 l2) (s.heap.push (jc c1 l1)).objs.size l2 0:=(dM.new c2 _ l2).at' λo e=>Zb _ (Zb _ (Zb _ e))
 have g1:dM c1 (zH5 s.heap c1 c2 l1 l2) s.heap.objs.size l1 0:=(dM.new c1 _ l1).at' λo e=>Zb _ (Zb _ (Zb _ (Zb _ e)))
 show _/\_
 rw[z2,z3,z4]at g5
 rw[z1,z2]at g3
 rw[z3]at g4
 rw[z1]at g2
 rw[z4]
 exact⟨⟨_,g5,rfl⟩,h _ g5 g3 g4 g1 g2 z5 λc o x=>
  Zb _ (Zb _ (Zb _ (Zb _ (Zb _ x))))⟩
end
def SqB(c:Bool)(K:PySem.W.Frag)(H:Hp)(a:Addr)(xs:List V):Prop:=if c=true then SqT K H a xs else SqL K H a xs
section
variable {X:Cx} {pins:List (Addr×Obj)} {σ:L2.St} {H H':Hp} {s:Shared} {h':Heap}
theorem Inv.sqB{c:Bool}{a:Addr}{xs:List V}(I:Inv X pins σ H s)(h:SqB c X.K H a xs):∃its:List Value,Vals xs its/\iu c s.heap a its.toArray/\xs.length<=sizeLine:=by
 cases c
 .obtain⟨its,r,p,hz⟩:=I.list (show SqL X.K H a xs from h)
  exact⟨its,r,p.isList,hz⟩
 .obtain⟨its,r,p,hz⟩:=I.tuple (show SqT X.K H a xs from h)
  exact⟨its,r,p,hz⟩
theorem Inv.sqB_inj{c:Bool}{a:Addr}{xs ys:List V}(I:Inv X pins σ H s)(h:SqB c X.K H a xs)(h':SqB c X.K H a ys):xs=ys:=by
 cases c
 .exact I.list_inj (show SqL X.K H a xs from h) h'
 .exact I.tuple_inj (show SqT X.K H a xs from h) h'
theorem Inv.sqB_ne{c:Bool}{a b:Addr}{xs:List V}(I:Inv X pins σ H s)(h:SqB c X.K H a xs)(f:jg X pins H b):a≠b:=by
 have key:(∃o,H a=some o)∨∃o,X.K.lookup a=some o:=by
  cases c
  .rcases(show SqL X.K H a xs from h)with(h|⟨o,h⟩)|⟨o,_,_,h,_⟩
   .exact .inl ⟨_,h⟩
   .exact .inl ⟨_,h⟩
   .exact .inr ⟨_,h⟩
  .rcases(show SqT X.K H a xs from h)with(h|⟨o,h⟩)|⟨o,_,_,h,_⟩
   .exact .inl ⟨_,h⟩
   .exact .inl ⟨_,h⟩
   .exact .inr ⟨_,h⟩
 intro z
 subst z
 rcases key with⟨o,e⟩|⟨o,e⟩
 .rw[f.1]at e;cases e
 .have e':=I.ok.mod.kin a o e
  rcases f.2.2.2.1 with q|q
  .exact I.ok.noex a o e' q
  .exact absurd (Zc (Ze (I.ok.bs a o e').1) q) (Nat.lt_irrefl _)
theorem Inv.turnedL{t':Nat}{fp:List Addr}(I:Inv X pins σ H s)(k:∀b o,b∉fp->s.heap.get? b=some o->h'.get? b=some o)(hf:∀b∈fp,jg X pins H b):Inv X pins σ H { s with heap:=h',toks:=t'}:=by
 have nit:∀b u,H b=some u->b∉fp:=λb u e z=>by rw[(hf b z).1]at e;cases e
 refine I.step (g':=s.gens) (d':=s.drawn) (ch:=fp) (λb hb=>?_) (λb o _ _ hc e _=>k b o hc e) (λb o _ _ hc e _=>⟨o.slots,k b o hc e⟩) (λ_ _ _ _ n=>n)
  (λb o hc e=>⟨o,k b o hc e⟩) (λ_ _ e=>e) (λ_ _ _ e=>e) (λb ps e=>⟨#[],by rw[e];simp⟩) (λm hm=>?_) (λb u e=>?_) I.bare.again
 .obtain⟨f0,f1,f2,f3,f4,f5⟩:=hf b hb
  exact⟨f3,f1,f4,f5⟩
 .obtain⟨o,es,ep,ho,r⟩:=hm
  exact⟨o,es,ep,k _ o (λz=>(hf _ z).2.1 rfl) ho,r⟩
 .refine(I.hok b u e).stay (λc v hc q=>k c v ?_ q) (λ_ q=>q) λ_ _ q=>q
  rcases hc with z|z
  .rw[z];exact nit b u e
  .exact nit c _ z
end
def Itz(K:PySem.W.Frag)(c1 c2:Bool)(a1 a2:Addr):It:=
 ⟨λi H=>(∃xs x,SqB c1 K H a1 xs/\xs[i]? =some x)/\∃ys y,SqB c2 K H a2 ys/\ys[i]? =some y,
  λi H v H'=>∃p x y,v= .ref p/\H p=none/\H'=upd H p (.tup [x,y])/\(∀xs,SqB c1 K H a1 xs->xs[i]? =some x)/\∀ys,SqB c2 K H a2 ys->ys[i]? =some y,
  λi H=>∃xs ys,SqB c1 K H a1 xs/\SqB c2 K H a2 ys/\(xs.length<=i∨ys.length<=i)⟩
def ZSt(c1 c2:Bool)(z TI TO i1 i2 a1 a2:Addr)(i:Nat)(h:Heap):Prop:=
 IsZip h z TI TO .none/\IsPair h TI (.ref i1) (.ref i2)/\(∃a b,IsPair h TO a b)/\dM c1 h i1 a1 i/\dM c2 h i2 a2 i
theorem zQ{h:Heap}{o u:Obj}{b:Addr}(e:(h.push o).get? b=some u)(hb:b≠h.objs.size):h.get? b=some u:=by
 unfold Heap.get? at e ⊢
 have hp:(h.push o).objs[b]? =h.objs[b]? :=by
  show(h.objs.push o)[b]? =h.objs[b]?
  rw[Array.getElem?_push,if_neg hb]
 rw[hp]at e
 exact e
theorem Gw{P:Program}{w:World}{K:PySem.W.Frag}{elts:List Expr}{kk:Nat}{pos:Pos}(c1 c2:Bool)(z TI TO i1 i2 a1 a2:Addr)(D:ZA z TI TO i1 i2):
  Turn P w K (.Tuple elts kk pos) (Itz K c1 c2 a1 a2) [z,TI,TO,i1,i2] z (ZSt c1 c2 z TI TO i1 i2 a1 a2) where
 mem:=by simp
 obj:=λi h st b hb=>by
  obtain⟨hz,hTI,⟨a,b',hTO⟩,h1,h2⟩:=st
  simp only[Zi,List.not_mem_nil,or_false]at hb
  rcases hb with rfl|rfl|rfl|rfl|rfl
  .exact⟨_,hz,λv q=>by cases q⟩
  .exact⟨_,hTI,λv q=>by cases q⟩
  .exact⟨_,hTO,λv q=>by cases q⟩
  .obtain⟨o,e,d,_⟩:=h1.obj;exact⟨o,e,d⟩
  .obtain⟨o,e,d,_⟩:=h2.obj;exact⟨o,e,d⟩
 keep:=λi h h' st k=>by
  obtain⟨hz,hTI,⟨a,b',hTO⟩,h1,h2⟩:=st
  exact⟨k z (by simp) _ hz,k TI (by simp) _ hTI,⟨a,b',k TO (by simp) _ hTO⟩,h1.at' λo e=>k i1 (by simp) o e,h2.at' λo e=>k i2 (by simp) o e⟩
 item:=by
  intro X hP hw hK hc i pins s σ H E I hf st hg
  subst hP hw hK
  obtain⟨hz,hTI,⟨a,b',hTO⟩,h1,h2⟩:=st
  obtain⟨⟨xs,x,hx,ex⟩,ys,y,hy,ey⟩:=hg
  obtain⟨its1,r1,p1,z1⟩:=I.sqB hx
  obtain⟨its2,r2,p2,z2⟩:=I.sqB hy
  obtain⟨u1,eu1,ru1⟩:=r1.get ex
  obtain⟨u2,eu2,ru2⟩:=r2.get ey
  have fz:=hf z (by simp)
  have fTO:=hf TO (by simp)
  have fi1:=hf i1 (by simp)
  have ltz:z<s.heap.objs.size:=Ze hz
  have ltTI:TI<s.heap.objs.size:=Ze hTI
  have ltTO:TO<s.heap.objs.size:=Ze hTO
  have lti1:i1<s.heap.objs.size:=let⟨_,e,_⟩:=h1.obj;Ze e
  have lti2:i2<s.heap.objs.size:=let⟨_,e,_⟩:=h2.obj;Ze e
  refine qL D (I.sqB_ne hx fz) (I.sqB_ne hy fz) (I.sqB_ne hy fi1) (I.sqB_ne hy fTO) hz hTI hTO h1 h2 p1 p2 (x:=u1) (y:=u2) (by simpa using eu1) (by simpa using eu2) λh' q1 q2 q3 q4 q5 q6 q7=>⟨_,rfl,?_⟩
  refine wpAny_letOwnedTupleGo_zip q1 λh2' y1 y2=>?_
  have hpn:H s.heap.objs.size=none:=I.hok.fresh (Zg _)
  have IA:Inv X pins σ (upd H s.heap.objs.size (.tup [x,y])) { s with heap:=s.heap.push { cls:=.type "tuple",data:=.seq #[u1,u2] } }:=
   I.laid (t':=s.toks) (o:=.tup [x,y]) (λb ob q=>Zb _ q) (Zg _) ⟨by show 2<=sizeLine;decide,[u1,u2],.cons ru1 (.cons ru2 .nil),IsTup.new _ _⟩
  have hne:∀b∈[z,TI,TO,i1,i2],b≠s.heap.objs.size:=λb hb=>by
   simp only[Zi,List.not_mem_nil,or_false]at hb
   rcases hb with rfl|rfl|rfl|rfl|rfl
   .exact Zk ltz
   .exact Zk ltTI
   .exact Zk ltTO
   .exact Zk lti1
   .exact Zk lti2
  have hf':∀b∈[z,TI,TO,i1,i2],jg X pins (upd H s.heap.objs.size (.tup [x,y])) b:=λb hb=>by
   obtain⟨f0,f1⟩:=hf b hb
   exact⟨by rw[aM (hne b hb)];exact f0,f1⟩
  have IB:Inv X pins σ (upd H s.heap.objs.size (.tup [x,y])) { s with heap:=h2'}:=by
   refine Inv.turnedL (s:={ s with heap:=s.heap.push { cls:=.type "tuple",data:=.seq #[u1,u2] } }) (t':=s.toks) (fp:=[z,TI,TO,i1,i2]) IA (λb o hb e=>?_) hf'
   simp only[Zi,List.not_mem_nil,or_false,not_or]at hb
   obtain⟨b1,b2,b3,b4,b5⟩:=hb
   by_cases hs:b=s.heap.objs.size
   .subst hs
    have e':some ({ cls:=.type "tuple",data:=.seq #[u1,u2] }:Obj)=some o:=(Zf s.heap rfl).symm.trans e
    cases e'
    exact y2.extBut _ _ b1 q5
   .exact y2.extBut _ _ b1 (q7 b o b1 b3 b4 b5 (zQ e hs))
  refine⟨.ref s.heap.objs.size,_,IB,rfl,⟨_,x,y,rfl,hpn,rfl,λzs hzs=>by rw[I.sqB_inj hzs hx];exact ex,λzs hzs=>by rw[I.sqB_inj hzs hy];exact ey⟩,?_,λb hb=>(hf' b hb).1⟩
  exact⟨y1,y2.extBut _ _ D.TIz (q7 _ _ D.TIz D.TITO D.TIi1 D.TIi2 hTI),⟨_,_,y2.extBut _ _ D.TOz q2⟩,q3.at' λo e=>y2.extBut _ _ D.i1z e,q4.at' λo e=>y2.extBut _ _ D.i2z e⟩
 done:=by
  intro X hP hw hK hc i pins s σ H E I hf st hg
  subst hP hw hK
  obtain⟨hz,hTI,⟨a,b',hTO⟩,h1,h2⟩:=st
  obtain⟨xs,ys,hx,hy,hend⟩:=hg
  obtain⟨its1,r1,p1,z1⟩:=I.sqB hx
  obtain⟨its2,r2,p2,z2⟩:=I.sqB hy
  have fz:=hf z (by simp)
  have fTO:=hf TO (by simp)
  have fi1:=hf i1 (by simp)
  have l1:=r1.length
  have l2:=r2.length
  refine rE (I.ok.hd hc) D (I.sqB_ne hx fz) (I.sqB_ne hy fz) (I.sqB_ne hy fi1) (I.sqB_ne hy fTO) hz hTI hTO h1 h2 p1 p2 ?_ λh' q=>⟨rfl,I.turnedL (t':=s.toks) (fp:=[z,TI,TO,i1,i2]) (λb o hb e=>?_) hf⟩
  .rcases hend with h|h
   .exact .inl (by simp;omega)
   .exact .inr (by simp;omega)
  .simp only[Zi,List.not_mem_nil,or_false,not_or]at hb
   exact q b o hb.1 hb.2.2.1 hb.2.2.2.1 hb.2.2.2.2 e
 self:=λ_ _ _ _ _ st h=>wpAny_pyIter_zip st.1 h
def iZip(K:PySem.W.Frag)(ta:TA):TI:=λσ H R=>ta σ H λvs H1=>∃a1 a2 c1 c2,vs=[.ref a1,.ref a2]/\(∃xs,SqB c1 K H1 a1 xs)/\(∃ys,SqB c2 K H1 a2 ys)/\R (Itz K c1 c2 a1 a2) H1
section
variable {X:Cx}
theorem Qi{a b:Expr}{ta:TA}{p pos p':Pos}{elts:List Expr}{kk:Nat}(hg:Gl X "zip")(hm:X.mg "zip"=none)(ha:PA X [a,b] ta)(hs:starEach [a,b] X.env=[(false,eval a X.env),(false,eval b X.env)]:=by rfl)(hs2:starEach [b] X.env=[(false,eval b X.env)]:=by rfl):
  PI X (.Tuple elts kk p') (.Call (.Name "zip" p) [a,b] [] pos) (iZip X.K ta):=by
 intro pins s σ H R I h
 refine Call_ (jK I hg hm boot_zip (PyProof.Rows.callWith_type1 (thn (ha pos pins s σ H _ I h) λus s1 ⟨vs,H1,I1,r1,q1⟩=>?_) (by rw[hs,hs2]) (by rw[hs2];rfl)))
 obtain⟨a1,a2,c1,c2,rfl,⟨xs,hx⟩,⟨ys,hy⟩,q⟩:=q1
 obtain⟨u,v,rfl,ru,rv⟩:=vals2 r1
 cases ru
 cases rv
 obtain⟨its1,_,p1,_⟩:=I1.sqB hx
 obtain⟨its2,_,p2,_⟩:=I1.sqB hy
 refine Es p1 p2 λh' g1 g2 g3 g4 g5 g6 g7=>?_
 refine wpAny_pyIter_zip g1 ?_
 refine⟨_,[s1.heap.objs.size+4,s1.heap.objs.size+2,s1.heap.objs.size+3,s1.heap.objs.size,s1.heap.objs.size+1],_,_,H1,rfl,I1.kept (t':=s1.toks) g7,Gw c1 c2 _ _ _ _ _ a1 a2 ?_,⟨g1,g2,⟨_,_,g3⟩,g4,g5⟩,λb hb=>?_,q⟩
 .constructor<;>first|exact Zk (by omega)|exact Nat.ne_of_gt (by omega)
 .have hb':s1.heap.objs.size<=b:=by
   simp only[Zi,List.not_mem_nil,or_false]at hb
   rcases hb with q|q|q|q|q<;>rw[q]<;>first|exact Nat.le_add_right _ _|exact Zg _
  exact I1.fpOk hb' (I1.hok.fresh hb')
end
end L2
namespace L3
open PySem PySem.Spec PyProof.Rows L2
def cj:D->Mu->Option (List D)
 | .tup ds,_=>some ds
 | .lst ds,_=>some ds
 | .ro ds,_=>some ds
 | .cell n,μ=>match μ[n]? with
  |some (some ds)=>some ds
  |_=>none
 |_,_=>none
def xZ:D->Bool
 | .tup _=>true
 |_=>false
section
variable {K:PySem.W.Frag} {tb:List Addr}
theorem jo{W:Wd}{x:D}{v:V}{ds:List D}(ok:WOk K tb W)(h:Den K tb W x v)(e:cj x W.mu=some ds):∃a xs,v= .ref a/\SqB (xZ x) K W.H a xs/\bV K tb W ds xs:=by
 cases x with
 |tup es=>cases e;obtain⟨a,xs,rfl,q,r⟩:=iB h;exact⟨a,xs,rfl,SqT.fz q,r⟩
 |lst es=>cases e;obtain⟨a,xs,rfl,q,r⟩:=mL h;exact⟨a,xs,rfl,SqL.fz q,r⟩
 |ro es=>cases e;obtain⟨a,xs,rfl,q,r⟩:=uW h;exact⟨a,xs,rfl,SqL.fz q,r⟩
 |cell n=>
  obtain⟨a,rfl,q⟩:=gZ h
  have e':(match W.mu[n]? with|some (some ds)=>some ds|_=>none)=some ds:=e
  cases e2:W.mu[n]? with
  |none=>rw[e2]at e';cases e'
  |some o=>
   cases o with
   |none=>rw[e2]at e';cases e'
   |some es=>
    rw[e2]at e'
    cases e'
    obtain⟨xs,e3,r⟩:=ok.cont n a ds q e2
    exact⟨a,xs,rfl,SqL.of e3,r⟩
 |_=>cases e
theorem SqB.or{c:Bool}{H:Hp}{a:Addr}{xs:List V}(h:SqB c K H a xs):SqL K H a xs∨SqT K H a xs:=by
 cases c
 .exact .inl h
 .exact .inr h
end
theorem Kv{K:PySem.W.Frag}{tb:List Addr}{W:Wd}{ds:List D}{xs:List V}{i:Int}{d:D}(r:bV K tb W ds xs)(h:atI ds i=some d):∃v,atI xs i=some v/\Den K tb W d v:=by
 unfold atI at h ⊢
 rw[<-az.length r]
 cases e:ixN ds.length i with
 |none=>rw[e]at h;cases h
 |some j=>
  rw[e]at h
  exact az.get r h
def oIx:O2:=λx y μ=>match y with
 | .int i=>(cj x μ).bind λds=>(atI ds i).map λd=>(d,μ)
 |_=>none
def dN:O1':=λx μ=>match x with
 | .str y=>if y.length<=sizeLine then some (.int y.length,μ)else none
 |_=>(cj x μ).map λds=>(.int ds.length,μ)
def oF:O1':=λx μ=>match x with
 | .int i=>some (.int (if i<0 then -i else i),μ)
 |_=>none
def ie:O1':=λx μ=>match x with
 | .int i=>some (.int (-i),μ)
 |_=>none
def mG(op:O2):ON:=λxs μ=>match xs with
 | [x,y]=>op x y μ
 |_=>none
theorem Bw{op:O2}{xs:List D}{μ:Mu}{r:D×Mu}(h:mG op xs μ=some r):∃x y,xs=[x,y]/\op x y μ=some r:=by
 unfold mG at h
 split at h
 .exact⟨_,_,rfl,h⟩
 .cases h
def mK:O2:=λx y μ=>match x,y with
 | .int i,.int j=>some (.int (if j<i then j else i),μ)
 |_,_=>none
def gH:ON:=λxs μ=>match xs with
 | [x]=>(cj x μ).map λds=>(.tup ds,μ)
 |_=>none
def HB(T:String):D->Option Bool
 | .non=>some false
 | .bl _=>some (T=="bool"||T=="int")
 | .int _=>some (T=="int")
 | .str _=>some (T=="str")
 | .tup _=>some (T=="tuple")
 | .lst _=>some (T=="list")
 | .ro _=>some (T=="list")
 | .dic _=>some (T=="dict")
 | .cell _=>none
def je(T:String):O1':=λx μ=>match x with
 | .cell n=>match μ[n]? with
  |some (some _)=>some (.bl (T=="list"),μ)
  |_=>none
 |_=>(HB T x).map λk=>(.bl k,μ)
section
variable {X:Cx} {tb:List Addr} {a b e:Expr} {fa fb f:EF} {fs:AF} {p pos:Pos}
theorem fH(ha:PD X tb a fa)(hb:PD X tb b fb)(hs:Dk b:=by intro _ _;rfl):PD X tb (.Subscript a b pos) (M2 fa fb oIx):=
 Ai (λta tb' ha hb=>Tr Og ha hb hs) (λW x y v u d μ' Q ok dx dy ho h=>by
  cases y with
  |int i=>
   obtain⟨ds,e1,e2⟩:=Za.mp (show((cj x W.mu).bind λds=>(atI ds i).map λd=>(d,W.mu))=some (d,μ')from ho)
   obtain⟨d0,e3,e4⟩:=Zp.mp e2
   cases e4
   rw[bf dy]
   obtain⟨a,xs,rfl,q,r⟩:=jo ok dx e1
   obtain⟨v,ev,dv⟩:=Kv r e3
   rcases SqB.or q with q|q
   .exact .inl ⟨a,xs,i,v,rfl,rfl,q,ev,put ok h dv⟩
   .exact .inr (.inl ⟨a,xs,i,v,rfl,rfl,q,ev,put ok h dv⟩)
  |_=>cases ho) ha hb
theorem iU(ha:PD X tb a fa):PD X tb (.UnaryOp .USub a pos) (M1 fa ie):=
 Nx (λta ha=>Su Nq ha) (λW x v d μ' Q ok dx ho h=>by
  cases x with
  |int i=>cases ho;rw[bf dx];exact⟨i,rfl,put ok h dW⟩
  |_=>cases ho) ha
def bz(op:O1'):ON:=λxs μ=>match xs with
 | [x]=>op x μ
 |_=>none
theorem uo{op:O1'}{xs:List D}{μ:Mu}{r:D×Mu}(h:bz op xs μ=some r):∃x,xs=[x]/\op x μ=some r:=by
 unfold bz at h
 split at h
 .exact⟨_,rfl,h⟩
 .cases h
theorem zf{xs:List D}{μ:Mu}{r:D×Mu}(h:gH xs μ=some r):∃x,xs=[x]/\gH [x] μ=some r:=by
 unfold gH at h
 split at h
 .exact⟨_,rfl,h⟩
 .cases h
theorem gf(hm:X.mg "len"=none)(ha:PAD X tb [a] fs)(hg:Gl X "len":=by rfl)(he:starEach [a] X.env=(false,eval a X.env)::starEach [] X.env:=by rfl):PD X tb (.Call (.Name "len" p) [a] [] pos) (MC fs (bz dN)):=
 Eh (λta ha=>ph (wW.or xm) hg hm PySem.boot_len ha (by decide) (by decide) he (by rfl)) (λW xs vs d μ' Q ok r ho h=>by
  obtain⟨x,rfl,ho⟩:=uo ho
  obtain⟨v,rfl,dv⟩:=az.one r
  have gen:∀ds,cj x W.mu=some ds->some (D.int ds.length,W.mu)=some (d,μ')->((∃p ys,[v]=[V.ref p]/\(SqL X.K W.H p ys∨SqT X.K W.H p ys)/\Q (.int ys.length) W.H)∨∃z,[v]=[V.str z]/\z.length<=sizeLine/\Q (.int z.length) W.H):=λds e1 e2=>by
   cases e2
   obtain⟨a,xs,e,q,r⟩:=jo ok dv e1
   exact Or.inl ⟨a,xs,by rw[e],SqB.or q,by rw[<-az.length r];exact put ok h dW⟩
  cases x with
  |str y=>
   have ho':(if y.length<=sizeLine then some (D.int y.length,W.mu)else none)=some (d,μ'):=ho
   split at ho'
   .rename_i hz
    cases ho'
    rw[jX dv]
    exact .inr ⟨y,rfl,hz,put ok h dW⟩
   .cases ho'
  |tup ds=>exact gen ds rfl ho
  |lst ds=>exact gen ds rfl ho
  |ro ds=>exact gen ds rfl ho
  |cell n=>
   obtain⟨ds,e1,e2⟩:=Zp.mp (show(cj (.cell n) W.mu).map (λds=>(D.int ds.length,W.mu))=some (d,μ')from ho)
   exact gen ds e1 (congrArg some e2)
  |_=>cases ho) ha
theorem ug(hm:X.mg "abs"=none)(ha:PAD X tb [a] fs)(hg:Gl X "abs":=by rfl)(he:starEach [a] X.env=(false,eval a X.env)::starEach [] X.env:=by rfl):PD X tb (.Call (.Name "abs" p) [a] [] pos) (MC fs (bz oF)):=
 Eh (λta ha=>ph Gf hg hm PyProof.Rows.boot_abs ha (by decide) (by decide) he (by rfl)) (λW xs vs d μ' Q ok r ho h=>by
  obtain⟨x,rfl,ho⟩:=uo ho
  obtain⟨v,rfl,dv⟩:=az.one r
  cases x with
  |int i=>cases ho;rw[bf dv];exact⟨i,rfl,put ok h dW⟩
  |_=>cases ho) ha
theorem xY(hc:X.calm=true)(hm:X.mg "min"=none)(ha:PAD X tb [a,b] fs)(hg:Gl X "min":=by rfl)(he:starEach [a,b] X.env=(false,eval a X.env)::starEach [b] X.env:=by rfl)(hpl:(backTo pos (starEach [b] X.env)).any (·.1)=false:=by rfl):PD X tb (.Call (.Name "min" p) [a,b] [] pos) (MC fs (mG mK)):=
 Eh (λta ha=>ph (Ek hc) hg hm PyProof.Rows.boot_min ha (by decide) (by decide) he hpl) (λW xs vs d μ' Q ok r ho h=>by
  obtain⟨x,y,rfl,ho⟩:=Bw ho
  obtain⟨u,v,rfl,du,dv⟩:=az.two r
  cases x with
  |int i=>
   cases y with
   |int j=>
    cases ho
    rw[bf du,bf dv]
    exact⟨i,j,rfl,put ok h dW⟩
   |_=>cases ho
  |_=>cases ho) ha
theorem pG(hm:X.mg "tuple"=none)(ha:PAD X tb [a] fs)(hg:Gl X "tuple":=by rfl)(he:starEach [a] X.env=(false,eval a X.env)::starEach [] X.env:=by rfl):PD X tb (.Call (.Name "tuple" p) [a] [] pos) (MC fs gH):=
 Eh (λta ha=>DN uR hg hm PyProof.Rows.boot_tuple ha (by decide) (by decide) he (by rfl)) (λW xs vs d μ' Q ok r ho h=>by
  obtain⟨x,rfl,ho⟩:=zf ho
  obtain⟨v,rfl,dv⟩:=az.one r
  obtain⟨ds,e1,e2⟩:=Zp.mp (show(cj x W.mu).map (λds=>(D.tup ds,W.mu))=some (d,μ')from ho)
  cases e2
  by_cases ht:∃es,x= .tup es
  .obtain⟨es,rfl⟩:=ht
   cases e1
   obtain⟨a,xs,rfl,q,r⟩:=iB dv
   exact⟨a,xs,rfl,.inr ⟨SqT.fz q,put ok h dv⟩⟩
  .obtain⟨a,xs,rfl,q,r⟩:=jo ok dv e1
   have hf:xZ x=false:=by cases x<;>first|rfl|exact absurd ⟨_,rfl⟩ ht
   rw[hf]at q
   exact⟨a,xs,rfl,.inl ⟨q,λl hl=>ni ok h r hl⟩⟩) ha
def lOf(fs:AF):LF:=λδ μ=>(fs δ μ).bind λr=>match r.1 with
 | [x]=>(cj x r.2).map λds=>(ds,r.2)
 |_=>none
theorem iT{T:Str}{tn:String}{pt:Pos}(hm:X.mg "isinstance"=none)(hmT:X.mg T=none)(hT:bootBuiltins T=some (.type tn))(hmem:tn∈Ld)(ha:PD X tb a fa)(hg:Gl X "isinstance":=by rfl)(hgT:Gl X T:=by rfl)(hn:T≠"__name__":=by decide)(hdb:(T==("__debug__":Str))=false:=by decide)
  (hs:starEach [a,.Name T pt] X.env=(false,eval a X.env)::starEach [.Name T pt] X.env:=by rfl):PD X tb (.Call (.Name "isinstance" p) [a,.Name T pt] [] pos) (M1 fa (je tn)):=
 fY (ph Ht hg hm PyProof.Rows.boot_isinstance (rW ha (rW (Kq hgT hmT hT (v:=.ty tn) rfl hn hdb) Bt) hs) (by decide) (by decide) hs (by rfl)) λσ H Q zq2=>by
  obtain⟨W,δ,d,μ',e,ok,hd,hf,h⟩:=zq2
  unfold M1 at hf
  obtain⟨⟨x,μ1⟩,e1,e2⟩:=Za.mp hf
  refine⟨W,δ,x,μ1,e,ok,hd,e1,λv W1 ok1 l1 m1 d1=>?_⟩
  have fin:∀k,Pb X.K tn v W1.H k->some (D.bl k,μ1)=some (d,μ')->∃x T k,[v,V.ty tn]=[x,.ty T]/\T∈Ld/\Pb X.K T x W1.H k/\Q (.bl k) W1.H:=λk hk e=>by
   cases e
   exact⟨v,tn,k,rfl,hmem,hk,h _ W1 ok1 l1 m1 eO⟩
  cases x with
  |non=>rw[kj d1]at fin ⊢;exact fin _ rfl e2
  |bl b=>rw[ir d1]at fin ⊢;exact fin _ rfl e2
  |int b=>rw[bf d1]at fin ⊢;exact fin _ rfl e2
  |str b=>rw[jX d1]at fin ⊢;exact fin _ rfl e2
  |tup ds=>obtain⟨a,xs,rfl,q,r⟩:=iB d1;exact fin _ (.inr (.inl ⟨rfl,xs,SqT.fz q⟩)) e2
  |lst ds=>obtain⟨a,xs,rfl,q,r⟩:=mL d1;exact fin _ (.inl ⟨rfl,xs,SqL.fz q⟩) e2
  |ro ds=>obtain⟨a,xs,rfl,q,r⟩:=uW d1;exact fin _ (.inl ⟨rfl,xs,SqL.fz q⟩) e2
  |dic ds=>obtain⟨a,xs,rfl,q,r⟩:=Ja d1;exact fin _ (.inr (.inr ⟨rfl,xs,(eQ q).1⟩)) e2
  |cell n=>
   have e2':(match μ1[n]? with|some (some _)=>some (D.bl (tn=="list"),μ1)|_=>none)=some (d,μ'):=e2
   obtain⟨a,rfl,q⟩:=gZ d1
   cases e4:μ1[n]? with
   |none=>rw[e4]at e2';cases e2'
   |some o=>
    cases o with
    |none=>rw[e4]at e2';cases e2'
    |some ds=>
     rw[e4]at e2'
     obtain⟨xs,ex,_⟩:=ok1.cont n a ds q (by rw[m1];exact e4)
     exact fin _ (.inl ⟨rfl,xs,SqL.of ex⟩) e2'
def ju(μ:Mu)(n:Nat):Bool:=match μ[n]? with
 |some (some _)=>true
 |_=>false
theorem zJ{μ:Mu}{n:Nat}(h:ju μ n=true):∃ds,μ[n]? =some (some ds):=by
 unfold ju at h
 split at h
 .exact⟨_,by assumption⟩
 .cases h
def jN(fo:EF)(fs:AF):EF:=λδ μ=>(fo δ μ).bind λr=>(fs δ r.2).bind λq=>match r.1,q.1 with
 | .cell n,[y]=>match q.2[n]? with
  |some (some ds)=>if ju r.2 n=true/\ds.length<sizeLine then some (.non,q.2.set n (some (ds++[y])))else none
  |_=>none
 |_,_=>none
theorem jq{o:Expr}{fo:EF}{apos cpos:Pos}(ho:PD X tb o fo)(ha:PAD X tb [e] fs)
  (hbase:attributeBase o "append" X.env (eval o X.env)=eval o X.env:=by rfl)
  (hfew:((backTo cpos (starEach [e] X.env)).all (λx=>!x.1)&&(backToKw cpos (keywordEach [] X.env)).all (λx=>x.1.isSome)
   &&decide ([e].length+([]:List Keyword).length+(if([]:List Keyword).isEmpty then 0 else 1)<30))=true:=by rfl)
  (hline:(apos.endLine==cpos.line)=true:=by rfl) (hs:starEach [e] X.env=(false,eval e X.env)::starEach [] X.env:=by rfl):PD X tb (.Call (.Attribute o "append" apos) [e] [] cpos) (jN fo fs):=
 fY (Nj PySem.F.plainAttrs_list PySem.F.slot_list_append PySem.F.type_list_append Ec ho ha hbase hfew hline hs (by rfl)) λσ H Q zq3=>by
  obtain⟨W,δ,d,μ',e,ok,hd,hf,h⟩:=zq3
  unfold jN at hf
  obtain⟨⟨x,μ1⟩,e1,hf⟩:=Za.mp hf
  obtain⟨⟨ys,μ2⟩,e2,hf⟩:=Za.mp hf
  refine⟨W,δ,x,μ1,e,ok,hd,e1,λv W1 ok1 l1 m1 d1=>?_⟩
  match x,ys,e1,e2,hf,d1 with
  | .cell n,[y],e1,e2,hf,d1=>
   have hf':(match μ2[n]? with|some (some ds)=>if ju μ1 n=true/\ds.length<sizeLine then some (D.non,μ2.set n (some (ds++[y])))else none|_=>none)=some (d,μ'):=hf
   cases e4:μ2[n]? with
   |none=>rw[e4]at hf';cases hf'
   |some oo=>
    cases oo with
    |none=>rw[e4]at hf';cases hf'
    |some ds=>
     rw[e4]at hf'
     have hf'':(if ju μ1 n=true/\ds.length<sizeLine then some (D.non,μ2.set n (some (ds++[y])))else none)=some (d,μ'):=hf'
     split at hf''
     .rename_i hz
      cases hf''
      obtain⟨a,rfl,q⟩:=gZ d1
      obtain⟨ds0,e5⟩:=zJ hz.1
      obtain⟨xs0,ex0,_⟩:=ok1.cont n a ds0 q (by rw[m1];exact e5)
      refine⟨.inl ⟨rfl,xs0,SqL.of ex0⟩,W1,δ,[y],μ2,rfl,ok1,hd.mono' l1,(by rw[m1];exact e2),λvs W2 ok2 l2 m2 d2=>?_⟩
      obtain⟨u,rfl,du⟩:=az.one d2
      have q2:=l2.ad _ _ q
      have e6:W2.mu[n]? =some (some ds):=by rw[m2];exact e4
      obtain⟨xs,ex,r⟩:=ok2.cont n a ds q2 e6
      refine⟨a,xs,u,rfl,rfl,ex,by rw[<-az.length r];exact hz.2,?_⟩
      obtain⟨ok3,l3⟩:=ok2.write q2 e6 (az.append r (az.cons du az.nil))
      exact h .non _ ok3 ((l1.trans l2).trans l3) (by rw[<-m2]) sy
     .cases hf''
def Di(fo:EF):EF:=λδ μ=>(fo δ μ).bind λr=>match r.1 with
 | .cell n=>match r.2[n]? with
  |some (some (y::ds))=>some (y,r.2.set n (some ds))
  |_=>none
 |_=>none
theorem JL{o:Expr}{fo:EF}{apos cpos p0:Pos}{j}(ho:PD X tb o fo)
  (hbase:attributeBase o "pop" X.env (eval o X.env)=eval o X.env:=by rfl)
  (hfew:((backTo cpos (starEach [.Constant (.int 0) j p0] X.env)).all (λx=>!x.1)&&(backToKw cpos (keywordEach [] X.env)).all (λx=>x.1.isSome)
   &&decide ([Expr.Constant (.int 0) j p0].length+([]:List Keyword).length+(if([]:List Keyword).isEmpty then 0 else 1)<30))=true:=by rfl)
  (hline:(apos.endLine==cpos.line)=true:=by rfl):PD X tb (.Call (.Attribute o "pop" apos) [.Constant (.int 0) j p0] [] cpos) (Di fo):=
 fY (Nj PySem.F.plainAttrs_list PySem.F.slot_list_pop PySem.F.type_list_pop Ie ho (rW Ge Bt) hbase hfew hline (by rfl) (by rfl)) λσ H Q zq4=>by
  obtain⟨W,δ,d,μ',e,ok,hd,hf,h⟩:=zq4
  unfold Di at hf
  obtain⟨⟨x,μ1⟩,e1,hf⟩:=Za.mp hf
  refine⟨W,δ,x,μ1,e,ok,hd,e1,λv W1 ok1 l1 m1 d1=>?_⟩
  cases x with
  |cell n=>
   have hf':(match μ1[n]? with|some (some (y::ds))=>some (y,μ1.set n (some ds))|_=>none)=some (d,μ'):=hf
   cases e4:μ1[n]? with
   |none=>rw[e4]at hf';cases hf'
   |some oo=>
    match oo,e4 with
    |none,e4=>rw[e4]at hf';cases hf'
    |some [],e4=>rw[e4]at hf';cases hf'
    |some (y::ds),e4=>
     rw[e4]at hf'
     have hf'':some (y,μ1.set n (some ds))=some (d,μ'):=hf'
     cases hf''
     obtain⟨a,rfl,q⟩:=gZ d1
     have e6:W1.mu[n]? =some (some (d::ds)):=by rw[m1];exact e4
     obtain⟨xs,ex,r⟩:=ok1.cont n a _ q e6
     have r':az _ _ _ _ _:=r
     unfold az at r'
     obtain⟨u,us,rfl,du,r2⟩:=r'
     refine⟨.inl ⟨rfl,_,SqL.of ex⟩,a,u::us,0,0,u,rfl,rfl,ex,by decide,by decide,?_,rfl,?_⟩
     .simp[seqIndex?]
     .obtain⟨ok3,l3⟩:=ok1.write q e6 r2
      exact h u _ ok3 (l1.trans l3) (by rw[<-m1]) (Den.mono' du l3)
  |_=>cases hf
theorem pdv(i:Nat){x:Str}(hN:X.N[i]? =some x:=by rfl)(hv:Vis X.env.scope x:=by first|exact Or.inl rfl|exact Or.inr (Or.inl rfl)|exact Or.inr (Or.inr rfl))(hd:(x==("__debug__":Str))=false:=by decide)(hcd:(x==("__classdict__":Str))=false:=by decide):PD X tb (.Name x pos) (ak i):=Nz hN hv hd hcd
end
end L3
namespace L2
open PySem PySem.Spec PyProof.Rows
section
variable {X:Cx} {e:Expr} {es:List Expr} {te:TE} {t:TA}
def RV(K:PySem.W.Frag)(te:TE)(t:TA):TA:=λσ H Q=>te σ H λx H1=>∃a c xs,x= .ref a/\SqB c K H1 a xs/\t σ H1 λvs H2=>Q (xs++vs) H2
theorem Ls{p:Pos}(ha:PE X e te)(hr:PA X es t)(hs:starEach (.Starred e p::es) X.env=(true,eval e X.env)::starEach es X.env:=by rfl):PA X (.Starred e p::es) (RV X.K te t):=by
 intro pos pins s σ H Q I h
 refine PySem.W.items_star (thn (ha pins s σ H _ I h) λu s1 zq1=>?_) hs
 obtain⟨x,H1,I1,r1,q1⟩:=zq1
 obtain⟨a,c,xs,rfl,hq,q⟩:=q1
 cases r1
 obtain⟨its,rv,p1,hz⟩:=I1.sqB hq
 obtain⟨T,hT,o,n,ho,hc,hd⟩:∃T,(T="list"∨T="tuple")/\∃o n,s1.heap.get? a=some o/\o.cls= .type T/\o.data= .seq its.toArray n:=by
  cases c
  .obtain⟨o,ho,hc,n,hd⟩:s1.heap.IsList a its.toArray:=p1
   exact⟨"list",.inl rfl,o,n,ho,hc,hd⟩
  .obtain⟨o,ho,hc,n,hd⟩:s1.heap.IsTuple a its.toArray:=p1
   exact⟨"tuple",.inr rfl,o,n,ho,hc,hd⟩
 have hlen:=rv.length
 unfold PySem.W.StarOf notIterableAtAll
 have hty:s1.TypeIs (.ref a) T:=⟨o,ho,hc⟩
 have fin:wpAny (model X.prog X.w) X.A (collect (.ref a)) (λhere s₂=>wpAny (model X.prog X.w) X.A (spliced (backTo pos (starEach es X.env))) (λvs s₃=>AP X pins σ Q (here++vs) s₃) X.xe s₂) X.xe s1:=by
  refine wpAny_collect_seq a hT ho hc hd (λh' kp=>?_) (by simp only[Zd];omega)
  have I2:Inv X pins σ H1 { s1 with heap:=h'}:=I1.kept (t':=s1.toks) kp
  refine thn (hr pos pins { s1 with heap:=h'} σ H1 _ I2 q) λus s3 zq2=>?_
  obtain⟨vs,H3,I3,r3,q3⟩:=zq2
  exact⟨xs++vs,H3,I3,rv.append r3,q3⟩
 rcases hT with rfl|rfl
 .exact wpAny_bind (wpAny_specialOf hty PySem.F.slot_list_iter.lookup (wpAny_pure ⟨rfl,fin⟩))
 .exact wpAny_bind (wpAny_specialOf hty PySem.F.slot_tuple_iter.lookup (wpAny_pure ⟨rfl,fin⟩))
end
end L2
namespace L3
open PySem PySem.Spec PyProof.Rows L2
section
variable {X:Cx} {tb:List Addr} {a b e:Expr} {es:List Expr} {fa fb f:EF} {fs:AF} {p pos:Pos}
def jU(f:EF)(fs:AF):AF:=λδ μ=>(f δ μ).bind λr=>(cj r.1 r.2).bind λxs=>(fs δ r.2).bind λq=>match r.1 with
 | .cell _=>none
 |_=>some (xs++q.1,q.2)
theorem ur(ha:PD X tb e f)(hr:PAD X tb es fs)(hs:starEach (.Starred e p::es) X.env=(true,eval e X.env)::starEach es X.env:=by rfl):PAD X tb (.Starred e p::es) (jU f fs):=
 Gd (Ls ha hr hs) λσ H Q zq3=>by
  obtain⟨W,δ,ds,μ',e,ok,hd,hf,h⟩:=zq3
  unfold jU at hf
  obtain⟨⟨x,μ1⟩,e1,hf⟩:=Za.mp hf
  obtain⟨xs,e2,hf⟩:=Za.mp hf
  obtain⟨⟨ys,μ2⟩,e3,hf⟩:=Za.mp hf
  have hf':some (xs++ys,μ2)=some (ds,μ'):=by cases x<;>first|exact hf|cases hf
  cases hf'
  refine⟨W,δ,x,μ1,e,ok,hd,e1,λv W1 ok1 l1 m1 d1=>?_⟩
  obtain⟨a,vs,rfl,q,r⟩:=jo ok1 d1 (by rw[m1];exact e2)
  refine⟨a,_,vs,rfl,q,W1,δ,ys,_,rfl,ok1,hd.mono' l1,(by rw[m1];exact e3),λus W2 ok2 l2 m2 d2=>?_⟩
  exact h (vs++us) W2 ok2 (l1.trans l2) m2 (az.append (bV.mono' r l2) d2)
def gV:List D->List D->List D
 |x::xs,y::ys=>.tup [x,y]::gV xs ys
 |_,_=>[]
theorem yj:∀{xs ys:List D}{i:Nat}{d:D},(gV xs ys)[i]? =some d->∃x y,d= .tup [x,y]/\xs[i]? =some x/\ys[i]? =some y
 | [],ys,i,d,h=>by simp[gV]at h
 |x::xs,[],i,d,h=>by simp[gV]at h
 |x::xs,y::ys,0,d,h=>by
  have h':some (D.tup [x,y])=some d:=by simpa[gV]using h
  cases h'
  exact⟨x,y,rfl,rfl,rfl⟩
 |x::xs,y::ys,i+1,d,h=>by
  obtain⟨u,v,e,e1,e2⟩:=yj (xs:=xs) (ys:=ys) (i:=i) (by simpa[gV]using h)
  exact⟨u,v,e,by simpa using e1,by simpa using e2⟩
theorem yS:∀(xs ys:List D),(gV xs ys).length=min xs.length ys.length
 | [],ys=>by simp[gV]
 |x::xs,[]=>by simp[gV]
 |x::xs,y::ys=>by simp[gV,yS xs ys]
def bO:D->Option (List D)
 | .tup ds=>some ds
 | .lst ds=>some ds
 | .ro ds=>some ds
 |_=>none
theorem Bc{K:PySem.W.Frag}{W:Wd}{x:D}{v:V}{ds:List D}(h:Den K tb W x v)(e:bO x=some ds):∃a xs,v= .ref a/\SqB (xZ x) K (W.fz tb) a xs/\bV K tb W ds xs:=by
 cases x with
 |tup es=>cases e;obtain⟨a,xs,rfl,q,r⟩:=iB h;exact⟨a,xs,rfl,q,r⟩
 |lst es=>cases e;obtain⟨a,xs,rfl,q,r⟩:=mL h;exact⟨a,xs,rfl,q,r⟩
 |ro es=>cases e;obtain⟨a,xs,rfl,q,r⟩:=uW h;exact⟨a,xs,rfl,q,r⟩
 |_=>cases e
theorem jb{K:PySem.W.Frag}{c:Bool}{W0 W:Wd}{a:Addr}{xs:List V}(h:SqB c K (W0.fz tb) a xs)(l:Le tb W0 W):SqB c K W.H a xs:=by
 cases c
 .exact SqL.fz (SqL.mono l.same (show SqL K (W0.fz tb) a xs from h))
 .exact SqT.fz (SqT.mono l.same (show SqT K (W0.fz tb) a xs from h))
def pK(fs:AF):IF:=λδ μ=>(fs δ μ).bind λr=>match r.1 with
 | [x,y]=>(bO x).bind λxs=>(bO y).map λys=>(⟨gV xs ys,none⟩,r.2)
 |_=>none
theorem pP{p':Pos}{elts:List Expr}{kk:Nat}(hm:X.mg "zip"=none)(ha:PAD X tb [a,b] fs)(hg:Gl X "zip":=by rfl)(hs:starEach [a,b] X.env=[(false,eval a X.env),(false,eval b X.env)]:=by rfl)(hs2:starEach [b] X.env=[(false,eval b X.env)]:=by rfl):
  PID X tb (.Tuple elts kk p') (.Call (.Name "zip" p) [a,b] [] pos) (pK fs):=
 yx (Qi hg hm ha hs hs2) λσ H R zq4=>by
  obtain⟨W,δ,S,μ',e,ok,hd,hf,h⟩:=zq4
  unfold pK at hf
  obtain⟨⟨zs,μ1⟩,e1,hf⟩:=Za.mp hf
  match zs,e1,hf with
  | [x,y],e1,hf=>
   obtain⟨xs,e2,hf⟩:=Za.mp (show((bO x).bind λxs=>(bO y).map λys=>((⟨gV xs ys,none⟩:Src),μ1))=some (S,μ')from hf)
   obtain⟨ys,e3,e4⟩:=Zp.mp hf
   cases e4
   refine⟨W,δ,[x,y],_,e,ok,hd,e1,λvs W1 ok1 l1 m1 d1=>?_⟩
   obtain⟨u,v,rfl,du,dv⟩:=az.two d1
   obtain⟨a1,us,rfl,q1,r1⟩:=Bc du e2
   obtain⟨a2,ws,rfl,q2,r2⟩:=Bc dv e3
   refine⟨a1,a2,_,_,rfl,⟨us,jb q1 (Le.refl _)⟩,⟨ws,jb q2 (Le.refl _)⟩,h _ W1 ok1 l1 m1 ⟨λi W2 d l ok2 _ ei=>?_,λi W2 l ok2 _ hi=>?_⟩⟩
   .obtain⟨x0,y0,rfl,ex,ey⟩:=yj ei
    obtain⟨vx,evx,dvx⟩:=az.get (bV.mono' r1 l) ex
    obtain⟨vy,evy,dvy⟩:=az.get (bV.mono' r2 l) ey
    refine⟨⟨⟨us,vx,jb q1 l,evx⟩,ws,vy,jb q2 l,evy⟩,λz H' ⟨p,x',y',ez,hp,eH,hx',hy'⟩=>?_⟩
    have ex':=hx' us (jb q1 l)
    have ey':=hy' ws (jb q2 l)
    rw[evx]at ex';cases ex'
    rw[evy]at ey';cases ey'
    obtain⟨ok3,l3,e3⟩:=ok2.alloc (o:=.tup [vx,vy]) hp
    refine⟨_,eH.symm,ok3,l3,rfl,?_⟩
    rw[ez]
    show aZ _ _ _ _ _
    unfold aZ
    exact⟨p,[vx,vy],rfl,.inl (.inl e3),bV.mono' (az.cons dvx (az.cons dvy az.nil)) l3⟩
   .have hi':min xs.length ys.length<=i:=by rw[<-yS];exact hi
    have l1':=az.length r1
    have l2':=az.length r2
    refine⟨us,ws,jb q1 l,jb q2 l,?_⟩
    omega
end
theorem BZ{K:PySem.W.Frag}{F:Hp}{ad:List Addr}:∀(ns:List Int),az K F ad (ns.map D.int) (ns.map V.int)
 | []=>az.nil
 |n::ns=>az.cons (by unfold aZ;rfl) (BZ ns)
theorem Dz{P:Program}{w:World}{K:PySem.W.Frag}{mg mb:Str->Option Value}{k:Nat}{fa a:Addr}{fd:FuncData}{x:Str}{s₁:Shared}{vs:List Value}{ns:List Int}{tb:List Addr}{φ:FF}{μ':Mu}
  (KX:K.In s₁.heap) (hns:s₁.heap.Ns mainGlobals mg) (hb:s₁.heap.Ns builtinsNs mb) (hbb:∀x:Str,x≠"__name__"->mb x=bootBuiltins x) (hlim:s₁.heap.NoLimit)
  (hbm:∃bm ob,mg "__builtins__"=some (.ref bm)/\bm≠builtinsNs/\s₁.heap.get? bm=some ob/\ob.cls= .type "module"/\ob.dict=some builtinsNs/\ob.data= .plain) (hg:s₁.gens= #[])
  (ha:s₁.heap.get? a=some { cls:=.type "list",data:=.seq vs.toArray}) (hi:IntsAre vs ns) (hl:ns.length<=sizeLine) (hr:gW k callerA)
  (htb:∀P∈tb,∃c,PySem.W.CodeHd s₁.heap c P/\s₁.heap.get? P=some (PySem.W.tabObj #[])) (hnt:PySem.W.noTabs K=true)
  (F:∀base:Heap,K.In base->base.Ns mainGlobals mg->nW P w K mg base CX0 k fa fd [x] (spD K tb 1 φ)) (hbind:∀(s:Shared)(u:Value),BindsTo s fd ⟨[u],[]⟩ [(x,u)])
  (hsp:φ [.ro (ns.map .int)] []=some (.bl true,μ')):
  codeAny (model P w) callerA (.call (.ref fa) ⟨[.ref a],[]⟩) (λr s'=>r= .ok (.ret (.bool true))/\OldK s₁.heap s'.heap/\s'.os=s₁.os/\AllBare s'.gens) s₁:=by
 have rv:=vU hi
 have lenV:=hi.length
 have hat:a∉tb:=λz=>by
  obtain⟨c,_,e⟩:=htb a z
  rw[ha]at e;cases e
 have hKt:∀P∈tb,K.lookup P=none:=λP hP=>by
  cases q:K.lookup P with
  |none=>rfl
  |some o=>
   obtain⟨c,_,e⟩:=htb P hP
   have e2:=KX P o q
   rw[e]at e2
   cases e2
   have h2:=List.all_eq_true.mp hnt (P,_) (PySem.W.mem_of_lookupK q)
   exact absurd (show false=true from h2) Zr
 have core:∀H:Hp,(∀b,H b=none∨(b=a/\∃o xs,H b=some (.frz o (.lst xs)))∨(b∈tb/\H b=some (.tbl #[])))->SqL K H a (ns.map V.int)->HOk P w H s₁.heap->(∀P∈tb,H P=some (.tbl #[]))->(H a≠none->K.lookup a=none)->
   codeAny (model P w) callerA (.call (.ref fa) ⟨[.ref a],[]⟩) (λr s'=>r= .ok (.ret (.bool true))/\OldK s₁.heap s'.heap/\s'.os=s₁.os/\AllBare s'.gens) s₁:=by
  intro H hO hS hok hT hK
  have base_of:∀{b:Addr}{o:Obj},s₁.heap.get? b=some o->H b=none->(xR s₁.heap H).get? b=some o:=λe n=>Ia e n
  have noH:∀{b:Addr}{o:Obj},s₁.heap.get? b=some o->o.cls≠ .type "list"->o.cls≠ .none->H b=none:=λ{b o} e d1 d2=>by
   rcases hO b with z|⟨rfl,_⟩|⟨z,_⟩
   .exact z
   .rw[ha]at e;cases e;exact absurd rfl d1
   .obtain⟨c,_,e2⟩:=htb b z
    rw[e2]at e;cases e;exact absurd rfl d2
  have noA:∀{b:Addr}{o:Obj}{es:Array DictEntry}{ep:Nat},s₁.heap.get? b=some o->o.data= .dict es ep->H b=none:=λ{b o es ep} e d=>by
   rcases hO b with z|⟨rfl,_⟩|⟨z,_⟩
   .exact z
   .rw[ha]at e;cases e;cases d
   .obtain⟨c,_,e2⟩:=htb b z
    rw[e2]at e;cases e;cases d
  have nsK:∀{b:Addr}{m:Str->Option Value},s₁.heap.Ns b m->(xR s₁.heap H).Ns b m:=λ{b m}⟨o,es,ep,e,d,r⟩=>⟨o,es,ep,base_of e (noA e d),d,r⟩
  have hKb:K.In (xR s₁.heap H):=λb o e=>base_of (KX b o e) (by
   rcases hO b with z|⟨rfl,_,_,z⟩|⟨z,_⟩
   .exact z
   .rw[hK (by rw[z];simp)]at e;cases e
   .rw[hKt b z]at e;cases e)
  have hM:Mod K mg (xR s₁.heap H):=⟨hKb,nsK hns,⟨mb,nsK hb,hbb⟩,(let⟨mc,h1,h2⟩:=hlim;⟨mc,nsK h1,h2⟩),(let⟨bm,ob,h1,h2,h3,h4,r⟩:=hbm;⟨bm,ob,h1,h2,base_of h3 (noH h3 (by rw[h4];decide) (by rw[h4];decide)),h4,r⟩)⟩
  have e0:Jo P w K mg (xR s₁.heap H) callerA [] s₁ H:=⟨rfl,hM,λb o e=>Kh e,Nat.le_of_eq (DY _ _),trivial,λb hb=>absurd (show b∈([]:List Addr)from hb) (by simp),hok,.of_eq hg⟩
  have okW:WOk K tb ⟨H,[],[]⟩:=⟨rfl,λi a ds e=>by simp at e,λi j a ds es e=>by simp at e,λP hP=>⟨#[],hT P hP,TOk.nil⟩⟩
  have nlive:∀b,¬nF ([]:List Addr) ([]:Mu) b:=λb ⟨i,ds,e,_⟩=>by simp at e
  have fzA:Wd.fz tb ⟨H,[],[]⟩ a=H a:=pO (W:=⟨H,[],[]⟩) (nlive a) hat
  have hden:Den K tb ⟨H,[],[]⟩ (.ro (ns.map .int)) (.ref a):=by
   show aZ _ _ _ _ _
   unfold aZ
   refine⟨a,_,rfl,?_,BZ ns⟩
   rcases hS with(h|⟨o,h⟩)|h
   .exact .inl (.inl (fzA.trans h))
   .exact .inl (.inr ⟨o,fzA.trans h⟩)
   .exact .inr h
  refine codeAny_mono ((F _ hKb (nsK hns)).run callerA [] s₁ H ⟨[.ref a],[]⟩ [.ref a] [.ref a] (λv _=>v= .bl true) (λ_ _ _=>False) hr e0 (hbind s₁ (.ref a)) (.cons rfl .nil)
   ⟨⟨H,[],[]⟩,[.ro (ns.map .int)],_,_,rfl,okW,az.cons hden az.nil,rfl,hsp,λv W' _ _ _ dv=>ir dv⟩) λr s' h=>?_
  cases r with
  |error e=>exact False.elim h
  |ok fl=>
   cases fl with
   |next=>exact False.elim h
   |brk=>exact False.elim h
   |cont=>exact False.elim h
   |ret u=>
    obtain⟨v,H',os,bare,un,hok',r',q⟩:=h
    have q':v= .bl true:=q
    subst q'
    obtain rfl:u=Value.bool true:=r'
    have old:∀b o,s₁.heap.get? b=some o->asItWas s₁.heap s'.heap b o/\∃o',s'.heap.get? b=some o':=λb o e=>by
     rcases hO b with z|⟨rfl,ob,xs,z⟩|⟨hb,z⟩
     .have:=un.keep b o e z (by intro z;exact absurd (show b∈([]:List Addr)from z) (by simp)) (by simp)
      exact⟨.inl this,o,this⟩
     .have z2:=un.frzs b ob _ z
      obtain⟨e1,_⟩:=hok b _ z
      obtain⟨e2,_⟩:=hok' b _ z2
      rw[e]at e1;cases e1
      exact⟨.inl e2,_,e2⟩
     .obtain⟨more,z2⟩:=un.tbls b _ z
      have e2:=hok' b _ z2
      obtain⟨c,hd,hp⟩:=htb b hb
      rw[hp]at e;cases e
      have e3:s'.heap.get? b=some { cls:=.none,data:=.fields (#[]++more) }:=e2
      exact⟨.inr (.inl ⟨(hd.tab hp).isCodeTable,rfl,#[],more,rfl,e3⟩),_,e3⟩
    exact⟨rfl,⟨λb o e=>(old b o e).1,λb o e=>(old b o e).2⟩,os,bare.bare⟩
 have tbOk:∀{H:Hp}{b:Addr},b∈tb->jT P w H s₁.heap b (.tbl #[]):=λ{H b} hb=>by
  obtain⟨c,_,e⟩:=htb b hb
  exact e
 classical
 cases hk:K.lookup a with
 |some o=>
  have e:=KX a o hk
  rw[ha]at e
  cases e
  refine core (λb=>if b∈tb then some (.tbl #[])else none) (λb=>?_) (.inr ⟨_,vs.toArray,_,hk,rfl,rfl,rfl,by rw[Zd,lenV];exact hl,by simpa using rv⟩) (λb u z=>?_) (λP hP=>if_pos hP) λz=>absurd (if_neg hat) z
  .by_cases hb:b∈tb
   .exact .inr (.inr ⟨hb,if_pos hb⟩)
   .exact .inl (if_neg hb)
  .by_cases hb:b∈tb
   .have z':=(if_pos hb).symm.trans z
    cases z'
    exact tbOk hb
   .have z':=(if_neg hb).symm.trans z
    cases z'
 |none=>
  refine core (λb=>if b=a then some (.frz { cls:=.type "list",data:=.seq vs.toArray} (.lst (ns.map V.int)))else if b∈tb then some (.tbl #[])else none) (λb=>?_) (.inl (.inr ⟨{ cls:=.type "list",data:=.seq vs.toArray},if_pos rfl⟩)) (λb u z=>?_) (λP hP=>?_) λ_=>hk
  .by_cases hb:b=a
   .exact .inr (.inl ⟨hb,_,_,if_pos hb⟩)
   .by_cases hb':b∈tb
    .exact .inr (.inr ⟨hb',(if_neg hb).trans (if_pos hb')⟩)
    .exact .inl ((if_neg hb).trans (if_neg hb'))
  .by_cases hb:b=a
   .have z':=(if_pos hb).symm.trans z
    cases z'
    subst hb
    exact⟨ha,by rw[Zu];exact hl,vs,_,rv,ha⟩
   .have z1:=(if_neg hb).symm.trans z
    by_cases hb':b∈tb
    .have z':=(if_pos hb').symm.trans z1
     cases z'
     exact tbOk hb'
    .have z':=(if_neg hb').symm.trans z1
     cases z'
  .have hne:P≠a:=λz=>hat (z▸hP)
   exact(if_neg hne).trans (if_pos hP)
theorem Gr{l:PySem.W.OpenLaw}{n k:Nat}{q:Program}{loose:List Str}{XP:(Str->Option Value)->Heap->Prop}{YP:World->Heap->Prop}{d:DefRec}{K:Params->PySem.W.Frag}{x:Str}{φ:FF}
  (hn:l.most=some n) (hn2:n<=sizeLine) (hdf:d.params.defaults=[]) (hr:gW k callerA)
  (hY:∀(w:World)(h:Heap),YP w h->(K w.params).In h)
  (F:∀(w:World)(mg mb:Str->Option Value)(mean:ExcName->Option Value)(lo:List Str)(fa:Addr)(h:Heap),(K w.params).In h->Top q lo mean mg mb h->mg d.name=some (.ref fa)->
   ∃(fd:FuncData)(tb:List Addr),(∀(s:Shared)(u:Value),BindsTo s fd ⟨[u],[]⟩ [(x,u)])/\(∀P∈tb,∃c,PySem.W.CodeHd h c P/\h.get? P=some (PySem.W.tabObj #[]))/\PySem.W.noTabs (K w.params)=true/\
    ∀base:Heap,(K w.params).In base->base.Ns mainGlobals mg->nW l.prog w (K w.params) mg base CX0 k fa fd [x] (spD (K w.params) tb 1 φ))
  (hsp:∀(ns:List Int),ns.length<=n->∃μ',φ [.ro (ns.map .int)] []=some (.bl true,μ')):
  PySem.W.WalkO q loose XP YP l.row.toRowW d [] (λf vs=>PySem.call f vs):=by
 refine Att.attach_call hn hdf λw s₀ s₁ mg mb fa o pm cd doc a vs ns G Y ho hd hcd hmg hobj hints hlen hg=>?_
 have KX:=hY w _ Y
 obtain⟨fd,tb,hb,htb,hnt,hF⟩:=F w mg mb _ _ fa _ KX G.T hmg
 obtain⟨μ',hs⟩:=hsp ns hlen
 exact Dz KX G.T.g G.T.b G.T.builtins G.T.nolimit G.T.bmain hg hobj hints (Zl hlen hn2) hr htb hnt hF hb hs
section
variable {X:Cx} {tb:List Addr} {e tg iter elt:Expr} {f:EF} {pos:Pos}
theorem Ce{fi:IF}{h:GF}{tt:TF}{fe:EF}{own:List Str}{capI ts:List Nat}{σ:SV}{H:Hp}{Q:VK}(hts:∀i∈ts,i<own.length)(hx:tDN X.K tb (lLC own capI fi h tt fe) σ H Q):
  tLC own capI (tDI X.K tb fi) (tDG X.K tb ts h) (tDT X.K tb tt) (tD X.K tb fe) σ H Q:=by
  obtain⟨W,δ,ds,μ',e,ok,hd,hf,k⟩:=hx
  unfold lLC at hf
  obtain⟨⟨S,μ1⟩,e1,e2⟩:=Za.mp hf
  split at e2
  .rename_i hz
   refine⟨W,δ,S,μ1,e,ok,hd,e1,λJ W1 ok1 l1 m1 io=>?_⟩
   refine⟨λi m ys H2=>m=S.items.length-i/\i<=S.items.length/\ys.length<=i/\∃W2 zs rs,W2.H=H2/\WOk X.K tb W2/\Le tb W1 W2/\bV X.K tb W2 zs ys/\lcL S h tt fe (cu own δ capI) (S.items.drop i) W2.mu=some (rs,μ')/\zs++rs=ds,
    ⟨S.items.length,rfl,Nat.zero_le _,Nat.zero_le _,W1,[],ds,rfl,ok1,Le.refl _,az.nil,by rw[m1];exact e2,rfl⟩,?_⟩
   rintro i m ys H2 ⟨hm,hi',hy,W2,zs,rs,rfl,ok2,l2,d2,hn,hzs⟩
   by_cases hlt:i<S.items.length
   .right
    have hdr:S.items.drop i=S.items[i]::S.items.drop (i+1):=List.drop_eq_getElem_cons hlt
    rw[hdr]at hn
    unfold lcL at hn
    split at hn
    .rename_i hok
     obtain⟨δ3,e3,hn⟩:=Za.mp hn
     obtain⟨⟨kk,μ4⟩,e4,hn⟩:=Za.mp hn
     obtain⟨go,yl⟩:=io.go i W2 S.items[i] l2 ok2 hok (by simp[hlt])
     refine⟨go,Zc (Nat.lt_of_le_of_lt hy hlt) hz,λx H' y=>?_⟩
     obtain⟨W3,rfl,ok3,l3,m3,d3⟩:=yl x H' y
     refine⟨W3,cu own δ capI,S.items[i],δ3,rfl,ok3,(rQ hd).mono' ((l1.trans l2).trans l3),d3,(by rw[m3];exact e3),λσ3 d3' hl3 ht3=>⟨fits_of hts hl3 ht3,?_⟩⟩
     refine⟨W3,δ3,kk,μ4,rfl,ok3,d3',(by rw[m3];exact e4),λW4 ok4 l4 m4=>?_⟩
     cases kk with
     |false=>
      rw[if_neg Zr]
      exact⟨S.items.length-(i+1),by omega,rfl,hlt,by omega,W4,zs,rs,rfl,ok4,(l2.trans l3).trans l4,bV.mono' d2 (l3.trans l4),by rw[m4];exact hn,hzs⟩
     |true=>
      rw[if_pos rfl]
      have hn':((fe δ3 μ4).bind λy=>(lcL S h tt fe (cu own δ capI) (S.items.drop (i+1)) y.2).bind λys=>some (y.1::ys.1,ys.2))=some (rs,μ'):=hn
      obtain⟨⟨yd,μ5⟩,e5,hn'⟩:=Za.mp hn'
      obtain⟨⟨rs',μ6⟩,e6,e7⟩:=Za.mp hn'
      cases e7
      refine⟨W4,δ3,yd,μ5,rfl,ok4,d3'.mono' l4,(by rw[m4];exact e5),λv W5 ok5 l5 m5 d5=>?_⟩
      refine⟨S.items.length-(i+1),by omega,rfl,hlt,by rw[List.length_append];simp;omega,W5,zs++[yd],rs',rfl,ok5,((l2.trans l3).trans l4).trans l5,az.append (bV.mono' d2 ((l3.trans l4).trans l5)) (az.cons d5 az.nil),by rw[m5];exact e6,by rw[List.append_assoc];exact hzs⟩
    .cases hn
   .left
    have hdr:S.items.drop i=[]:=List.drop_of_length_le (by omega)
    rw[hdr]at hn
    unfold lcL at hn
    split at hn
    .rename_i hok
     cases hn
     rw[List.append_nil]at hzs
     subst hzs
     exact⟨io.stop i W2 l2 ok2 hok (by omega),λl hl=>k l ys W2 ok2 (l1.trans l2) rfl hl d2⟩
    .cases hn
  .cases e2
theorem sG{i:Nat}{x:Str}{px spos:Pos}{ifs:List Expr}{fi:IF}{h:GF}{tt:TF}{fe:EF}{own cap:List Str}{capI ts:List Nat}{scope:Scope}(hN:X.N.Nodup)(hc:X.calm=true)(B:dZ X own cap capI scope)(hown:∀x∈own,(x,NameKind.free)∉scope.names)(hi:PID X tb tg iter fi)
  (hg:∀cs C fp s2 H2,PGD (bw X own cap scope cs C fp s2 H2) tb tg ts h) (ht:∀cs C fp s2 H2,Az (bw X own cap scope cs C fp s2 H2) tb ifs tt) (he:∀cs C fp s2 H2,PD (bw X own cap scope cs C fp s2 H2) tb elt fe)
  (hts:∀i∈ts,i<own.length:=by decide) (hs:∀x,foldedSetIterable iter X.env x=pure x:=by intro _;rfl) (hi₀:X.N[i]? =some x:=by rfl) (hx₀:Loc X.env.scope x:=by first|exact Or.inl rfl|exact Or.inr rfl)
  (hsw:swapsWith (.ListComp elt [⟨tg,iter,ifs,0⟩] scope pos) (some (.Name x px)) spos.line X.env=pure true:=by rfl)
  (hf₀:X.fn x=true∨X.env.scope.names.lookup x=some .local:=by first|exact .inl rfl|exact .inr rfl|assumption):
  PSD X tb (.Assign [.Name x px] (.ListComp elt [⟨tg,iter,ifs,0⟩] scope pos) spos) (bh i (mFz (lLC own capI fi h tt fe))):=
 jV (MJ (g:=tDG X.K tb ts h) (tt:=tDT X.K tb tt) (te:=tD X.K tb fe) hN hi₀ hx₀ hc B hown hi hg ht he hs hsw hf₀) λE σ H zq1=>by
  obtain⟨W,δ,fl,δ',μ',e,ok,hd,hf,k⟩:=zq1
  unfold bh at hf
  obtain⟨⟨d,μ1⟩,e1,e2⟩:=Za.mp hf
  cases e2
  unfold mFz at e1
  obtain⟨⟨ds,μ2⟩,e3,e4⟩:=Za.mp e1
  cases e4
  refine Ce hts ⟨W,δ,ds,_,e,ok,hd,e3,λp vs W1 ok1 l1 m1 hp r=>?_⟩
  exact jk (Q:=λv H=>E.nx (σ.set i (some v)) H) ok1 (λv W' ok' l' m' d'=>k _ W' ok' (l1.trans l') (m'.trans m1) ((hd.mono' (l1.trans l')).set d')) r hp
theorem Jy{i:Nat}{x:Str}{px spos:Pos}{ifs:List Expr}{fi:IF}{h:GF}{tt:TF}{fe:EF}{own cap:List Str}{capI ts:List Nat}{scope:Scope}(hN:X.N.Nodup)(hc:X.calm=true)(B:dZ X own cap capI scope)(hown:∀x∈own,(x,NameKind.free)∉scope.names)(hi:PID X tb tg iter fi)
  (hg:∀cs C fp s2 H2,PGD (bw X own cap scope cs C fp s2 H2) tb tg ts h) (ht:∀cs C fp s2 H2,Az (bw X own cap scope cs C fp s2 H2) tb ifs tt) (he:∀cs C fp s2 H2,PD (bw X own cap scope cs C fp s2 H2) tb elt fe)
  (hts:∀i∈ts,i<own.length:=by decide) (hs:∀x,foldedSetIterable iter X.env x=pure x:=by intro _;rfl) (hi₀:X.N[i]? =some x:=by rfl) (hx₀:Loc X.env.scope x:=by first|exact Or.inl rfl|exact Or.inr rfl)
  (hsw:swapsWith (.ListComp elt [⟨tg,iter,ifs,0⟩] scope pos) (some (.Name x px)) spos.line X.env=pure true:=by rfl)
  (hf₀:X.fn x=true∨X.env.scope.names.lookup x=some .local:=by first|exact .inl rfl|exact .inr rfl|assumption):
  PSD X tb (.Assign [.Name x px] (.ListComp elt [⟨tg,iter,ifs,0⟩] scope pos) spos) (bh i (oY (lLC own capI fi h tt fe))):=
 jV (MJ (g:=tDG X.K tb ts h) (tt:=tDT X.K tb tt) (te:=tD X.K tb fe) hN hi₀ hx₀ hc B hown hi hg ht he hs hsw hf₀) λE σ H zq2=>by
  obtain⟨W,δ,fl,δ',μ',e,ok,hd,hf,k⟩:=zq2
  unfold bh at hf
  obtain⟨⟨d,μ1⟩,e1,e2⟩:=Za.mp hf
  cases e2
  unfold oY at e1
  obtain⟨⟨ds,μ2⟩,e3,e4⟩:=Za.mp e1
  cases e4
  refine Ce hts ⟨W,δ,ds,μ2,e,ok,hd,e3,λp vs W1 ok1 l1 m1 hp r=>?_⟩
  obtain⟨ok2,l2,d2⟩:=ok1.new hp r
  exact k _ _ ok2 (l1.trans l2) (by show W1.mu++[some ds]=_;rw[m1]) ((hd.mono' (l1.trans l2)).set (by rw[<-m1];exact d2))
end
theorem CN{P:Program}{w:World}{K:PySem.W.Frag}{mg:Str->Option Value}{base:Heap}{tb:List Addr}{x qual:Str}{st:Stmt}{f:Addr}{fd:FuncData}{T:Addr}{ps:List Str}{n:Nat}(F:fu K x qual st f fd T)(hmg:mg x=some (.ref f))(hps:ps.length=n)
  (hb:∀(kV doc pm:Value)(an:Option Addr)(cdv ct:Value)(us:List Value),us.length=ps.length->bindArgs (PySem.W.fnOf x qual (jP st) (iD st) (aK st) .none kV doc pm an cdv ct) ⟨us,[]⟩=pure (ps.zip us)):FI P w K mg base tb x n 0 (λ_ _=>none):=by
 obtain⟨oc,od,kV,doc,pm,an,c,ct,osl,rfl,lk,hcd,hhd⟩:=F.ex
 refine⟨f,_,ps,⟨λvs H Q E ⟨W,ds,d,μ',e,ok,dl,hl,hf,_⟩=>(by cases hf),λA outer s H args us vs Q E hr e0 hb r ⟨W,ds,d,μ',e,ok,dl,hl,hf,_⟩=>(by cases hf)⟩,hmg,F.kp,.all (hb kV doc pm an (.ref c) ct)⟩
theorem Jj{P:Program}{w:World}{K:PySem.W.Frag}{mg:Str->Option Value}{base:Heap}{tb:List Addr}{x qual:Str}{st:Stmt}{f:Addr}{fd:FuncData}{T:Addr}{N ps:List Str}{n k:Nat}{g:SF}(F:fu K x qual st f fd T)(KB:K.In base)(S:aX N ps (aK st))(hps:ps.length=n)
  (hbody:∀(c:Addr)(A:Around)(outer:List Env)(s:Shared)(H:Hp)(E:XK),PySem.W.CodeHd base c T->gW k (A.deeper (envOfC qual (aK st) s.heap.objs.size f (.ref c)))->
   uP (Bq CX0 P w K mg base N qual (aK st) f (.ref c) A outer s H E).nox tb (iD st) g):nW P w K mg base CX0 (k+1) f fd ps (spD K tb n (aG N.length g)):=by
 obtain⟨oc,od,kV,doc,pm,an,c,ct,osl,rfl,lk,hcd,hhd⟩:=F.ex
 refine Mx lk hcd S (λvs H Q E ⟨W,ds,d,μ',e,ok,dl,hl,_⟩=>by rw[<-az.length dl,hl,hps]) λA outer s H vs Q E hr hsp=>?_
 obtain⟨W,ds,d,μ',e,ok,dl,hl,hf,k⟩:=hsp
 refine⟨_,(hbody c A outer s H E (hhd base KB) hr).nox,?_⟩
 unfold aG at hf
 obtain⟨⟨fl,δ',μ1⟩,e1,e2⟩:=Za.mp hf
 refine⟨W,_,fl,δ',μ1,e,ok,?_,e1,λσ' W' ok' l' m' d'=>?_⟩
 .have hlen:=az.length dl
  refine⟨by unfold L2.start;simp[hlen],λi y q=>?_⟩
  unfold L2.start
  by_cases hi:i<ds.length
  .rw[Zs (by simpa using hi),List.getElem?_map]at q
   cases q2:ds[i]? with
   |none=>rw[q2]at q;cases q
   |some z=>
    rw[q2]at q
    cases q
    obtain⟨v,ev,dv⟩:=az.get dl q2
    exact⟨v,by rw[Zs (by rw[Zu,<-hlen];exact hi),List.getElem?_map,ev];rfl,dv⟩
  .rw[List.getElem?_append_right (by simpa using hi),List.getElem?_replicate]at q
   split at q<;>cases q
 .cases fl with
  |nx=>cases e2;exact k .non W' ok' l' m' sy
  |rt d0=>cases e2;exactλv dv=>k v W' ok' l' m' dv
  |bk=>cases e2
  |ct=>cases e2
def xF(vs:Array Value):Bool:=(match vs.getD 18 .none with| .str _ _=>true|_=>false)&&(match vs.getD 7 .none with| .int _ _=>true|_=>false)&&
 (match vs.getD 9 .none with| .bool _=>true|_=>false)&&(match vs.getD 10 .none with| .int _ _=>true|_=>false)
theorem Eb{K:PySem.W.Frag}{c P:Addr}{dd:Option Addr}{vs:Array Value}{sl:Array (Option Value)}(lc:K.lookup c=some ⟨.type "code",dd,.fields vs,sl⟩)(p:vs[11]? =some (.ref P))(q:xF vs=true)(ne:(c != P)=true):PySem.W.codeHdIn K c P=true:=by
 unfold PySem.W.codeHdIn
 rw[lc]
 unfold xF at q
 simp only[Zo]at q ⊢
 obtain⟨⟨⟨q1,q2⟩,q3⟩,q4⟩:=q
 refine⟨⟨⟨⟨⟨?_,q1⟩,q2⟩,q3⟩,q4⟩,ne⟩
 rw[p]
 exact beq_self_eq_true P
theorem Lz{K:PySem.W.Frag}{x qual:Str}{st:Stmt}{f c P:Addr}{oc:Value}{od an:Option Addr}{osl:Array (Option Value)}{kV doc pm ct:Value}{dd:Option Addr}{vs:Array Value}{sl:Array (Option Value)}
  (l:K.lookup f=some ⟨oc,od,.func (PySem.W.fnOf x qual (jP st) (iD st) (aK st) .none kV doc pm an (.ref c) ct),osl⟩) (hc:PySem.W.codeIn K (.ref c) qual=true) (k:PySem.W.keepIn K (.ref f)=true)
  (lc:K.lookup c=some ⟨.type "code",dd,.fields vs,sl⟩) (p:vs[11]? =some (.ref P)) (q:xF vs=true) (ne:(c != P)=true):fu K x qual st f (PySem.W.fnOf x qual (jP st) (iD st) (aK st) .none kV doc pm an (.ref c) ct) P:=
 ⟨⟨oc,od,kV,doc,pm,an,c,ct,osl,rfl,l,hc,λh X=>PySem.W.codeHd_of_K X (Eb lc p q ne)⟩,k⟩
theorem NQ{K:PySem.W.Frag}{x:Str}{f c P:Addr}{oc oc':Value}{od dd:Option Addr}{fd:FuncData}{osl sl:Array (Option Value)}{vs:Array Value}(a:PySem.W.nsIn K mainGlobals x=some (some (.ref f)))(l:K.lookup f=some ⟨oc,od,.func fd,osl⟩)(hc:fd.code= .ref c)
  (lc:K.lookup c=some ⟨oc',dd,.fields vs,sl⟩) (p:vs[11]? =some (.ref P)):PySem.W.tabIn K x=some (c,P):=by
 unfold PySem.W.tabIn
 rw[a]
 simp only[l,hc,lc,p]
theorem uE{q:Program}{lo:List Str}{mean:ExcName->Option Value}{mg mb:Str->Option Value}{h:Heap}{K:PySem.W.Frag}{x:Str}{c P:Addr}(T:Top q lo mean mg mb h)(X:K.In h)(hr:((recsOf q).find? (λe=>e.name==x)).isSome=true)(ht:PySem.W.tabIn K x=some (c,P)):PySem.W.CodeHd h c P/\h.get? P=some (PySem.W.tabObj #[]):=by
 obtain⟨d,hd⟩:=Option.isSome_iff_exists.mp hr
 exact PySem.W.tab_of T X hd ht
end L3
namespace L2
open PySem PySem.Spec PyProof.Rows HT
section
variable {prog:Program} {w:World} {A:Around} {E:Value->Shared->Prop} {s:Shared}
theorem nG{t sl:Addr}{items:Array Value}{vl vu:Value}{lo hi:Option Int}{Q:Value->Shared->Prop}(ht:IsTup s.heap t items)(hs:s.heap.IsSliceOf sl vl vu .none)(pl:IsPart vl lo)(pu:IsPart vu hi)
  (hw:sIx items.size 0 lo=0/\sIx items.size items.size hi=items.size) (h:Q (.ref t) s):wpAny (model prog w) A (getItem (.ref t) (.ref sl)) Q E s:=by
 obtain⟨os,hos,hcs,hds⟩:=id hs
 have hTs:s.TypeIs (.ref sl) "slice":=⟨os,hos,hcs⟩
 unfold getItem
 try with_reducible refine wpAny_holding ?_
 first|refine wpAny_bind (wpAny_pure ?_)|skip
 refine wpAny_bind (wpAny_sequenceKey ht.typeIs (by decide) ?_)
 refine wpAny_bind (wpAny_callSpecial?_slot (name:=Str.ofString "__getitem__") ht.typeIs PyProof.Rows.slot_tuple_getitem
  (wpAny_call_entry PyProof.Rows.slot_tuple_getitem ht.typeIs entry_tuple_getitem ?_ (args_tuple_getitem _ _)))
 show wpAny _ _ (Builtin.Tuple.tupleItemsOf (.ref t) >>= _) _ _ s
 refine wpAny_bind (tupleItemsOf_ ht ?_)
 refine wpAny_bind (wpAny_typeOf hTs ?_)
 rw[if_pos (by decide)]
 refine wpAny_bind (kW hs pl pu ?_)
 have hyes:(((sIx items.size 0 lo:Nat):Int)==0&&(1:Int)==1&&(sIx items.size items.size hi-sIx items.size 0 lo)==items.size)=true:=by
  rw[hw.1,hw.2]
  simp
 show wpAny _ _ (if(((sIx items.size 0 lo:Nat):Int)==0&&(1:Int)==1&&(sIx items.size items.size hi-sIx items.size 0 lo)==items.size)=true then _ else _) _ _ s
 rw[if_pos hyes]
 refine wpAny_bind (m:=Builtin.Tuple.tupleIsExact (.ref t)) (wpAny_bind (wpAny_typeOf ht.typeIs (wpAny_pure ?_)))
 rw[if_pos (by decide)]
 refine wpAny_bind (wpAny_rule ?_)
 first
  |exact wpAny_pure ⟨_,rfl,wpAny_pure h⟩
  |exact wpAny_bind (wpAny_pure (wpAny_pure ⟨_,rfl,wpAny_pure h⟩))
  |exact wpAny_pure (wpAny_pure h)
end
section
variable {X:Cx}
def rSlW(K:PySem.W.Frag):V->Option Int->Option Int->Hp->VK->Prop:=λx lo hi H Q=>∃a xs,x= .ref a/\SqT K H a xs/\
 (HT.sIx xs.length 0 lo=0/\HT.sIx xs.length xs.length hi=xs.length)/\Q (.ref a) H
theorem JB:SlR X (rSlW X.K):=by
 intro pins s σ H x v vl vu lo hi sl Q I rx hs pl pu h
 obtain⟨a,xs,rfl,hx,hw,q⟩:=h
 cases rx
 obtain⟨its,r,ht,hz⟩:=I.tuple hx
 have hlen:its.toArray.size=xs.length:=by rw[Zd];exact r.length.symm
 refine⟨"tuple",_,PyProof.Rows.slot_tuple_getitem.lookup,ht.typeIs,?_⟩
 exact nG ht hs pl pu (by rw[hlen];exact hw) ⟨.ref a,H,I,rfl,q⟩
end
section
variable {prog:Program} {w:World} {A:Around} {E:Value->Shared->Prop} {s:Shared}
theorem Bs{e j l:Addr}{c:Bool}{i:Nat}{xs:Array Value}{x old:Value}{Q:Value->Shared->Prop}(he:IsEnum s.heap e j i old)(hj:dM c s.heap j l i)(hl:iu c s.heap l xs)(hx:xs[i]? =some x)(ne:e≠j)
  (hQ:∀h',IsEnumOut h' e j ((i:Int)+1) x s.heap.objs.size->dM c h' j l (i+1)->IsPair h' s.heap.objs.size (.int i s.toks) x->h'.objs.size=s.heap.objs.size+1->
   (∀b o,b≠e->b≠j->s.heap.get? b=some o->h'.get? b=some o)->Q (.ref s.heap.objs.size) { s with heap:=h',toks:=s.toks+1}):
  wpAny (model prog w) A (Builtin.«enumerate.__next__» ⟨[.ref e],[]⟩) (λfin s'=>∃v,fin= .done (.ret v)/\Q v s') E s:=by
 obtain⟨hp,gg,dr,tk,os⟩:=s
 show wpAny _ _ (field (.ref e) 2 >>= _) _ _ _
 refine wpAny_bind (wpAny_field he rfl (x:=.ref j) rfl (wpAny_bind (gU hj hl hx λk1 j1 m1=>?_)))
 replace m1:Heap.SameBut j hp k1:=m1
 have e1:IsEnum k1 e j i old:=(m1.2 e ne).trans he
 show wpAny _ _ (field (.ref e) 3 >>= _) _ _ ⟨k1,gg,dr,tk,os⟩
 refine wpAny_bind (wpAny_field e1 rfl (x:=rawInt i) rfl ?_)
 show wpAny _ _ (field (.ref e) 4 >>= _) _ _ ⟨k1,gg,dr,tk,os⟩
 refine wpAny_bind (wpAny_field e1 rfl (x:=.none) rfl ?_)
 show wpAny _ _ (mkInt i >>= _) _ _ ⟨k1,gg,dr,tk,os⟩
 refine wpAny_bind (wpAny_mkInt ?_)
 show wpAny _ _ (setField (.ref e) 3 (rawInt ((i:Int)+1)) >>= _) _ _ ⟨k1,gg,dr,tk+1,os⟩
 refine wpAny_bind (wpAny_setField_rec e1 (by simp) λk2 e2 m2=>?_)
 replace m2:Heap.SameBut e k1 k2:=m2
 replace e2:IsEnum k2 e j ((i:Int)+1) old:=e2
 show wpAny _ _ (setField (.ref e) 4 .none >>= _) _ _ ⟨k2,gg,dr,tk+1,os⟩
 refine wpAny_bind (wpAny_setField_rec e2 (by simp) λk3 e3 m3=>?_)
 replace m3:Heap.SameBut e k2 k3:=m3
 replace e3:IsEnum k3 e j ((i:Int)+1) old:=e3
 show wpAny _ _ (newTuple [.int i tk,x] >>= _) _ _ ⟨k3,gg,dr,tk+1,os⟩
 refine wpAny_bind (wpAny_newTuple ?_)
 have n3:k3.objs.size=hp.objs.size:=by rw[m3.1,m2.1,m1.1]
 have lt:e<hp.objs.size:=Ze he
 obtain⟨k4,hk4⟩:∃k4,k3.push { cls:=.type "tuple",data:=.seq #[.int i tk,x] }=k4:=⟨_,rfl⟩
 have e4:IsEnum k4 e j ((i:Int)+1) old:=by rw[<-hk4];exact Zb _ e3
 have t4:IsPair k4 hp.objs.size (.int i tk) x:=by rw[<-hk4,<-n3];exact Zf _ rfl
 have n4:k4.objs.size=hp.objs.size+1:=by rw[<-hk4,Heap.size_push,n3]
 have o4:∀b o,b≠e->b≠j->hp.get? b=some o->k4.get? b=some o:=λb o q1 q2 q=>by
  rw[<-hk4]
  exact Zb _ (m3.extBut b o q1 (m2.extBut b o q1 (m1.extBut b o q2 q)))
 have j4:dM c k4 j l (i+1):=j1.at' λo q=>by
  rw[<-hk4]
  exact Zb _ (m3.extBut _ o ne.symm (m2.extBut _ o ne.symm q))
 show wpAny _ _ (Builtin.SmallTypes.ownedTupleIsFree (.ref e) >>= _) _ _ ⟨k3.push _,gg,dr,tk+1,os⟩
 rw[hk4,n3]
 refine wpAny_bind ?_
 unfold Builtin.SmallTypes.ownedTupleIsFree
 refine wpAny_bind (wpAny_field e4 rfl (x:=.none) rfl (wpAny_pure ?_))
 simp only[if_true]
 refine wpAny_bind (wpAny_rule (wpAny_bind (wpAny_field e4 rfl (x:=old) rfl (wpAny_bind (wpAny_setField_rec e4 (by simp) λk5 e5 m5=>?_)))))
 replace m5:Heap.SameBut e k4 k5:=m5
 replace e5:IsEnum k5 e j ((i:Int)+1) x:=e5
 show wpAny _ _ (Builtin.SmallTypes.ownedTupleHandOut (.ref e) (.ref hp.objs.size) >>= _) _ _ ⟨k5,gg,dr,tk+1,os⟩
 refine wpAny_bind ?_
 unfold Builtin.SmallTypes.ownedTupleHandOut
 refine wpAny_bind (wpAny_setField_rec e5 (by simp) λk6 e6 m6=>?_)
 replace m6:Heap.SameBut e k5 k6:=m6
 replace e6:IsEnumOut k6 e j ((i:Int)+1) x hp.objs.size:=e6
 refine wpAny_setField_rec e6 (by simp) λk7 e7 m7=>?_
 replace m7:Heap.SameBut e k6 k7:=m7
 replace e7:IsEnumOut k7 e j ((i:Int)+1) x hp.objs.size:=e7
 have up:∀b o,b≠e->k4.get? b=some o->k7.get? b=some o:=λb o q1 q=>m7.extBut b o q1 (m6.extBut b o q1 (m5.extBut b o q1 q))
 exact wpAny_bind (wpAny_letGo (wpAny_pure ⟨_,rfl,hQ k7 e7 (j4.at' λo q=>up _ o ne.symm q) (up _ _ (Nat.ne_of_gt lt) t4) (by rw[m7.1,m6.1,m5.1,n4]) λb o q1 q2 q=>up b o q1 (o4 b o q1 q2 q)⟩))
theorem pC{e j l:Addr}{c:Bool}{i:Nat}{xs:Array Value}{x old:Value}{Q:Option Value->Shared->Prop}(he:IsEnum s.heap e j i old)(hj:dM c s.heap j l i)(hl:iu c s.heap l xs)(hx:xs[i]? =some x)(ne:e≠j)
  (hQ:∀h',IsEnumOut h' e j ((i:Int)+1) x s.heap.objs.size->dM c h' j l (i+1)->IsPair h' s.heap.objs.size (.int i s.toks) x->h'.objs.size=s.heap.objs.size+1->
   (∀b o,b≠e->b≠j->s.heap.get? b=some o->h'.get? b=some o)->Q (some (.ref s.heap.objs.size)) { s with heap:=h',toks:=s.toks+1}):wpAny (model prog w) A (pyNext (.ref e)) Q E s:=by
 have ty:s.TypeIs (.ref e) "enumerate":=⟨_,he,rfl⟩
 unfold pyNext
 exact wpAny_bind (wpAny_attempt (wpAny_callSpecial?_slot (name:=Str.ofString "__next__") ty F.slot_enumerate_next
  (wpAny_call_entry F.slot_enumerate_next ty F.entry_enumerate_next (Bs he hj hl hx ne λh' a1 a2 a3 a4 a5=>wpAny_pure (hQ h' a1 a2 a3 a4 a5)) (F.args_enumerate_next_1 _))))
theorem qb{e j l:Addr}{c:Bool}{i:Nat}{xs:Array Value}{old:Value}{Q:Option Value->Shared->Prop}(hh:A.handled=none)(he:IsEnum s.heap e j i old)(hj:dM c s.heap j l i)(hl:iu c s.heap l xs)(hx:xs[i]? =none)
  (hQ:∀h',Heap.ExtBut j s.heap h'->Q none { s with heap:=h'}):wpAny (model prog w) A (pyNext (.ref e)) Q E s:=by
 have ty:s.TypeIs (.ref e) "enumerate":=⟨_,he,rfl⟩
 unfold pyNext
 refine wpAny_bind (wpAny_attempt (wpAny_callSpecial?_slot (name:=Str.ofString "__next__") ty F.slot_enumerate_next
  (wpAny_call_entry F.slot_enumerate_next ty F.entry_enumerate_next ?_ (F.args_enumerate_next_1 _))))
 show wpAny _ _ (field (.ref e) 2 >>= _) _ _ _
 refine wpAny_bind (wpAny_field he rfl (x:=.ref j) rfl (wpAny_bind (jY hh hj hl hx λh' v k1 zq1=>?_)))
 obtain⟨o,q1,q2⟩:=zq1
 exact wpAny_bind (wpAny_isInstance (T:="StopIteration") (b:=true) ⟨o,q1,q2⟩ isSubtype_stop (wpAny_pure (hQ _ k1)))
set_option maxHeartbeats 1000000 in
theorem Eu(c:Bool)(l:Addr)(xs:Array Value):
  Meets (Builtin.«enumerate.__new__» ⟨[.type "enumerate",.ref l],[]⟩) (λ_ R s=>iu c s.heap l xs/\
   R (.ok (.ret (.ref (s.heap.push (jc c l)).objs.size))) { s with heap:=(s.heap.push (jc c l)).push { cls:=.type "enumerate",data:=.fields #[.none,.bool false,.ref s.heap.objs.size,rawInt 0,.none,.none] } }):=
 .of_wp λprog w A R s h=>by
  obtain⟨hp,g,d,tk,os⟩:=s
  obtain⟨hl,h⟩:=h
  have hsub:=sub_enumerate
  have hL:iu c (Shared.heap ⟨hp,g,d,tk,os⟩) l xs:=hl
  wp_walk
  refine wpAny_stack_any λst=>wpAny_pure ?_
  split
  .rename_i v _ _ _ _ _
   cases (v==Value.type "enumerate")
   .wp_walk using kY hL
    exact⟨_,rfl,h⟩
   .wp_walk using kY hL
    exact⟨_,rfl,h⟩
  .wp_walk using kY hL
   exact⟨_,rfl,h⟩
theorem Aa{c:Bool}{l:Addr}{xs:Array Value}{Q:Value->Shared->Prop}(hl:iu c s.heap l xs)
  (h:∀h',IsEnum h' (s.heap.objs.size+1) s.heap.objs.size 0 .none->dM c h' s.heap.objs.size l 0->(∀b o,s.heap.get? b=some o->h'.get? b=some o)->Q (.ref (s.heap.objs.size+1)) { s with heap:=h'}):
  wpAny (model prog w) A (call (.type "enumerate") [.ref l]) Q E s:=by
 refine callType_new F.called_enumerate (by decide) (F.typeCall_enumerate_1 _) (F.newCall_enumerate_1 _) (λobj=>F.args_object_init_2 obj _) F.entry_enumerate_new (Eu c l xs) ⟨hl,?_⟩
 have z1:(s.heap.push (jc c l)).objs.size=s.heap.objs.size+1:=Heap.size_push ..
 have g2:((s.heap.push (jc c l)).push { cls:=.type "enumerate",data:=.fields #[.none,.bool false,.ref s.heap.objs.size,rawInt 0,.none,.none] }).get? (s.heap.push (jc c l)).objs.size=some _:=Zf _ rfl
 have g1:dM c ((s.heap.push (jc c l)).push { cls:=.type "enumerate",data:=.fields #[.none,.bool false,.ref s.heap.objs.size,rawInt 0,.none,.none] }) s.heap.objs.size l 0:=(dM.new c _ l).at' λo q=>Zb _ q
 show _/\_
 rw[z1]at g2 ⊢
 exact⟨⟨_,g2,rfl⟩,h _ g2 g1 λb o q=>Zb _ (Zb _ q)⟩
end
def Ite(K:PySem.W.Frag)(c:Bool)(a:Addr):It:=
 ⟨λi H=>∃xs x,SqB c K H a xs/\xs[i]? =some x,
  λi H v H'=>∃p x,v= .ref p/\H p=none/\H'=upd H p (.tup [.int i,x])/\∀xs,SqB c K H a xs->xs[i]? =some x,
  λi H=>∃xs,SqB c K H a xs/\xs.length<=i⟩
def ESt(c:Bool)(e j a:Addr)(i:Nat)(h:Heap):Prop:=(∃old,IsEnum h e j i old)/\dM c h j a i
theorem Eo{P:Program}{w:World}{K:PySem.W.Frag}{elts:List Expr}{kk:Nat}{pos:Pos}(c:Bool)(e j a:Addr)(ne:e≠j):
  Turn P w K (.Tuple elts kk pos) (Ite K c a) [e,j] e (ESt c e j a) where
 mem:=by simp
 obj:=λi h st b hb=>by
  obtain⟨⟨old,he⟩,hj⟩:=st
  simp only[Zi,List.not_mem_nil,or_false]at hb
  rcases hb with rfl|rfl
  .exact⟨_,he,λv q=>by cases q⟩
  .obtain⟨o,q,d,_⟩:=hj.obj;exact⟨o,q,d⟩
 keep:=λi h h' st k=>by
  obtain⟨⟨old,he⟩,hj⟩:=st
  exact⟨⟨old,k e (by simp) _ he⟩,hj.at' λo q=>k j (by simp) o q⟩
 item:=by
  intro X hP hw hK hc i pins s σ H E I hf st hg
  subst hP hw hK
  obtain⟨⟨old,he⟩,hj⟩:=st
  obtain⟨xs,x,hx,ex⟩:=hg
  obtain⟨its,r,p,z⟩:=I.sqB hx
  obtain⟨u,eu,ru⟩:=r.get ex
  have fe:=hf e (by simp)
  have fj:=hf j (by simp)
  have lte:e<s.heap.objs.size:=Ze he
  have ltj:j<s.heap.objs.size:=let⟨_,q,_⟩:=hj.obj;Ze q
  refine pC he hj p (x:=u) (by simpa using eu) ne λh' q1 q2 q3 q4 q5=>⟨_,rfl,?_⟩
  refine wpAny_letOwnedTupleGo_enum q1 λh2 y1 y2=>?_
  have hpn:H s.heap.objs.size=none:=I.hok.fresh (Zg _)
  have IA:Inv X pins σ (upd H s.heap.objs.size (.tup [.int i,x])) { s with heap:=s.heap.push { cls:=.type "tuple",data:=.seq #[.int i s.toks,u] },toks:=s.toks+1}:=
   I.laid (t':=s.toks+1) (o:=.tup [.int i,x]) (λb ob q=>Zb _ q) (Zg _) ⟨by show 2<=sizeLine;decide,[.int i s.toks,u],.cons ⟨_,rfl⟩ (.cons ru .nil),IsTup.new _ _⟩
  have hne:∀b∈[e,j],b≠s.heap.objs.size:=λb hb=>by
   simp only[Zi,List.not_mem_nil,or_false]at hb
   rcases hb with rfl|rfl
   .exact Zk lte
   .exact Zk ltj
  have hf':∀b∈[e,j],jg X pins (upd H s.heap.objs.size (.tup [.int i,x])) b:=λb hb=>by
   obtain⟨f0,f1⟩:=hf b hb
   exact⟨by rw[aM (hne b hb)];exact f0,f1⟩
  have IB:Inv X pins σ (upd H s.heap.objs.size (.tup [.int i,x])) { s with heap:=h2,toks:=s.toks+1}:=by
   refine Inv.turnedL (s:={ s with heap:=s.heap.push { cls:=.type "tuple",data:=.seq #[.int i s.toks,u] },toks:=s.toks+1}) (t':=s.toks+1) (fp:=[e,j]) IA (λb o hb q=>?_) hf'
   simp only[Zi,List.not_mem_nil,or_false,not_or]at hb
   by_cases hs:b=s.heap.objs.size
   .subst hs
    have q':some ({ cls:=.type "tuple",data:=.seq #[.int i s.toks,u] }:Obj)=some o:=(Zf s.heap rfl).symm.trans q
    cases q'
    exact y2.extBut _ _ hb.1 q3
   .exact y2.extBut _ _ hb.1 (q5 b o hb.1 hb.2 (zQ q hs))
  exact⟨.ref s.heap.objs.size,_,IB,rfl,⟨_,x,rfl,hpn,rfl,λzs hzs=>by rw[I.sqB_inj hzs hx];exact ex⟩,⟨⟨u,by simpa using y1⟩,q2.at' λo q=>y2.extBut _ _ ne.symm q⟩,λb hb=>(hf' b hb).1⟩
 done:=by
  intro X hP hw hK hc i pins s σ H E I hf st hg
  subst hP hw hK
  obtain⟨⟨old,he⟩,hj⟩:=st
  obtain⟨xs,hx,hend⟩:=hg
  obtain⟨its,r,p,z⟩:=I.sqB hx
  have hl:=r.length
  refine qb (I.ok.hd hc) he hj p (by simp;omega) λh' q=>⟨rfl,I.turnedL (t':=s.toks) (fp:=[e,j]) (λb o hb k=>?_) hf⟩
  simp only[Zi,List.not_mem_nil,or_false,not_or]at hb
  exact q b o hb.2 k
 self:=λ_ _ _ _ _ st h=>by
  obtain⟨⟨old,he⟩,_⟩:=st
  exact wpAny_pyIter_enum he h
def RL(K:PySem.W.Frag)(ta:TA):TI:=λσ H R=>ta σ H λvs H1=>∃a c,vs=[.ref a]/\(∃xs,SqB c K H1 a xs)/\R (Ite K c a) H1
section
variable {X:Cx}
theorem JR{a:Expr}{ta:TA}{p pos p':Pos}{elts:List Expr}{kk:Nat}(hg:Gl X "enumerate")(hm:X.mg "enumerate"=none)(ha:PA X [a] ta)(hs:starEach [a] X.env=[(false,eval a X.env)]:=by rfl):
  PI X (.Tuple elts kk p') (.Call (.Name "enumerate" p) [a] [] pos) (RL X.K ta):=by
 intro pins s σ H R I h
 refine Call_ (jK I hg hm boot_enumerate (PyProof.Rows.callWith_type1 (thn (ha pos pins s σ H _ I h) λus s1 ⟨vs,H1,I1,r1,q1⟩=>?_) (by rw[hs];rfl) (by rfl)))
 obtain⟨a1,c,rfl,⟨xs,hx⟩,q⟩:=q1
 obtain⟨u,rfl,ru⟩:=vals1 r1
 cases ru
 obtain⟨its,_,p1,_⟩:=I1.sqB hx
 refine Aa p1 λh' g1 g2 g3=>?_
 refine wpAny_pyIter_enum g1 ?_
 refine⟨_,[s1.heap.objs.size+1,s1.heap.objs.size],_,_,H1,rfl,I1.kept (t':=s1.toks) g3,Eo c _ _ a1 (Nat.ne_of_gt (by omega)),⟨⟨_,g1⟩,g2⟩,λb hb=>?_,q⟩
 have hb':s1.heap.objs.size<=b:=by
  simp only[Zi,List.not_mem_nil,or_false]at hb
  rcases hb with q|q<;>rw[q]<;>first|exact Nat.le_add_right _ _|exact Zg _
 exact I1.fpOk hb' (I1.hok.fresh hb')
end
end L2
namespace L3
open PySem PySem.Spec PyProof.Rows L2
def dh(k:Nat):List D->List D
 | []=>[]
 |d::ds=>.tup [.int k,d]::dh (k+1) ds
theorem qD:∀{ds:List D}{k i:Nat}{d:D},(dh k ds)[i]? =some d->∃x,d= .tup [.int ((k+i:Nat):Int),x]/\ds[i]? =some x
 | [],k,i,d,h=>by simp[dh]at h
 |x::ds,k,0,d,h=>by
  have h:some (D.tup [.int (k:Int),x])=some d:=by simpa[dh]using h
  cases h
  exact⟨x,rfl,rfl⟩
 |x::ds,k,i+1,d,h=>by
  obtain⟨y,e,q⟩:=qD (ds:=ds) (k:=k+1) (i:=i) (by simpa[dh]using h)
  exact⟨y,by rw[e];congr 4;omega,by simpa using q⟩
theorem qG:∀(ds:List D)(k:Nat),(dh k ds).length=ds.length
 | [],k=>rfl
 |d::ds,k=>by simp[dh,qG ds]
def kh(fs:AF):IF:=λδ μ=>(fs δ μ).bind λr=>match r.1 with
 | [x]=>(bO x).map λxs=>(⟨dh 0 xs,none⟩,r.2)
 |_=>none
theorem lZ{X:Cx}{tb:List Addr}{a:Expr}{fs:AF}{p pos:Pos}{p':Pos}{elts:List Expr}{kk:Nat}(hm:X.mg "enumerate"=none)(ha:PAD X tb [a] fs)(hg:Gl X "enumerate":=by rfl)(hs:starEach [a] X.env=[(false,eval a X.env)]:=by rfl):
  PID X tb (.Tuple elts kk p') (.Call (.Name "enumerate" p) [a] [] pos) (kh fs):=
 yx (JR hg hm ha hs) λσ H R zq2=>by
  obtain⟨W,δ,S,μ',e,ok,hd,hf,h⟩:=zq2
  unfold kh at hf
  obtain⟨⟨zs,μ1⟩,e1,hf⟩:=Za.mp hf
  match zs,e1,hf with
  | [x],e1,hf=>
   obtain⟨xs,e2,e4⟩:=Zp.mp (show(bO x).map (λxs=>((⟨dh 0 xs,none⟩:Src),μ1))=some (S,μ')from hf)
   cases e4
   refine⟨W,δ,[x],_,e,ok,hd,e1,λvs W1 ok1 l1 m1 d1=>?_⟩
   obtain⟨u,rfl,du⟩:=az.one d1
   obtain⟨a1,us,rfl,q1,r1⟩:=Bc du e2
   refine⟨a1,_,rfl,⟨us,jb q1 (Le.refl _)⟩,h _ W1 ok1 l1 m1 ⟨λi W2 d l ok2 _ ei=>?_,λi W2 l ok2 _ hi=>?_⟩⟩
   .obtain⟨x0,rfl,ex⟩:=qD ei
    obtain⟨vx,evx,dvx⟩:=az.get (bV.mono' r1 l) ex
    refine⟨⟨us,vx,jb q1 l,evx⟩,λz H' ⟨p,x',ez,hp,eH,hx'⟩=>?_⟩
    have ex':=hx' us (jb q1 l)
    rw[evx]at ex';cases ex'
    obtain⟨ok3,l3,e3⟩:=ok2.alloc (o:=.tup [.int i,vx]) hp
    refine⟨_,eH.symm,ok3,l3,rfl,?_⟩
    rw[ez]
    show aZ _ _ _ _ _
    unfold aZ
    refine⟨p,[.int i,vx],rfl,.inl (.inl e3),bV.mono' (az.cons ?_ (az.cons dvx az.nil)) l3⟩
    have:((0+i:Nat):Int)=(i:Int):=by omega
    rw[this]
    exact dW
   .have hi':xs.length<=i:=by rw[<-qG xs 0];exact hi
    have l1':=az.length r1
    exact⟨us,jb q1 l,by omega⟩
abbrev PF:=En->Mu->Option (Option Int×Mu)
def tDO(K:PySem.W.Frag)(tb:List Addr)(f:PF):TO:=λσ H Q=>∃W δ i μ',W.H=H/\WOk K tb W/\iM K tb W δ σ/\f δ W.mu=some (i,μ')/\∀W',WOk K tb W'->Le tb W W'->W'.mu=μ'->Q i W'.H
def POD(X:Cx)(tb:List Addr)(e:Option Expr)(f:PF):Prop:=PO X e (tDO X.K tb f)
theorem Mw{X:Cx}{e:Option Expr}{t t':TO}(h:PO X e t)(k:∀σ H Q,t' σ H Q->t σ H Q):PO X e t':=λpins s σ H Q I hq=>h pins s σ H Q I (k σ H Q hq)
def fNo:PF:=λ_ μ=>some (none,μ)
def fAt(f:EF):PF:=λδ μ=>(f δ μ).bind λr=>match r.1 with
 | .int i=>some (some i,r.2)
 |_=>none
def cutD(ds:List D)(lo hi:Option Int):List D:=(ds.drop (HT.sIx ds.length 0 lo)).take (HT.sIx ds.length ds.length hi-HT.sIx ds.length 0 lo)
def oSl(x:D)(lo hi:Option Int)(μ:Mu):Option (D×Mu):=match x with
 | .tup ds=>some (.tup (cutD ds lo hi),μ)
 | .lst ds=>some (.lst (cutD ds lo hi),μ)
 | .ro ds=>some (.lst (cutD ds lo hi),μ)
 | .cell n=>match μ[n]? with
  |some (some ds)=>some (.lst (cutD ds lo hi),μ)
  |_=>none
 |_=>none
def mSl(f:EF)(fl fh:PF):EF:=λδ μ=>(f δ μ).bind λr=>(fl δ r.2).bind λl=>(fh δ l.2).bind λu=>oSl r.1 l.1 u.1 u.2
section
variable {X:Cx} {tb:List Addr} {e:Expr} {lo hi:Option Expr} {f:EF} {fl fh:PF} {pos p2:Pos}
theorem jJ:POD X tb none fNo:=Mw Js λσ H Q zq1=>by
 obtain⟨W,δ,i,μ',e,ok,hd,hf,h⟩:=zq1
 subst e;cases hf
 exact h W ok (Le.refl _) rfl
theorem jA(h:PD X tb e f):POD X tb (some e) (fAt f):=Mw (Lj h) λσ H Q zq2=>by
 obtain⟨W,δ,i,μ',e,ok,hd,hf,h⟩:=zq2
 unfold fAt at hf
 obtain⟨⟨x,μ1⟩,e1,e2⟩:=Za.mp hf
 cases x with
 |int j=>
  cases e2
  exact⟨W,δ,_,_,e,ok,hd,e1,λv W1 ok1 l1 m1 d1=>⟨j,bf d1,h W1 ok1 l1 m1⟩⟩
 |_=>cases e2
theorem rP{K:PySem.W.Frag}{W:Wd}{ds:List D}{vs:List V}{l h:Option Int}(r:bV K tb W ds vs):bV K tb W (cutD ds l h) (yK vs l h):=by
 unfold cutD yK
 rw[<-az.length r]
 exact az.take _ (az.drop _ r)
theorem jx(he:PD X tb e f)(hl:POD X tb lo fl)(hh:POD X tb hi fh):PD X tb (.Subscript e (.Slice lo hi none p2) pos) (mSl f fl fh):=
 fY (Fb (Pn.or (JB.or Jl)) he hl hh) λσ H Q zq3=>by
  obtain⟨W,δ,d,μ',e,ok,hd,hf,h⟩:=zq3
  unfold mSl at hf
  obtain⟨⟨x,μ1⟩,e1,hf⟩:=Za.mp hf
  obtain⟨⟨l,μ2⟩,e2,hf⟩:=Za.mp hf
  obtain⟨⟨u,μ3⟩,e3,hf⟩:=Za.mp hf
  refine⟨W,δ,x,μ1,e,ok,hd,e1,λv W1 ok1 l1 m1 d1=>⟨W1,δ,l,μ2,rfl,ok1,hd.mono' l1,(by rw[m1];exact e2),λW2 ok2 l2 m2=>⟨W2,δ,u,μ3,rfl,ok2,hd.mono' (l1.trans l2),(by rw[m2];exact e3),λW3 ok3 l3 m3=>?_⟩⟩⟩
  have d3:=Den.mono' d1 (l2.trans l3)
  have k:∀v W',WOk X.K tb W'->Le tb W3 W'->W'.mu=W3.mu->Den X.K tb W' d v->W3.mu=μ'->Q v W'.H:=λv W' ok' l' m' d' q=>h v W' ok' (((l1.trans l2).trans l3).trans l') (m'.trans q) d'
  cases x with
  |tup ds=>
   obtain⟨a,xs,rfl,q,r⟩:=iB d3
   cases hf
   by_cases hw:HT.sIx ds.length 0 l=0/\HT.sIx ds.length ds.length u=ds.length
   .have e:cutD ds l u=ds:=by unfold cutD;rw[hw.1,hw.2];simp
    exact .inr (.inl ⟨a,xs,rfl,SqT.fz q,by rw[<-az.length r];exact hw,k (.ref a) W3 ok3 (Le.refl _) rfl (by rw[e];exact d3) m3⟩)
   .exact .inl ⟨a,xs,rfl,SqT.fz q,by rw[<-az.length r];exact hw,λp hp=>ni ok3 (λv W' ok' l' m' d'=>k v W' ok' l' m' d' m3) (rP r) hp⟩
  |lst ds=>
   obtain⟨a,xs,rfl,q,r⟩:=mL d3
   cases hf
   exact .inr (.inr ⟨a,xs,rfl,SqL.fz q,λp hp=>jk ok3 (λv W' ok' l' m' d'=>k v W' ok' l' m' d' m3) (rP r) hp⟩)
  |ro ds=>
   obtain⟨a,xs,rfl,q,r⟩:=uW d3
   cases hf
   exact .inr (.inr ⟨a,xs,rfl,SqL.fz q,λp hp=>jk ok3 (λv W' ok' l' m' d'=>k v W' ok' l' m' d' m3) (rP r) hp⟩)
  |cell n=>
   obtain⟨a,rfl,q⟩:=gZ d3
   have hf:(match μ3[n]? with|some (some ds)=>some (D.lst (cutD ds l u),μ3)|_=>none)=some (d,μ'):=hf
   cases e4:μ3[n]? with
   |none=>rw[e4]at hf;cases hf
   |some o=>
    rw[e4]at hf
    cases o with
    |none=>cases hf
    |some ds=>
     cases hf
     obtain⟨xs,ex,r⟩:=ok3.cont n a ds q (by rw[m3];exact e4)
     exact .inr (.inr ⟨a,xs,rfl,SqL.of ex,λp hp=>jk ok3 (λv W' ok' l' m' d'=>k v W' ok' l' m' d' m3) (rP r) hp⟩)
  |_=>cases hf
end
theorem Qk{X:Cx}:OpR X (compareOp .Is) (λx y H Q=>∃b c,x= .bl b/\y= .bl c/\Q (.bl (b==c)) H):=by
 intro pins s σ H x y v u Q I rx ry h
 obtain⟨b,c,rfl,rfl,q⟩:=h
 cases rx;cases ry
 exact is_bool ⟨.bl (b==c),H,I,rfl,q⟩
theorem Dp{X:Cx}:OpR X (compareOp .IsNot) (λx y H Q=>∃b c,x= .bl b/\y= .bl c/\Q (.bl (b != c)) H):=by
 intro pins s σ H x y v u Q I rx ry h
 obtain⟨b,c,rfl,rfl,q⟩:=h
 cases rx;cases ry
 exact isnot_bool ⟨.bl (b != c),H,I,rfl,q⟩
def gC:D->Bool
 | .non=>true
 |_=>false
def oIs:O2
 | .bl b,.bl c,μ=>some (.bl (b==c),μ)
 |x,.non,μ=>some (.bl (gC x),μ)
 |_,_,_=>none
def lu:O2
 | .bl b,.bl c,μ=>some (.bl (b != c),μ)
 |x,.non,μ=>some (.bl (!gC x),μ)
 |_,_,_=>none
theorem wy{K:PySem.W.Frag}{tb:List Addr}{W:Wd}{x:D}{v:V}(h:Den K tb W x v):decide (v= .non)=gC x:=by
 cases x with
 |non=>rw[kj h];rfl
 |bl b=>rw[ir h];rfl
 |int i=>rw[bf h];rfl
 |str z=>rw[jX h];rfl
 |tup ds=>obtain⟨a,xs,rfl,_⟩:=iB h;rfl
 |lst ds=>obtain⟨a,xs,rfl,_⟩:=mL h;rfl
 |ro ds=>obtain⟨a,xs,rfl,_⟩:=uW h;rfl
 |dic ds=>obtain⟨a,xs,rfl,_⟩:=Ja h;rfl
 |cell n=>obtain⟨a,rfl,_⟩:=gZ h;rfl
theorem Ey{x y d:D}{μ μ':Mu}(h:oIs x y μ=some (d,μ')):μ'=μ/\((∃b c,x= .bl b/\y= .bl c/\d= .bl (b==c))∨(y= .non/\d= .bl (gC x))):=by
 unfold oIs at h
 split at h
 .cases h;exact⟨rfl,.inl ⟨_,_,rfl,rfl,rfl⟩⟩
 .cases h;exact⟨rfl,.inr ⟨rfl,rfl⟩⟩
 .cases h
theorem xH{x y d:D}{μ μ':Mu}(h:lu x y μ=some (d,μ')):μ'=μ/\((∃b c,x= .bl b/\y= .bl c/\d= .bl (b != c))∨(y= .non/\d= .bl (!gC x))):=by
 unfold lu at h
 split at h
 .cases h;exact⟨rfl,.inl ⟨_,_,rfl,rfl,rfl⟩⟩
 .cases h;exact⟨rfl,.inr ⟨rfl,rfl⟩⟩
 .cases h
theorem GP{X:Cx}{tb:List Addr}:OpD X tb (compareOp .Is) oIs:=⟨_,Qk.or NT,λW x y v u d μ' Q ok dx dy ho h=>by
 obtain⟨rfl,⟨b,c,rfl,rfl,rfl⟩|⟨rfl,rfl⟩⟩:=Ey ho
 .exact .inl ⟨b,c,ir dx,ir dy,put ok h eO⟩
 .refine .inr ⟨kj dy,?_⟩
  rw[wy dx]
  exact put ok h eO⟩
theorem za{X:Cx}{tb:List Addr}:OpD X tb (compareOp .IsNot) lu:=⟨_,Dp.or Kl,λW x y v u d μ' Q ok dx dy ho h=>by
 obtain⟨rfl,⟨b,c,rfl,rfl,rfl⟩|⟨rfl,rfl⟩⟩:=xH ho
 .exact .inl ⟨b,c,ir dx,ir dy,put ok h eO⟩
 .refine .inr ⟨kj dy,?_⟩
  rw[wy dx]
  exact put ok h eO⟩
end L3
namespace L2
open PySem PySem.Spec PyProof.Rows
abbrev VV:List (V×V)->List (Value×Value)->Prop:=Paired λp q=>RelV p.1 q.1/\RelV p.2 q.2
end L2
namespace L3
open PySem PySem.Spec PyProof.Rows L2
def BV(f:EF):EF:=λδ μ=>(f δ μ).bind λr=>match r.1 with
 | .cell n=>(r.2.getD n none).map λds=>(.lst ds,r.2.set n none)
 |d=>some (d,r.2)
theorem Aw{X:Cx}{tb:List Addr}{e:Expr}{f:EF}(h:PD X tb e f):PD X tb e (BV f):=
 fY h λσ H Q zq1=>by
  obtain⟨W,δ,d,μ',e,ok,hd,hf,k⟩:=zq1
  unfold BV at hf
  obtain⟨⟨x,μ1⟩,e1,e2⟩:=Za.mp hf
  refine⟨W,δ,x,μ1,e,ok,hd,e1,λv W1 ok1 l1 m1 d1=>?_⟩
  cases x with
  |cell n=>
   obtain⟨ds,e3,e4⟩:=Zp.mp e2
   cases e4
   obtain⟨a,rfl,ea⟩:=gZ d1
   have em:W1.mu[n]? =some (some ds):=by
    rw[m1]
    rw[List.getD_eq_getElem?_getD]at e3
    cases q:μ1[n]? with
    |none=>rw[q]at e3;cases e3
    |some z=>rw[q]at e3;exact congrArg some e3
   obtain⟨ok2,l2,d2⟩:=ok1.freeze ea em
   exact k _ ⟨W1.H,W1.ad,W1.mu.set n none⟩ ok2 (l1.trans l2) (by show W1.mu.set n none=_;rw[m1]) d2
  |_=>cases e2;exact k v W1 ok1 l1 m1 d1
mutual
def cLt(m:Nat):D->Bool
 | .tup ds=>nj m ds
 | .lst ds=>nj m ds
 | .ro ds=>nj m ds
 | .dic kvs=>yo m kvs
 | .cell n=>decide (n<m)
 |_=>true
def nj(m:Nat):List D->Bool
 | []=>true
 |d::ds=>cLt m d&&nj m ds
def yo(m:Nat):List (Key×D)->Bool
 | []=>true
 |p::ds=>cLt m p.2&&yo m ds
end
section
variable {K:PySem.W.Frag} {F F':Hp} {ad:List Addr} {m:Nat}
mutual
theorem aZ.cut(s:lN F F'):∀(d:D)(v:V),cLt m d=true->aZ K F ad d v->aZ K F' (ad.take m) d v
 | .non,v,_,h=>by unfold aZ at h ⊢;exact h
 | .bl _,v,_,h=>by unfold aZ at h ⊢;exact h
 | .int _,v,_,h=>by unfold aZ at h ⊢;exact h
 | .str _,v,_,h=>by unfold aZ at h ⊢;exact h
 | .tup ds,v,c,h=>by
  unfold aZ at h ⊢;unfold cLt at c
  obtain⟨a,xs,e,q,r⟩:=h
  exact⟨a,xs,e,SqT.mono s q,az.cut s ds xs c r⟩
 | .lst ds,v,c,h=>by
  unfold aZ at h ⊢;unfold cLt at c
  obtain⟨a,xs,e,q,r⟩:=h
  exact⟨a,xs,e,s _ _ q,az.cut s ds xs c r⟩
 | .ro ds,v,c,h=>by
  unfold aZ at h ⊢;unfold cLt at c
  obtain⟨a,xs,e,q,r⟩:=h
  exact⟨a,xs,e,SqL.mono s q,az.cut s ds xs c r⟩
 | .dic kvs,v,c,h=>by
  unfold aZ at h ⊢;unfold cLt at c
  obtain⟨a,ps,e,q,r⟩:=h
  exact⟨a,ps,e,s _ _ q,iJ.cut s kvs ps c r⟩
 | .cell n,v,c,h=>by
  unfold aZ at h ⊢;unfold cLt at c
  obtain⟨a,e,q⟩:=h
  exact⟨a,e,by rw[List.getElem?_take_of_lt (by simpa using c)];exact q⟩
theorem az.cut(s:lN F F'):∀(ds:List D)(vs:List V),nj m ds=true->az K F ad ds vs->az K F' (ad.take m) ds vs
 | [],vs,_,h=>by unfold az at h ⊢;exact h
 |d::ds,vs,c,h=>by
  unfold az at h ⊢;unfold nj at c
  have c:=(Zo _ _).mp c
  obtain⟨u,us,e,p,r⟩:=h
  exact⟨u,us,e,aZ.cut s d u c.1 p,az.cut s ds us c.2 r⟩
theorem iJ.cut(s:lN F F'):∀(ds:List (Key×D))(vs:List (Key×V)),yo m ds=true->iJ K F ad ds vs->iJ K F' (ad.take m) ds vs
 | [],vs,_,h=>by unfold iJ at h ⊢;exact h
 |p::ds,vs,c,h=>by
  unfold iJ at h ⊢;unfold yo at c
  have c:=(Zo _ _).mp c
  obtain⟨u,us,e,⟨p1,p2⟩,r⟩:=h
  exact⟨u,us,e,⟨p1,aZ.cut s p.2 u.2 c.1 p2⟩,iJ.cut s ds us c.2 r⟩
end
end
def cOk(m:Nat)(μ:Mu):Bool:=μ.all λo=>match o with
 |some ds=>nj m ds
 |none=>true
theorem WOk.cut{K:PySem.W.Frag}{tb:List Addr}{W:Wd}{m:Nat}(ok:WOk K tb W)(c:cOk m (W.mu.take m)=true):
  WOk K tb ⟨W.H,W.ad.take m,W.mu.take m⟩/\lN (W.fz tb) (Wd.fz tb ⟨W.H,W.ad.take m,W.mu.take m⟩):=by
 have lv:∀b,nF (W.ad.take m) (W.mu.take m) b->nF W.ad W.mu b:=λb zq2=>by
  obtain⟨i,es,e1,e2⟩:=zq2
  have h1:i<m:=by have:=(Zh.mp e1).1;simp at this;omega
  rw[List.getElem?_take_of_lt h1]at e1 e2
  exact⟨i,es,e1,e2⟩
 have sm:lN (W.fz tb) (Wd.fz tb ⟨W.H,W.ad.take m,W.mu.take m⟩):=λb u e=>by
  obtain⟨e1,e2,e3⟩:=eQ e
  have q:=pO (tb:=tb) (W:=⟨W.H,W.ad.take m,W.mu.take m⟩) (b:=b) (λz=>e2 (lv b z)) e3
  rw[q];exact e1
 refine⟨⟨by simp[ok.len],λi a ds e1 e2=>?_,λi j a ds es e1 e2 e3 e4=>?_,ok.tab⟩,sm⟩
 .have h1:i<m:=by have:=(Zh.mp e1).1;simp at this;omega
  have cd:nj m ds=true:=by
   have:=List.all_eq_true.mp c (some ds) (List.mem_of_getElem? e2)
   exact this
  have e1':(W.ad.take m)[i]? =some a:=e1
  have e2':(W.mu.take m)[i]? =some (some ds):=e2
  rw[List.getElem?_take_of_lt h1]at e1' e2'
  obtain⟨xs,e,r⟩:=ok.cont i a ds e1' e2'
  exact⟨xs,e,az.cut sm ds xs cd r⟩
 .have h1:i<m:=by have:=(Zh.mp e1).1;simp at this;omega
  have h2:j<m:=by have:=(Zh.mp e2).1;simp at this;omega
  have e1':(W.ad.take m)[i]? =some a:=e1
  have e2':(W.ad.take m)[j]? =some a:=e2
  have e3':(W.mu.take m)[i]? =some (some ds):=e3
  have e4':(W.mu.take m)[j]? =some (some es):=e4
  rw[List.getElem?_take_of_lt h1]at e1' e3'
  rw[List.getElem?_take_of_lt h2]at e2' e4'
  exact ok.inj i j a ds es e1' e2' e3' e4'
def trunc(φ:FF):FF:=λds μ=>(φ ds μ).bind λr=>if(cLt μ.length r.1&&cOk μ.length (r.2.take μ.length))=true then some (r.1,r.2.take μ.length)else some r
theorem FI.trunc{P:Program}{w:World}{K:PySem.W.Frag}{mg:Str->Option Value}{base:Heap}{tb:List Addr}{x:Str}{n k:Nat}{φ:FF}(F:FI P w K mg base tb x n k φ):FI P w K mg base tb x n k (trunc φ):=by
 obtain⟨f,fd,ps,h1,h2⟩:=F.is
 refine⟨f,fd,ps,h1.imp λvs H Q E ⟨W,ds,d,μ',e,ok,dl,hl,hf,k⟩=>?_,h2⟩
 unfold L3.trunc at hf
 obtain⟨⟨d1,μ1⟩,e1,e2⟩:=Za.mp hf
 split at e2
 .rename_i hc
  have hc:=(Zo _ _).mp hc
  cases e2
  refine⟨W,ds,d1,μ1,e,ok,dl,hl,e1,λv W' ok' l' m' d'=>?_⟩
  obtain⟨ok2,sm⟩:=ok'.cut (m:=W.mu.length) (by rw[m'];exact hc.2)
  exact k v ⟨W'.H,W'.ad.take W.mu.length,W'.mu.take W.mu.length⟩ ok2 ⟨l'.same.trans sm,λi x q=>by
   have hi:i<W.mu.length:=by rw[<-ok.len];exact(Zh.mp q).1
   show(W'.ad.take W.mu.length)[i]? =some x
   rw[List.getElem?_take_of_lt hi];exact l'.ad i x q⟩ (by show W'.mu.take _=_;rw[m']) (aZ.cut sm d1 v hc.1 d')
 .cases e2
  exact⟨W,ds,d,μ',e,ok,dl,hl,e1,k⟩
noncomputable def Em:Nat->(FF->FF)->FF
 |0,_=>λ_ _=>none
 |n+1,F=>F (Em n F)
theorem qt{φ:FF}{ds:List D}{μ μ':Mu}{d:D}(h:φ ds μ=some (d,μ'))(hl:μ'.length=μ.length):trunc φ ds μ=some (d,μ'):=by
 unfold trunc
 rw[h]
 simp only[Option.bind_some]
 rw[<-hl,List.take_length]
 split<;>rfl
theorem dJ{φ:FF}{ds:List D}{μ:Mu}{d:D}(h:φ ds μ=some (d,μ)):trunc φ ds μ=some (d,μ):=qt h rfl
def Ko(x:D)(μ:Mu):Option (D×Mu):=(cj x μ).map λds=>(if xZ x then .tup ds.reverse else .lst ds.reverse,μ)
def Sy(f:EF):EF:=M1 f Ko
theorem zM{K:PySem.W.Frag}{F:Hp}{ad:List Addr}:∀{ds:List D}{vs:List V}{d:D}{v:V}(j:Nat),az K F ad ds vs->aZ K F ad d v->az K F ad (ds.set j d) (vs.set j v)
 | [],vs,d,v,j,r,h=>by
  unfold az at r
  subst r
  exact az.nil
 |x::ds,vs,d,v,j,r,h=>by
  unfold az at r
  obtain⟨u,us,rfl,p,r⟩:=r
  cases j with
  |zero=>exact az.cons h r
  |succ j=>exact az.cons p (zM j r h)
def Hf(x o i:D)(μ:Mu):Option Mu:=match o,i with
 | .cell n,.int k=>match μ[n]? with
  |some (some ds)=>(ixN ds.length k).map λj=>μ.set n (some (ds.set j x))
  |_=>none
 |_,_=>none
def BR(f fo fi:EF):SF:=λδ μ=>(f δ μ).bind λr=>(fo δ r.2).bind λo=>(fi δ o.2).bind λi=>(Hf r.1 o.1 i.1 i.2).map λμ'=>(.nx,δ,μ')
theorem Ck{X:Cx}{tb:List Addr}{o i e:Expr}{f fo fi:EF}{pos pos':Pos}(he:PD X tb e f)(ho:PD X tb o fo)(hi:PD X tb i fi)
  (ha:∀v,assign (.Subscript o i pos') X.env v=(do
   let ov<-holding [v] (eval o X.env)
   let iv<-holding [v,ov] (eval i X.env)
   standAt pos'
   holding [v,ov,iv] (setItem ov iv v)
   release [v,ov,iv] []):=by intro _;rfl)
  (hs:swapsWithSole [.Subscript o i pos'] e pos.line X.env=pure false:=by rfl) (hw:swappedStores [.Subscript o i pos'] e X.env=pure none:=by rfl)
  (h1:(assignEach [.Subscript o i pos'] X.env).map (·.2)=[assign (.Subscript o i pos') X.env]:=by rfl):PSD X tb (.Assign [.Subscript o i pos'] e pos) (BR f fo fi):=
 jV (IV he (Qn ho hi set_list ha) hs hw h1) λE σ H zq1=>by
  obtain⟨W,δ,fl,δ',μ',e,ok,hd,hf,h⟩:=zq1
  unfold BR at hf
  obtain⟨⟨x,μ1⟩,e1,hf⟩:=Za.mp hf
  obtain⟨⟨c,μ2⟩,e2,hf⟩:=Za.mp hf
  obtain⟨⟨k,μ3⟩,e3,hf⟩:=Za.mp hf
  obtain⟨μ4,e4,e5⟩:=Zp.mp hf
  cases e5
  refine⟨W,δ,x,μ1,e,ok,hd,e1,λv W1 ok1 l1 m1 d1=>⟨W1,δ,c,μ2,rfl,ok1,hd.mono' l1,(by rw[m1];exact e2),λu W2 ok2 l2 m2 d2=>⟨W2,δ,k,μ3,rfl,ok2,hd.mono' (l1.trans l2),(by rw[m2];exact e3),λy W3 ok3 l3 m3 d3=>?_⟩⟩⟩
  have d2:=Den.mono' d2 l3
  have d1:=Den.mono' d1 (l2.trans l3)
  cases c with
  |cell n=>
   cases k with
   |int k=>
    have e4':(match μ3[n]? with|some (some ds)=>(ixN ds.length k).map λj=>μ3.set n (some (ds.set j x))|_=>none)=some μ':=e4
    cases e6:μ3[n]? with
    |none=>rw[e6]at e4';cases e4'
    |some oo=>
     cases oo with
     |none=>rw[e6]at e4';cases e4'
     |some ds=>
      rw[e6]at e4'
      obtain⟨j,e7,e8⟩:=Zp.mp e4'
      obtain⟨a,rfl,q⟩:=gZ d2
      have e6:W3.mu[n]? =some (some ds):=by rw[m3];exact e6
      obtain⟨xs,ex,r⟩:=ok3.cont n a ds q e6
      refine⟨a,xs,k,j,rfl,bf d3,ex,by rw[<-az.length r];exact e7,?_⟩
      obtain⟨ok4,l4⟩:=ok3.write q e6 (zM j r d1)
      exact h _ _ ok4 (((l1.trans l2).trans l3).trans l4) (by rw[<-e8,<-m3]) (hd.mono' (((l1.trans l2).trans l3).trans l4))
   |_=>cases e4
  |_=>cases e4
def Dy(i:Nat)(f:EF)(op:O2):SF:=λδ μ=>match δ[i]? with
 |some (some x)=>(f δ μ).bind λr=>(op x r.1 r.2).map λz=>(.nx,δ.set i (some z.1),z.2)
 |_=>none
def SM:O2
 | .int i,.int j,μ=>some (.int (i+j),μ)
 |_,_,_=>none
def Cj:O2
 | .int i,.int j,μ=>if ji i j<=134217728 then some (.int (i*j),μ)else none
 |_,_,_=>none
theorem Kf{X:Cx}:PIp X .Mult (λx y H Q=>∃i j,x= .int i/\y= .int j/\ji i j<=134217728/\Q (.int (i*j)) H):=by
 intro pins s σ H x y v u Q I r1 r2 h
 obtain⟨i,j,e1,e2,hb,q⟩:=h
 subst e1;subst e2
 obtain⟨t,rfl⟩:=r1
 obtain⟨t',rfl⟩:=r2
 exact imul_int ⟨.int _,H,I.tok _,⟨_,rfl⟩,q⟩ (IntMulOk.of_le (Zg _) (Zg _) hb)
section
variable {X:Cx} {tb:List Addr} {e:Expr} {f:EF} {pos pos':Pos} {i:Nat} {x:Str}
theorem Ol{op:Operator}{o:O2}{ti:TIp}(hN:X.N.Nodup)(he:PD X tb e f)(hip:PIp X op ti)(hi:X.N[i]? =some x)(hx:Loc X.env.scope x)(hf:X.fn x=true∨X.env.scope.names.lookup x=some .local)
  (ho:∀x y μ d μ',o x y μ=some (d,μ')->μ'=μ/\∃a b c,x= .int a/\y= .int b/\d= .int c/\∀H Q,Q (.int c) H->ti (.int a) (.int b) H Q):PSD X tb (.AugAssign (.Name x pos') op e pos) (Dy i f o):=
 jV (Qo hN hi hx he hip hf) λE σ H zq2=>by
  obtain⟨W,δ,fl,δ',μ',e,ok,hd,hf,h⟩:=zq2
  unfold Dy at hf
  cases e0:δ[i]? with
  |none=>rw[e0]at hf;cases hf
  |some oo=>
   cases oo with
   |none=>rw[e0]at hf;cases hf
   |some z=>
    rw[e0]at hf
    obtain⟨⟨y,μ1⟩,e1,hf⟩:=Za.mp hf
    obtain⟨⟨d,μ2⟩,e2,e3⟩:=Zp.mp hf
    obtain⟨rfl,a,b,c,rfl,rfl,rfl,q⟩:=ho _ _ _ _ _ e2
    cases e3
    obtain⟨v,ev,dv⟩:=hd.2 i _ e0
    rw[bf dv]at ev
    refine⟨.int a,ev,W,δ,_,_,e,ok,hd,e1,λu W1 ok1 l1 m1 d1=>?_⟩
    rw[bf d1]
    exact q _ _ (h _ W1 ok1 l1 m1 ((hd.mono' l1).set dW))
theorem Bf(hN:X.N.Nodup)(he:PD X tb e f)(hi:X.N[i]? =some x:=by rfl)(hx:Loc X.env.scope x:=by first|exact Or.inl rfl|exact Or.inr rfl)(hf:X.fn x=true∨X.env.scope.names.lookup x=some .local:=by first|exact .inl rfl|exact .inr rfl|assumption):PSD X tb (.AugAssign (.Name x pos') .Mult e pos) (Dy i f Cj):=
 Ol hN he Kf hi hx hf λx y μ d μ' h=>by
  unfold Cj at h
  split at h
  .split at h
   .rename_i hb
    cases h
    exact⟨rfl,_,_,_,rfl,rfl,rfl,λH Q q=>⟨_,_,rfl,rfl,hb,q⟩⟩
   .cases h
  .cases h
end
def qT:D->Bool
 | .non=>true
 | .bl _=>true
 | .int _=>true
 | .str _=>true
 |_=>false
def eqF:D->D->Bool
 | .non,.non=>true
 | .bl a,.bl b=>a==b
 | .bl a,.int b=>(if a then 1 else 0)==b
 | .int a,.bl b=>a==(if b then 1 else 0)
 | .int a,.int b=>a==b
 | .str a,.str b=>a==b
 |_,_=>false
def inF(x:D)(ds:List D):Bool:=ds.any λy=>eqF y x
def oIn(neg:Bool):O2:=λx y μ=>(cj y μ).bind λds=>if qT x=true/\ds.all qT=true then some (.bl (if neg then !inF x ds else inF x ds),μ)else none
section
variable {K:PySem.W.Frag} {tb:List Addr} {W:Wd}
theorem tU{x:D}{v:V}(h:Den K tb W x v)(f:qT x=true):nO v=true/\(∀y u,Den K tb W y u->qT y=true->eqV v u=eqF x y):=by
 cases x with
 |non=>rw[kj h];refine⟨rfl,λy u d g=>?_⟩;cases y<;>first|(rw[kj d];rfl)|(rw[ir d];rfl)|(rw[bf d];rfl)|(rw[jX d];rfl)|cases g
 |bl b=>rw[ir h];refine⟨rfl,λy u d g=>?_⟩;cases y<;>first|(rw[kj d];rfl)|(rw[ir d];rfl)|(rw[bf d];rfl)|(rw[jX d];rfl)|cases g
 |int b=>rw[bf h];refine⟨rfl,λy u d g=>?_⟩;cases y<;>first|(rw[kj d];rfl)|(rw[ir d];rfl)|(rw[bf d];rfl)|(rw[jX d];rfl)|cases g
 |str b=>rw[jX h];refine⟨rfl,λy u d g=>?_⟩;cases y<;>first|(rw[kj d];rfl)|(rw[ir d];rfl)|(rw[bf d];rfl)|(rw[jX d];rfl)|cases g
 |_=>cases f
theorem qw{x:D}{v:V}(h:Den K tb W x v)(f:qT x=true):∀{ds:List D}{vs:List V},bV K tb W ds vs->ds.all qT=true->vs.all nO=true/\inV v vs=inF x ds
 | [],vs,r,_=>by
  have r':az _ _ _ _ _:=r
  unfold az at r'
  subst r'
  exact⟨rfl,rfl⟩
 |d::ds,vs,r,g=>by
  have r':az _ _ _ _ _:=r
  unfold az at r'
  obtain⟨u,us,rfl,p,r2⟩:=r'
  rw[List.all_cons,Zo]at g
  obtain⟨h1,h2⟩:=qw h f (show bV K tb W ds us from r2) g.2
  obtain⟨h3,h4⟩:=tU (show Den K tb W d u from p) g.1
  refine⟨by rw[List.all_cons,h3,h1];rfl,?_⟩
  show(eqV u v||inV v us)=(eqF d x||inF x ds)
  rw[h4 x v h f,h2]
end
theorem Uk{X:Cx}{tb:List Addr}:OpD X tb (compareOp .In) (oIn false):=⟨_,Dq,λW x y v u d μ' Q ok dx dy ho h=>by
 unfold oIn at ho
 obtain⟨ds,e1,e2⟩:=Za.mp ho
 split at e2
 .rename_i hf
  cases e2
  obtain⟨a,xs,rfl,q,r⟩:=jo ok dy e1
  obtain⟨h1,h2⟩:=qw dx hf.1 r hf.2
  refine⟨a,xs,rfl,SqB.or q,(tU dx hf.1).1,h1,?_⟩
  rw[h2]
  exact put ok h eO
 .cases e2⟩
theorem Il{X:Cx}{tb:List Addr}:OpD X tb (compareOp .NotIn) (oIn true):=⟨_,wK,λW x y v u d μ' Q ok dx dy ho h=>by
 unfold oIn at ho
 obtain⟨ds,e1,e2⟩:=Za.mp ho
 split at e2
 .rename_i hf
  cases e2
  obtain⟨a,xs,rfl,q,r⟩:=jo ok dy e1
  obtain⟨h1,h2⟩:=qw dx hf.1 r hf.2
  refine⟨a,xs,rfl,SqB.or q,(tU dx hf.1).1,h1,?_⟩
  rw[h2]
  exact put ok h eO
 .cases e2⟩
theorem us1{α:Type}{P:List α->Prop}(h:∀a,P [a]):∀us:List α,us.length=1->P us
 | [a],_=>h a
theorem us2{α:Type}{P:List α->Prop}(h:∀a b,P [a,b]):∀us:List α,us.length=2->P us
 | [a,b],_=>h a b
theorem us3{α:Type}{P:List α->Prop}(h:∀a b c,P [a,b,c]):∀us:List α,us.length=3->P us
 | [a,b,c],_=>h a b c
theorem us4{α:Type}{P:List α->Prop}(h:∀a b c d,P [a,b,c,d]):∀us:List α,us.length=4->P us
 | [a,b,c,d],_=>h a b c d
structure Got(K:PySem.W.Frag)(x:Str)(st:Stmt)(f c P:Addr)(fd:FuncData):Prop where
 F:fu K x x st f fd P
 m:PySem.W.nsIn K mainGlobals x=some (some (.ref f))
 t:PySem.W.tabIn K x=some (c,P)
 e:∃kV dc pm an ct,fd=PySem.W.fnOf x x (jP st) (iD st) (aK st) .none kV dc pm an (.ref c) ct
theorem QL{K:PySem.W.Frag}{x:Str}{st:Stmt}{f c P:Addr}{oc:Value}{od an:Option Addr}{osl:Array (Option Value)}{kV doc pm ct:Value}{dd:Option Addr}{vs:Array Value}{sl:Array (Option Value)}(a:PySem.W.nsIn K mainGlobals x=some (some (.ref f)))
  (l:K.lookup f=some ⟨oc,od,.func (PySem.W.fnOf x x (jP st) (iD st) (aK st) .none kV doc pm an (.ref c) ct),osl⟩) (hc:PySem.W.codeIn K (.ref c) x=true) (k:PySem.W.keepIn K (.ref f)=true)
  (lc:K.lookup c=some ⟨.type "code",dd,.fields vs,sl⟩) (p:vs[11]? =some (.ref P)) (q:xF vs=true) (ne:(c != P)=true):∃f c P fd,Got K x st f c P fd:=
 ⟨f,c,P,_,Lz l hc k lc p q ne,a,NQ a l rfl lc p,kV,doc,pm,an,ct,rfl⟩
theorem Iw{own:List Str}{capI:List Nat}{σ σ1 σ2:SV}{ts1 ts2:List Nat}(h1:∀i∈ts2,i<own.length)(hd:∀i∈ts2,i∉ts1)(e1:∀i,i∉ts1->σ1[i]? =(bT own σ capI)[i]?)(hl:σ2.length=σ1.length)(e2:∀i,i∉ts2->σ2[i]? =σ1[i]?):Fits σ1 σ2:=
 ⟨hl,λi v e=>by
  by_cases hi:i∈ts2
  .rw[e1 i (hd i hi)]at e
   unfold bT at e
   rw[Zs (by simpa using h1 i hi),List.getElem?_replicate]at e
   split at e<;>cases e
  .rw[e2 i hi];exact e⟩
section
variable {X:Cx} {tb:List Addr} {elt t1 i1 t2 i2:Expr} {f1 f2:List Expr} {pos:Pos}
theorem Pg{K:PySem.W.Frag}{own:List Str}{capI:List Nat}{σ σ1:SV}{ts1 ts2:List Nat}{fi:IF}{h:GF}{tt:TF}{fe:EF}{W:Wd}{δ1:En}{S:Src}{μ5 μ6:Mu}{ds:List D}{n:Nat}{Q:List V->Hp->Prop}
  (h1:∀i∈ts2,i<own.length) (hd:∀i∈ts2,i∉ts1) (hs:∀i,i∉ts1->σ1[i]? =(bT own σ capI)[i]?)
  (ok:WOk K tb W) (d1:iM K tb W δ1 σ1) (ei:fi δ1 W.mu=some (S,μ5)) (el:lcL S h tt fe δ1 S.items μ5=some (ds,μ6)) (hn:n+ds.length<=sizeLine)
  (hQ:∀vs W',WOk K tb W'->Le tb W W'->W'.mu=μ6->bV K tb W' ds vs->Q vs W'.H):tB2 (tDI K tb fi) (tDG K tb ts2 h) (tDT K tb tt) (tB1 (tD K tb fe)) n σ1 W.H Q:=by
 refine⟨W,δ1,S,μ5,rfl,ok,d1,ei,λJ W1 ok1 l1 m1 io=>?_⟩
 refine⟨λi m ys H2=>m=S.items.length-i/\i<=S.items.length/\∃W2 zs rs,W2.H=H2/\WOk K tb W2/\Le tb W1 W2/\bV K tb W2 zs ys/\lcL S h tt fe δ1 (S.items.drop i) W2.mu=some (rs,μ6)/\zs++rs=ds,
  ⟨S.items.length,rfl,Nat.zero_le _,W1,[],ds,rfl,ok1,Le.refl _,az.nil,by rw[m1];exact el,rfl⟩,?_⟩
 rintro i m ys H2 ⟨hm,hi',W2,zs,rs,rfl,ok2,l2,d2,hn',hzs⟩
 by_cases hlt:i<S.items.length
 .right
  have hdr:S.items.drop i=S.items[i]::S.items.drop (i+1):=List.drop_eq_getElem_cons hlt
  rw[hdr]at hn'
  unfold lcL at hn'
  split at hn'
  .rename_i hok
   obtain⟨δ3,e3,hn'⟩:=Za.mp hn'
   obtain⟨⟨kk,μ4⟩,e4,hn'⟩:=Za.mp hn'
   obtain⟨go,yl⟩:=io.go i W2 S.items[i] l2 ok2 hok (by simp[hlt])
   refine⟨go,λx H' y=>?_⟩
   obtain⟨W3,rfl,ok3,l3,m3,d3⟩:=yl x H' y
   refine⟨W3,δ1,S.items[i],δ3,rfl,ok3,d1.mono' ((l1.trans l2).trans l3),d3,(by rw[m3];exact e3),λσ3 d3' hl3 ht3=>⟨Iw h1 hd hs hl3 ht3,?_⟩⟩
   refine⟨W3,δ3,kk,μ4,rfl,ok3,d3',(by rw[m3];exact e4),λW4 ok4 l4 m4=>?_⟩
   cases kk with
   |false=>
    rw[if_neg Zr]
    exact⟨S.items.length-(i+1),by omega,rfl,hlt,W4,zs,rs,rfl,ok4,(l2.trans l3).trans l4,bV.mono' d2 (l3.trans l4),by rw[m4];exact hn',hzs⟩
   |true=>
    rw[if_pos rfl]
    have hn2:((fe δ3 μ4).bind λy=>(lcL S h tt fe δ1 (S.items.drop (i+1)) y.2).bind λys=>some (y.1::ys.1,ys.2))=some (rs,μ6):=hn'
    obtain⟨⟨yd,μ7⟩,e5,hn2⟩:=Za.mp hn2
    obtain⟨⟨rs',μ8⟩,e6,e7⟩:=Za.mp hn2
    cases e7
    refine⟨?_,W4,δ3,yd,μ7,rfl,ok4,d3'.mono' l4,(by rw[m4];exact e5),λv W5 ok5 l5 m5 d5=>?_⟩
    .have hlen:zs.length=ys.length:=az.length d2
     rw[<-hzs,List.length_append,List.length_cons,hlen]at hn
     omega
    .exact⟨S.items.length-(i+1),by omega,rfl,hlt,W5,zs++[yd],rs',rfl,ok5,((l2.trans l3).trans l4).trans l5,az.append (bV.mono' d2 ((l3.trans l4).trans l5)) (az.cons d5 az.nil),by rw[m5];exact e6,by rw[List.append_assoc];exact hzs⟩
  .cases hn'
 .left
  have hdr:S.items.drop i=[]:=List.drop_of_length_le (by omega)
  rw[hdr]at hn'
  unfold lcL at hn'
  split at hn'
  .rename_i hok
   cases hn'
   rw[List.append_nil]at hzs
   subst hzs
   exact⟨io.stop i W2 l2 ok2 hok (by omega),hQ ys W2 ok2 (l1.trans l2) rfl d2⟩
  .cases hn'
open Classical in
noncomputable def uH(S:Src)(h1:GF)(tt1:TF)(fi2:IF)(h2:GF)(tt2:TF)(fe:EF)(δb:En):List D->Mu->Option (List D×Mu)
 | [],μ=>if S.ok μ then some ([],μ)else none
 |d::r,μ=>if S.ok μ then(h1 d δb μ).bind λδ1=>(tt1 δ1 μ).bind λk=>if k.1=true then(fi2 δ1 k.2).bind λq=>(lcL q.1 h2 tt2 fe δ1 q.1.items q.2).bind λys=>(uH S h1 tt1 fi2 h2 tt2 fe δb r ys.2).bind λzs=>some (ys.1++zs.1,zs.2)else uH S h1 tt1 fi2 h2 tt2 fe δb r k.2 else none
noncomputable def HR(own:List Str)(capI:List Nat)(fi1:IF)(h1:GF)(tt1:TF)(fi2:IF)(h2:GF)(tt2:TF)(fe:EF):LF:=λδ μ=>(fi1 δ μ).bind λr=>(uH r.1 h1 tt1 fi2 h2 tt2 fe (cu own δ capI) r.1.items r.2).bind λq=>if q.1.length<=sizeLine then some q else none
theorem Hr{fi1 fi2:IF}{h1 h2:GF}{tt1 tt2:TF}{fe:EF}{own:List Str}{capI ts1 ts2:List Nat}{σ:SV}{H:Hp}{Q:VK}(hts1:∀i∈ts1,i<own.length)(hts2:∀i∈ts2,i<own.length)(hdj:∀i∈ts2,i∉ts1)(hx:tDN X.K tb (HR own capI fi1 h1 tt1 fi2 h2 tt2 fe) σ H Q):
  RB own capI (tDI X.K tb fi1) (tDG X.K tb ts1 h1) (tDT X.K tb tt1) (tB2 (tDI X.K tb fi2) (tDG X.K tb ts2 h2) (tDT X.K tb tt2) (tB1 (tD X.K tb fe))) σ H Q:=by
  obtain⟨W,δ,ds,μ',e,ok,hd,hf,k⟩:=hx
  unfold HR at hf
  obtain⟨⟨S,μ1⟩,e1,hf⟩:=Za.mp hf
  obtain⟨⟨ds',μ2⟩,e2,e3⟩:=Za.mp hf
  split at e3
  .rename_i hz
   cases e3
   refine⟨W,δ,S,μ1,e,ok,hd,e1,λJ W1 ok1 l1 m1 io=>?_⟩
   refine⟨λi m ys H2=>m=S.items.length-i/\i<=S.items.length/\∃W2 zs rs,W2.H=H2/\WOk X.K tb W2/\Le tb W1 W2/\bV X.K tb W2 zs ys/\uH S h1 tt1 fi2 h2 tt2 fe (cu own δ capI) (S.items.drop i) W2.mu=some (rs,μ')/\zs++rs=ds,
    ⟨S.items.length,rfl,Nat.zero_le _,W1,[],ds,rfl,ok1,Le.refl _,az.nil,by rw[m1];exact e2,rfl⟩,?_⟩
   rintro i m ys H2 ⟨hm,hi',W2,zs,rs,rfl,ok2,l2,d2,hn,hzs⟩
   by_cases hlt:i<S.items.length
   .right
    have hdr:S.items.drop i=S.items[i]::S.items.drop (i+1):=List.drop_eq_getElem_cons hlt
    rw[hdr]at hn
    unfold uH at hn
    split at hn
    .rename_i hok
     obtain⟨δ3,e3,hn⟩:=Za.mp hn
     obtain⟨⟨kk,μ4⟩,e4,hn⟩:=Za.mp hn
     obtain⟨go,yl⟩:=io.go i W2 S.items[i] l2 ok2 hok (by simp[hlt])
     refine⟨go,λx H' y=>?_⟩
     obtain⟨W3,rfl,ok3,l3,m3,d3⟩:=yl x H' y
     refine⟨W3,cu own δ capI,S.items[i],δ3,rfl,ok3,(rQ hd).mono' ((l1.trans l2).trans l3),d3,(by rw[m3];exact e3),λσ3 d3' hl3 ht3=>⟨fits_of hts1 hl3 ht3,?_⟩⟩
     refine⟨W3,δ3,kk,μ4,rfl,ok3,d3',(by rw[m3];exact e4),λW4 ok4 l4 m4=>?_⟩
     cases kk with
     |false=>
      rw[if_neg Zr]
      exact⟨S.items.length-(i+1),by omega,rfl,hlt,W4,zs,rs,rfl,ok4,(l2.trans l3).trans l4,bV.mono' d2 (l3.trans l4),by rw[m4];exact hn,hzs⟩
     |true=>
      rw[if_pos rfl]
      have hn':((fi2 δ3 μ4).bind λq=>(lcL q.1 h2 tt2 fe δ3 q.1.items q.2).bind λys=>(uH S h1 tt1 fi2 h2 tt2 fe (cu own δ capI) (S.items.drop (i+1)) ys.2).bind λzs=>some (ys.1++zs.1,zs.2))=some (rs,μ'):=hn
      obtain⟨⟨S2,μ5⟩,e5,hn'⟩:=Za.mp hn'
      obtain⟨⟨vs,μ6⟩,e6,hn'⟩:=Za.mp hn'
      obtain⟨⟨rs',μ7⟩,e7,e8⟩:=Za.mp hn'
      cases e8
      refine Pg hts2 hdj ht3 ok4 (d3'.mono' l4) (by rw[m4];exact e5) e6 ?_ λus W5 ok5 l5 m5 d5=>?_
      .have hlen:zs.length=ys.length:=az.length d2
       have hz':(zs++(vs++rs')).length<=sizeLine:=by rw[hzs];exact hz
       rw[List.length_append,List.length_append,hlen]at hz'
       omega
      .exact⟨S.items.length-(i+1),by omega,rfl,hlt,W5,zs++vs,rs',rfl,ok5,((l2.trans l3).trans l4).trans l5,az.append (bV.mono' d2 ((l3.trans l4).trans l5)) d5,by rw[m5];exact e7,by rw[List.append_assoc];exact hzs⟩
    .cases hn
   .left
    have hdr:S.items.drop i=[]:=List.drop_of_length_le (by omega)
    rw[hdr]at hn
    unfold uH at hn
    split at hn
    .rename_i hok
     cases hn
     rw[List.append_nil]at hzs
     subst hzs
     exact⟨io.stop i W2 l2 ok2 hok (by omega),by rw[<-az.length d2];exact hz,λl hl=>k l ys W2 ok2 (l1.trans l2) rfl hl d2⟩
    .cases hn
  .cases e3
theorem FT{i:Nat}{x:Str}{px spos:Pos}{fi1 fi2:IF}{h1 h2:GF}{tt1 tt2:TF}{fe:EF}{own cap:List Str}{capI ts1 ts2:List Nat}{scope:Scope}(hN:X.N.Nodup)(hc:X.calm=true)(B:dZ X own cap capI scope)(hown:∀x∈own,(x,NameKind.free)∉scope.names)(hi1:PID X tb t1 i1 fi1)
  (hg1:∀cs C fp s2 H2,PGD (bw X own cap scope cs C fp s2 H2) tb t1 ts1 h1) (ht1:∀cs C fp s2 H2,Az (bw X own cap scope cs C fp s2 H2) tb f1 tt1)
  (hi2:∀cs C fp s2 H2,PID (bw X own cap scope cs C fp s2 H2) tb t2 i2 fi2) (hg2:∀cs C fp s2 H2,PGD (bw X own cap scope cs C fp s2 H2) tb t2 ts2 h2) (ht2:∀cs C fp s2 H2,Az (bw X own cap scope cs C fp s2 H2) tb f2 tt2)
  (he:∀cs C fp s2 H2,PD (bw X own cap scope cs C fp s2 H2) tb elt fe)
  (hts1:∀i∈ts1,i<own.length:=by decide) (hts2:∀i∈ts2,i<own.length:=by decide) (hdj:∀i∈ts2,i∉ts1:=by decide)
  (hs:∀x,foldedSetIterable i1 X.env x=pure x:=by intro _;rfl) (hs2:∀env x,foldedSetIterable i2 env x=pure x:=by intro _ _;rfl) (hi₀:X.N[i]? =some x:=by rfl) (hx₀:Loc X.env.scope x:=by first|exact Or.inl rfl|exact Or.inr rfl)
  (hsw:swapsWith (.ListComp elt [⟨t1,i1,f1,0⟩,⟨t2,i2,f2,0⟩] scope pos) (some (.Name x px)) spos.line X.env=pure true:=by rfl)
  (hf₀:X.fn x=true∨X.env.scope.names.lookup x=some .local:=by first|exact .inl rfl|exact .inr rfl|assumption):
  PSD X tb (.Assign [.Name x px] (.ListComp elt [⟨t1,i1,f1,0⟩,⟨t2,i2,f2,0⟩] scope pos) spos) (bh i (mFz (HR own capI fi1 h1 tt1 fi2 h2 tt2 fe))):=
 jV (QG (g1:=tDG X.K tb ts1 h1) (tt1:=tDT X.K tb tt1) (wi2:=tDI X.K tb fi2) (g2:=tDG X.K tb ts2 h2) (tt2:=tDT X.K tb tt2) (te:=tD X.K tb fe) hN hi₀ hx₀ hc B hown hi1 hg1 ht1 hi2 hg2 ht2 he hs hs2 hsw hf₀) λE σ H zq1=>by
  obtain⟨W,δ,fl,δ',μ',e,ok,hd,hf,k⟩:=zq1
  unfold bh at hf
  obtain⟨⟨d,μ1⟩,e1,e2⟩:=Za.mp hf
  cases e2
  unfold mFz at e1
  obtain⟨⟨ds,μ2⟩,e3,e4⟩:=Za.mp e1
  cases e4
  refine Hr hts1 hts2 hdj ⟨W,δ,ds,_,e,ok,hd,e3,λp vs W1 ok1 l1 m1 hp r=>?_⟩
  exact jk (Q:=λv H=>E.nx (σ.set i (some v)) H) ok1 (λv W' ok' l' m' d'=>k _ W' ok' (l1.trans l') (m'.trans m1) ((hd.mono' (l1.trans l')).set d')) r hp
end
end L3
set_option maxHeartbeats 4000000
namespace LG
open PySem PySem.Spec PyProof.Rows L2 L3
noncomputable def fQ:SF:=bF (pL (M1 (ak 0) (je "int")) (vO (M1 (ak 0) (je "bool"))))
noncomputable def dz(dB:FF):SF:=bF (pL (M1 (ak 0) (je "tuple")) (Ac (pA ["part"] [] (gh (ak 0)) (hName 0) (MC (ao (ak 0) (aC)) dB))))
noncomputable def cA:SF:=aP (xn 0 1 (ao (MC (ao (ak 0) (aC)) (bz oF)) (ao (MC (ao (ak 1) (aC)) (bz oF)) (aC)))) (aP (lE (toB (M2 (ak 1) (mC (.int 0)) oNe)) (xn 0 1 (ao (ak 1) (ao (M2 (ak 0) (ak 1) oMod) (aC))))) (bF (ak 0)))
noncomputable def cZ(aQ:FF):SF:=aP (bh 1 (mC (.int 0))) (aP (ik (gh (ak 0)) (hName 2) (aP (bh 1 (MC (ao (ak 1) (ao (ak 2) (aC))) aQ)) (sIf (toB (M2 (ak 1) (mC (.int 1)) oEq)) (uf) (bN)))) (bF (ak 1)))
noncomputable def jG:SF:=aP (bh 2 (M2 (M2 (M2 (M2 (M2 (ak 0) (mC (.int 2147483647)) oMod) (mC (.int 48271)) eG) (M2 (M2 (mC (.int 7919)) (ak 1) eG) (ak 1) eG) bW) (mC (.int 104729)) bW) (mC (.int 2147483647)) oMod)) (bF (M2 (M2 (ak 2) (ak 2) eG) (mC (.int 2147483629)) oMod))
noncomputable def mF(cB:FF):SF:=aP (bh 1 (oY (uJ (aC)))) (aP (ik (dj (ao (MC (ao (MC (ao (ak 0) (aC)) (bz dN)) (ao (mC (.int 63)) (aC))) (mG mK)) (aC))) (hName 2) (aP (bh 3 (MC (ao (M2 (ak 0) (ak 2) oIx) (aC)) (bz oF))) (aP (sIf (toB (M2 (ak 3) (M2 (mC (.int 10)) (mC (.int 18)) ue) oLt)) (ik (dj (ao (mC (.int 12)) (aC))) (hName 4) (gO (jN (ak 1) (ao (MC (ao (MC (ao (ak 3) (ao (M2 (M2 (mC (.int 3)) (ak 4) eG) (mC (.int 1)) bW) (aC))) cB) (ao (M2 (M2 (ak 4) (ak 2) bW) (mC (.int 2)) bW) (aC))) cB) (aC))))) (bN)) (aP (lE (nM (toB (M2 (ak 3) (M2 (mC (.int 10)) (mC (.int 18)) ue) oGe)) (toB (M2 (MC (ao (ak 1) (aC)) (bz dN)) (mC (.int 900)) oLt))) (aP (gO (jN (ak 1) (ao (M2 (ak 3) (mC (.int 2147483629)) oMod) (aC)))) (bh 3 (M2 (ak 3) (mC (.int 2147483629)) oDiv)))) (sIf (toB (M2 (ak 3) (mC (.int 2147483629)) oGe)) (gO (jN (ak 1) (ao (M2 (ak 3) (mC (.int 2147483629)) oMod) (aC)))) (bN)))))) (bF (ak 1)))
noncomputable def lw:SF:=aP (sIf (toB (M2 (ak 0) (MC (aC) oLst) oEq)) (bF (mC (.int 0))) (bN)) (bF (Di (ak 0)))
noncomputable def nU:SF:=aP (lE (toB (M2 (ak 1) (mC (.int 0)) oNe)) (xn 0 1 (ao (ak 1) (ao (M2 (ak 0) (ak 1) oMod) (aC))))) (bF (MC (ao (ak 0) (aC)) (bz oF)))
noncomputable def jn(fG:FF):SF:=aP (bh 2 (ak 1)) (aP (ik (gh (ak 0)) (hName 3) (bh 2 (MC (ao (ak 2) (ao (ak 3) (aC))) fG))) (aP (sIf (toB (M2 (ak 1) (mC (.int 0)) oLt)) (bh 2 (M2 (mC (.int 0)) (MC (ao (ak 2) (aC)) (bz oF)) nA)) (bN)) (bF (M2 (MC (ao (mFz (lLC ["_law_number"] [2] (gh (ak 0)) (hName 0) (bU) (M2 (ak 0) (ak 1) oDiv))) (aC)) gH) (MC (ao (M2 (ak 1) (ak 2) oDiv) (aC)) oTup) bW))))
noncomputable def mZ:SF:=bF (pL (M1 (ak 0) (je "bool")) (M2 (ak 0) (ak 1) oEq))
noncomputable def CJ(φ_Lput φ_Lodd:FF):SF:=aP (bh 2 (M2 (M2 (ak 1) (mC (.int 16)) oDiv) (MC (ao (ak 0) (aC)) (bz dN)) oMod)) (aP (bh 3 (MC (ao (mSl (ak 0) (fNo) (fAt (M1 (mC (.int 1)) ie))) (ao (mSl (ak 0) (fAt (mC (.int 1))) (fNo)) (ao (M2 (ak 0) (MC (ao (mC (.int 1)) (aC)) oTup) bW) (ao (M2 (ak 0) (MC (ao (mC (.int 0)) (aC)) oTup) bW) (ao (mFz (lOf (ao (ak 0) (aC)))) (ao (MC (ao (mFz (lLC ["_law_one"] [] (gh (ak 0)) (hName 0) (bU) (M2 (mC (.int 3)) (ak 0) eG))) (aC)) gH) (ao (MC (ao (ak 0) (aC)) oTup) (aC)))))))) oLst)) (aP (bh 3 (M2 (ak 3) (MC (ao (MC (ao (mFz (lLC ["_law_one"] [] (gh (ak 0)) (hName 0) (bU) (M2 (mC (.int 0)) (ak 0) nA))) (aC)) gH) (ao (M2 (mSl (ak 0) (fNo) (fAt (M1 (mC (.int 1)) ie))) (MC (ao (mC (.int 0)) (aC)) oTup) bW) (ao (M2 (mSl (ak 0) (fNo) (fAt (M1 (mC (.int 1)) ie))) (MC (ao (M2 (mC (.int 0)) (M2 (ak 0) (M1 (mC (.int 1)) ie) oIx) nA) (aC)) oTup) bW) (ao (M2 (mSl (ak 0) (fNo) (fAt (M1 (mC (.int 1)) ie))) (MC (ao (mC (.bl true)) (aC)) oTup) bW) (aC))))) oLst) bW)) (aP (bh 3 (M2 (ak 3) (MC (ao (MC (ao (mFz (lLC ["_law_one"] [] (gh (ak 0)) (hName 0) (bU) (M2 (mC (.int 2)) (ak 0) eG))) (aC)) gH) (ao (Sy (ak 0)) (ao (MC (ao (mFz (lLC ["_law_one"] [0] (gh (ak 0)) (hName 0) (bU) (M2 (M2 (ak 1) (M1 (mC (.int 1)) ie) oIx) (ak 0) eG))) (aC)) gH) (aC)))) oLst) bW)) (bF (M2 (M2 (ak 3) (MC (ao (MC (ao (ak 0) (ao (ak 2) (ao (MC (ao (M2 (ak 1) (mC (.int 64)) oDiv) (aC)) φ_Lodd) (aC)))) φ_Lput) (ao (MC (ao (ak 0) (ao (ak 2) (ao (M2 (ak 1) (mC (.int 64)) oDiv) (aC)))) φ_Lput) (aC))) oLst) bW) (M2 (ak 1) (mC (.int 16)) oMod) oIx)))))
noncomputable def gm:SF:=aP (sIf (toB (M2 (ak 1) (mC (.int 0)) oEq)) (bF (MC (ao (M2 (M2 (ak 0) (mC (.int 20001)) oMod) (mC (.int 10000)) nA) (ao (M2 (mC (.int 1)) (M2 (M2 (ak 0) (mC (.int 20001)) oDiv) (mC (.int 60)) oMod) bW) (aC))) oTup)) (bN)) (aP (sIf (toB (M2 (ak 1) (mC (.int 1)) oEq)) (bF (MC (ao (M2 (M2 (ak 0) (mC (.int 5)) oMod) (mC (.int 2)) nA) (ao (mC (.int 1)) (aC))) oTup)) (bN)) (aP (sIf (toB (M2 (ak 1) (mC (.int 2)) oEq)) (bF (MC (ao (M2 (M2 (ak 0) (mC (.int 11)) oMod) (mC (.int 5)) nA) (ao (M2 (mC (.int 1)) (M2 (M2 (ak 0) (mC (.int 11)) oDiv) (mC (.int 3)) oMod) bW) (aC))) oTup)) (bN)) (aP (sIf (toB (M2 (ak 1) (mC (.int 3)) oEq)) (bF (MC (ao (M2 (ak 2) (M2 (MC (ao (mC (.int 0)) (ao (mC (.int 0)) (ao (mC (.int 1)) (ao (mC (.int 40)) (aC))))) oLst) (M2 (ak 0) (mC (.int 4)) oMod) oIx) bW) (ao (mC (.int 1)) (aC))) oTup)) (bN)) (bF (MC (ao (M2 (M2 (ak 0) (mC (.int 2)) oMod) (M2 (mC (.int 1)) (M2 (ak 2) (mC (.int 7)) oMod) bW) eG) (ao (mC (.int 1)) (aC))) oTup)))))
noncomputable def kJ(cB iw fU:FF):SF:=aP (bh 4 (oY (uJ (aC)))) (aP (bh 5 (mC (.int 1))) (aP (ik (dj (ao (ak 1) (aC))) (hName 6) (aP (Jd (MC (ao (MC (ao (ak 0) (ao (M2 (ak 6) (mC (.int 1)) bW) (aC))) cB) (ao (ak 2) (ao (M2 (ak 3) (ak 6) bW) (aC)))) iw) (jh 2 (bG (hName 7) (bG (hName 8) (jf))))) (aP (sIf (toB (M2 (ak 6) (mC (.int 0)) oEq)) (bh 5 (ak 8)) (bN)) (gO (jN (ak 4) (ao (ak 7) (aC))))))) (bF (MC (ao (BV (ak 4)) (ao (ak 5) (aC))) fU))))
noncomputable def gK(bJ:FF):SF:=aP (bh 1 (MC (ao (ak 0) (aC)) bJ)) (bF (vW (pA ["number"] [1] (gh (ak 0)) (hName 0) (M2 (ak 0) (ak 1) oDiv))))
noncomputable def gY(cL:FF):SF:=aP (sIf (rB (toB (M2 (M1 (ak 0) (je "tuple")) (M1 (ak 1) (je "tuple")) oNe)) (toB (M2 (M1 (ak 0) (je "list")) (M1 (ak 1) (je "list")) oNe))) (bF (mC (.bl false))) (bN)) (aP (sIf (rB (nu (M1 (ak 0) (je "tuple"))) (nu (M1 (ak 0) (je "list")))) (aP (sIf (toB (M2 (MC (ao (ak 0) (aC)) (bz dN)) (MC (ao (ak 1) (aC)) (bz dN)) oNe)) (bF (mC (.bl false))) (bN)) (bF (Ac (sI (mFz (lLC ["_law_here","_law_there"] [] (pK (ao (ak 0) (ao (ak 1) (aC)))) (jh 2 (bG (hName 0) (bG (hName 1) (jf)))) (bU) (MC (ao (ak 0) (ao (ak 1) (aC))) cL))))))) (bN)) (bF (pL (M2 (M1 (ak 0) (je "bool")) (M1 (ak 1) (je "bool")) oEq) (M2 (ak 0) (ak 1) oEq))))
noncomputable def cO(aQ:FF):SF:=aP (bh 1 (mC (.int 1))) (aP (ik (gh (ak 0)) (hName 2) (Dy 1 (M2 (ak 2) (MC (ao (ak 1) (ao (ak 2) (aC))) aQ) oDiv) Cj)) (bF (ak 1)))
noncomputable def cM:SF:=bF (Ku (pA ["one","other"] [] (pK (ao (ak 0) (ao (ak 1) (aC)))) (jh 2 (bG (hName 0) (bG (hName 1) (jf)))) (M2 (ak 0) (ak 1) eG)))
noncomputable def jm(bQ:FF):SF:=bF (mFz (lLC ["at"] [1,0] (dj (ao (MC (ao (M2 (ak 0) (mC (.int 0)) oIx) (aC)) (bz dN)) (aC))) (hName 0) (bU) (MC (ao (ak 1) (ao (mFz (lLC ["row"] [0] (gh (ak 2)) (hName 0) (bU) (M2 (ak 0) (ak 1) oIx))) (aC))) bQ)))
noncomputable def dY(bR:FF):SF:=aP (bh 2 (MC (ao (mFz (lLC ["point"] [] (gh (ak 0)) (hName 0) (bU) (M2 (ak 0) (M1 (mC (.int 1)) ie) oIx))) (aC)) bR)) (bF (mFz (lLC ["number","point"] [2] (pK (ao (ak 1) (ao (ak 0) (aC)))) (jh 2 (bG (hName 0) (bG (hName 1) (jf)))) (bU) (M2 (ak 0) (M2 (ak 2) (M2 (ak 1) (M1 (mC (.int 1)) ie) oIx) oDiv) eG))))
noncomputable def dF(cY cQ gJ:FF):SF:=aP (sIf (rB (pN (nu (MC (ao (ak 1) (aC)) cY))) (rB (toB (M2 (MC (ao (ak 1) (aC)) (bz dN)) (MC (ao (ak 0) (aC)) (bz dN)) oNe)) (pN (nu (Hk (sI (ak 1))))))) (bF (mC (.bl false))) (bN)) (bF (vO (Hk (sI (MC (ao (ak 0) (ao (MC (ao (ak 0) (ao (ak 1) (aC))) cQ) (aC))) gJ)))))
noncomputable def gB(dO:FF):SF:=aP (sIf (toB (M2 (ak 0) (MC (aC) oLst) oEq)) (bF (mC (.int 1))) (bN)) (aP (bh 1 (mC (.int 0))) (aP (ik (kh (ao (M2 (ak 0) (mC (.int 0)) oIx) (aC))) (jh 2 (bG (hName 2) (bG (hName 3) (jf)))) (aP (bh 4 (mFz (lLC ["_law_row"] [2] (gh (mSl (ak 0) (fAt (mC (.int 1))) (fNo))) (hName 0) (bU) (M2 (mSl (ak 0) (fNo) (fAt (ak 1))) (mSl (ak 0) (fAt (M2 (ak 1) (mC (.int 1)) bW)) (fNo)) bW)))) (bh 1 (M2 (ak 1) (M2 (M2 (M2 (MC (ao (mC (.int 1)) (ao (M1 (mC (.int 1)) ie) (aC))) oLst) (M2 (ak 2) (mC (.int 2)) oMod) oIx) (ak 3) eG) (MC (ao (ak 4) (aC)) dO) eG) bW)))) (bF (ak 1))))
noncomputable def qM(dO:FF):SF:=aP (bh 1 (oY (uJ (aC)))) (aP (ik (kh (ao (ak 0) (aC))) (jh 2 (bG (hName 2) (bG (hName 3) (jf)))) (aP (bh 4 (mFz (lLC ["_law_j","_law_other"] [2] (kh (ao (ak 0) (aC))) (jh 2 (bG (hName 0) (bG (hName 1) (jf)))) (toB (M2 (ak 0) (ak 2) oNe)) (ak 1)))) (gO (jN (ak 1) (ao (M2 (M2 (M2 (MC (ao (mC (.int 1)) (ao (M1 (mC (.int 1)) ie) (aC))) oLst) (M2 (ak 2) (mC (.int 2)) oMod) oIx) (MC (ao (ak 4) (aC)) dO) eG) (M2 (ak 3) (M1 (mC (.int 1)) ie) oIx) eG) (aC)))))) (bF (MC (ao (BV (ak 1)) (aC)) gH)))
noncomputable def cV(fG:FF):SF:=aP (bh 1 (mC (.int 0))) (aP (ik (gh (ak 0)) (hName 2) (bh 1 (MC (ao (ak 1) (ao (ak 2) (aC))) fG))) (aP (sIf (toB (M2 (M2 (mFz (lLC ["_law_one"] [] (gh (ak 0)) (hName 0) (toB (M2 (ak 0) (mC (.int 0)) oNe)) (ak 0))) (mC (.int 0)) oIx) (mC (.int 0)) oLt)) (bh 1 (M2 (mC (.int 0)) (ak 1) nA)) (bN)) (bF (MC (ao (mFz (lLC ["_law_one"] [1] (gh (ak 0)) (hName 0) (bU) (M2 (ak 0) (ak 1) oDiv))) (aC)) gH))))
noncomputable def gn(dO:FF):SF:=aP (bh 1 (oY (uJ (aC)))) (aP (ik (kh (ao (ak 0) (aC))) (jh 2 (bG (hName 2) (bG (hName 3) (jf)))) (aP (bh 4 (mFz (lLC ["_law_j","_law_other"] [2] (kh (ao (ak 0) (aC))) (jh 2 (bG (hName 0) (bG (hName 1) (jf)))) (toB (M2 (ak 0) (ak 2) oNe)) (ak 1)))) (gO (jN (ak 1) (ao (M2 (M2 (M2 (MC (ao (mC (.int 1)) (ao (M1 (mC (.int 1)) ie) (aC))) oLst) (M2 (ak 2) (mC (.int 2)) oMod) oIx) (MC (ao (ak 4) (aC)) dO) eG) (M2 (ak 3) (M1 (mC (.int 1)) ie) oIx) eG) (aC)))))) (bF (MC (ao (BV (ak 1)) (aC)) gH)))
noncomputable def eN:SF:=aP (ik (kh (ao (ak 0) (aC))) (jh 2 (bG (hName 1) (bG (hName 2) (jf)))) (sIf (toB (M2 (ak 2) (mC (.int 0)) oNe)) (bF (ak 1)) (bN))) (bF (mC .non))
noncomputable def jr(bK:FF):SF:=bF (MC (ao (mFz (lLC ["mine","its"] [1,2,0] (pK (ao (ak 0) (ao (ak 1) (aC)))) (jh 2 (bG (hName 0) (bG (hName 1) (jf)))) (bU) (M2 (M2 (ak 0) (M2 (ak 2) (ak 3) oIx) eG) (M2 (ak 1) (M2 (ak 4) (ak 3) oIx) eG) nA))) (aC)) bK)
noncomputable def fP(gF bx:FF):SF:=aP (bh 1 (oY (uJ (aC)))) (aP (ik (kh (ao (ak 0) (aC))) (jh 2 (bG (hName 2) (bG (hName 3) (jf)))) (aP (bh 4 (MC (ao (ak 3) (aC)) (bz dN))) (aP (bh 5 (mFz (lLC ["k"] [2] (dj (ao (MC (ao (ak 0) (aC)) (bz dN)) (aC))) (hName 0) (bU) (mIf (toB (M2 (ak 0) (ak 1) oEq)) (mC (.int 1)) (mC (.int 0)))))) (aP (bh 6 (MC (jU (ak 3) (jU (ak 5) (aC))) oTup)) (aP (ik (gh (ak 1)) (jh 2 (bG (hName 7) (bG (hName 8) (jf)))) (bh 6 (MC (ao (ak 6) (ao (ak 8) (ao (ak 7) (aC)))) gF))) (aP (bh 9 (MC (ao (mSl (ak 6) (fNo) (fAt (ak 4))) (aC)) bx)) (aP (sIf (toB (M2 (ak 9) (mC .non) oIs)) (bF (mSl (ak 6) (fAt (ak 4)) (fNo))) (bN)) (gO (jN (ak 1) (ao (MC (ao (ak 9) (ao (ak 6) (aC))) oTup) (aC))))))))))) (bF (mC .non)))
noncomputable def oU(bI bK bx:FF):SF:=aP (bh 1 (MC (ao (ak 0) (aC)) bI)) (aP (sIf (toB (M2 (ak 1) (mC .non) oIs)) (bF (mC .non)) (bN)) (aP (bh 2 (MC (ao (mFz (lLC ["number","point"] [] (pK (ao (ak 1) (ao (ak 0) (aC)))) (jh 2 (bG (hName 0) (bG (hName 1) (jf)))) (bU) (M2 (ak 0) (M2 (ak 1) (M1 (mC (.int 1)) ie) oIx) eG))) (aC)) bK)) (aP (bh 3 (mIf (toB (M2 (M2 (ak 2) (MC (ao (ak 2) (aC)) bx) oIx) (mC (.int 0)) oGt)) (mC (.int 1)) (M1 (mC (.int 1)) ie))) (bF (vW (pA ["number"] [3] (gh (ak 2)) (hName 0) (M2 (ak 1) (ak 0) eG)))))))
noncomputable def jt:SF:=aP (bh 2 (MC (ao (MC (aC) oTup) (aC)) oLst)) (aP (ik (dj (ao (ak 1) (aC))) (hName 3) (bh 2 (mFz (HR ["row","number"] [0] (gh (ak 2)) (hName 0) (bU) (qO (ao (mIf (nu (ak 0)) (M2 (M2 (ak 0) (M1 (mC (.int 1)) ie) oIx) (mC (.int 1)) bW) (mC (.int 0))) (ao (ak 2) (aC)))) (hName 1) (bU) (MC (jU (ak 0) (ao (ak 1) (aC))) oTup))))) (bF (ak 2)))
noncomputable def gM(fO bI:FF):SF:=aP (sIf (pN (nu (ak 0))) (bF (mC (.bl true))) (bN)) (aP (bh 1 (MC (ao (MC (ao (ak 0) (aC)) (bz dN)) (ao (MC (ao (M2 (ak 0) (mC (.int 0)) oIx) (aC)) (bz dN)) (aC))) (mG mK))) (bF (Ac (pA ["chosen"] [0] (gh (MC (ao (MC (ao (ak 0) (aC)) (bz dN)) (ao (ak 1) (aC))) fO)) (hName 0) (M2 (MC (ao (mFz (lLC ["k"] [1] (gh (ak 0)) (hName 0) (bU) (M2 (ak 1) (ak 0) oIx))) (aC)) bI) (mC .non) oIs)))))
noncomputable def dX(aU:FF):SF:=aP (sIf (toB (M2 (mFz (lLC ["_law_one"] [] (gh (ak 1)) (hName 0) (toB (M2 (ak 0) (mC (.int 0)) oNe)) (ak 0))) (MC (aC) oLst) oEq)) (bF (mC (.bl false))) (bN)) (bF (M2 (MC (ao (ak 1) (aC)) aU) (ak 0) oEq))
noncomputable def mj:SF:=aP (bh 2 (M2 (MC (ao (mC (.int 1)) (ao (M1 (mC (.int 1)) ie) (ao (mC (.int 2)) (ao (mC (.int 7)) (ao (M1 (mC (.int 12)) ie) (ao (M2 (mC (.int 10)) (mC (.int 20)) ue) (aC))))))) oLst) (M2 (ak 1) (mC (.int 6)) oMod) oIx)) (aP (bh 3 (oY (lLC ["_law_one"] [2] (gh (ak 0)) (hName 0) (bU) (M2 (ak 1) (ak 0) eG)))) (aP (bh 4 (M2 (M2 (ak 1) (mC (.int 6)) oDiv) (MC (ao (ak 3) (aC)) (bz dN)) oMod)) (aP (bh 5 (M2 (M2 (ak 1) (mC (.int 36)) oDiv) (MC (ao (ak 3) (aC)) (bz dN)) oMod)) (aP (sIf (toB (M2 (M2 (M2 (ak 1) (mC (.int 300)) oDiv) (mC (.int 3)) oMod) (mC (.int 0)) oGt)) (BR (M2 (M2 (ak 3) (ak 4) oIx) (M2 (MC (ao (mC (.int 1)) (ao (M1 (mC (.int 1)) ie) (ao (ak 2) (aC)))) oLst) (M2 (M2 (ak 1) (mC (.int 900)) oDiv) (mC (.int 3)) oMod) oIx) bW) (ak 3) (ak 4)) (bN)) (aP (sIf (toB (M2 (M2 (M2 (ak 1) (mC (.int 300)) oDiv) (mC (.int 3)) oMod) (mC (.int 2)) oEq)) (BR (M2 (M2 (ak 3) (ak 5) oIx) (M2 (MC (ao (mC (.int 1)) (ao (M1 (mC (.int 1)) ie) (ao (ak 2) (aC)))) oLst) (M2 (M2 (ak 1) (mC (.int 900)) oDiv) (mC (.int 3)) oMod) oIx) nA) (ak 3) (ak 5)) (bN)) (bF (MC (ao (BV (ak 3)) (aC)) gH)))))))
noncomputable def jH(bH aU cW jB cL bY fM bA cH gj:FF):SF:=aP (bh 2 (MC (ao (MC (ao (ak 1) (aC)) bH) (aC)) aU)) (aP (sIf (rB (toB (M2 (MC (ao (ak 1) (aC)) cW) (mC (.bl true)) lu)) (rB (pN (nu (MC (ao (MC (ao (ak 1) (aC)) jB) (ao (ak 2) (aC))) cL))) (toB (M2 (mC (.int 0)) (ak 2) (oIn false))))) (bF (mC (.bl false))) (bN)) (aP (ik (dj (ao (mC (.int 10)) (aC))) (hName 3) (aP (bh 4 (MC (ao (ak 2) (ao (MC (ao (ak 0) (aC)) bY) (aC))) fM)) (sIf (pN (nu (MC (ao (MC (ao (ak 1) (ao (ak 4) (aC))) cH) (ao (MC (ao (ak 2) (ao (ak 4) (aC))) bA) (aC))) gj))) (bF (mC (.bl false))) (bN)))) (aP (ik (dj (ao (MC (ao (ak 1) (aC)) (bz dN)) (aC))) (hName 3) (sIf (toB (M2 (MC (ao (M2 (mSl (ak 1) (fNo) (fAt (ak 3))) (mSl (ak 1) (fAt (M2 (ak 3) (mC (.int 1)) bW)) (fNo)) bW) (aC)) jB) (mC .non) lu)) (bF (mC (.bl false))) (bN))) (bF (mC (.bl true))))))
noncomputable def qg(fW bY fX bH gP:FF):SF:=aP (bh 1 (MC (ao (ak 0) (aC)) fW)) (aP (ik (dj (ao (M2 (mC (.int 4)) (MC (ao (mC (.int 16)) (ao (M2 (mC (.int 2)) (MC (ao (ak 0) (aC)) (bz dN)) eG) (aC))) (mG mK)) bW) (aC))) (hName 2) (aP (bh 3 (M2 (mC (.int 1)) (M2 (MC (ao (ak 1) (aC)) bY) (mC (.int 3)) oMod) bW)) (aP (bh 4 (M2 (MC (ao (mC (.int 0)) (ao (mC (.int 1)) (ao (mC (.int 2)) (ao (mC (.int 2)) (aC))))) oLst) (M2 (MC (ao (ak 1) (aC)) bY) (mC (.int 4)) oMod) oIx)) (aP (bh 5 (mFz (lLC ["_law_k"] [1,3,4] (dj (ao (M2 (ak 3) (mC (.int 2)) bW) (aC))) (hName 0) (bU) (MC (ao (MC (ao (ak 1) (aC)) bY) (ao (ak 2) (ao (ak 3) (ao (mC (.int 0)) (aC))))) fX)))) (sIf (nM (toB (M2 (mC (.int 0)) (MC (ao (ak 5) (aC)) bH) (oIn true))) (pN (nu (MC (ao (ak 1) (ao (ak 5) (aC))) gP)))) (bF (mC (.bl false))) (bN)))))) (bF (mC (.bl true))))
end LG
namespace Lk11
open PySem PySem.Spec PyProof.Rows L2 L3 LG
def top(i:Nat):Stmt:=PySem.Challenge.pw_heapsmeet_k11_whole_one_tie_of_plain_poi.main.body.getD i (.Pass ⟨0,0,0,0⟩)
structure BI(K:PySem.W.Frag)(mg:Str->Option Value):Prop where
 b_abs:mg "abs"=none
 b_all:mg "all"=none
 b_any:mg "any"=none
 b_bool:mg "bool"=none
 b_enumerate:mg "enumerate"=none
 b_int:mg "int"=none
 b_isinstance:mg "isinstance"=none
 b_len:mg "len"=none
 b_list:mg "list"=none
 b_min:mg "min"=none
 b_range:mg "range"=none
 b_sum:mg "sum"=none
 b_tuple:mg "tuple"=none
 b_zip:mg "zip"=none
variable {P:Program} {w:World} {K:PySem.W.Frag} {mg:Str->Option Value} {base:Heap} {tb:List Addr} {f Tb:Addr} {fd:FuncData}
abbrev tH:Stmt:=top 20
theorem uU:aX ["_law_cell","_law_k","_law_number"] ["_law_cell","_law_k"] (aK tH):=⟨rfl,rfl,rfl,by decide +kernel,rfl,by decide +kernel,by decide +kernel⟩
theorem Ez(T:BI K mg)(F:fu K "_law_mixed" "_law_mixed" tH f fd Tb)(KB:K.In base)(hmg:mg "_law_mixed"=some (.ref f)):FI P w K mg base tb "_law_mixed" 2 (0+1) (aG 3 (jG)):=
 dg F KB hmg uU rfl (λ_ _ _ _ _ _=>us2 λ_ _=>rfl) λc A outer s H E hcd hr=>by
  have nd:=uU.nd
  refine aA ?_ (aD (aL (aH cJ (aH eZ (pdv 2) (pdv 2)) aB)))
  refine aV (i:=2) nd ?_
  refine aH cJ ?_ aB
  refine aH dw ?_ aB
  exact aH dw (aH eZ (aH cJ (pdv 0) aB) aB) (aH eZ (aH eZ aB (pdv 1)) (pdv 1))
abbrev sJ:Stmt:=top 21
theorem vh:aX ["_law_script","_law_drawn","_law_k","_law_cell","_law_j"] ["_law_script"] (aK sJ):=⟨rfl,rfl,rfl,by decide +kernel,rfl,by decide +kernel,by decide +kernel⟩
theorem Ed{cB:FF}(T:BI K mg)(F:fu K "_law_draws" "_law_draws" sJ f fd Tb)(KB:K.In base)(hmg:mg "_law_draws"=some (.ref f))(F_Lmixed:FI P w K mg base tb "_law_mixed" 2 1 cB):FI P w K mg base tb "_law_draws" 1 (1+1) (aG 5 (mF cB)):=
 dg F KB hmg vh rfl (λ_ _ _ _ _ _=>us1 λ_=>rfl) λc A outer s H E hcd hr=>by
  have nd:=vh.nd
  refine aA (aV (i:=1) nd (rT (su aq))) ?_
  refine aA ?_ (aD (aL (pdv 1)))
  refine dR (ts:=[2]) PassesOwn.never rfl ?_ (aJ (i:=2) nd) ?_
  refine dH T.b_range ?_
  refine aj ?_ aq
  refine xY rfl T.b_min ?_
  exact aj (gf T.b_len (aj (pdv 0) aq)) (aj aB aq)
  refine aA (aV (i:=3) nd (ug T.b_abs (aj (fH (pdv 0) (pdv 2)) aq))) ?_
  refine aA ?_ ?_
  refine cF (aY Cr (pdv 3) (aH Aq aB aB)) ?_ bj
  refine aD ?_
  refine dR (ts:=[4]) PassesOwn.never rfl (dH T.b_range (aj aB aq)) (aJ (i:=4) nd) ?_
  refine aD ?_
  refine lq ?_
  refine jq (pdv 1) ?_
  refine aj ?_ aq
  refine aN F_Lmixed (hr.mono (by decide)) ?_ (aF (aF aO))
  refine aj ?_ (aj (aH dw (aH dw (pdv 4) (pdv 2)) aB) aq)
  refine aN F_Lmixed (hr.mono (by decide)) ?_ (aF (aF aO))
  exact aj (pdv 3) (aj (aH dw (aH eZ aB (pdv 4)) aB) aq)
  refine aA ?_ ?_
  refine pY PassesOwn.never ?_ ?_
  refine qp ?_
  exact Dd (aY Mf (pdv 3) (aH Aq aB aB)) (yO (aY Cr (gf T.b_len (aj (pdv 1) aq)) aB))
  refine aA ?_ (aD (aV (i:=3) nd (aH gG (pdv 3) aB)))
  exact lq (jq (pdv 1) (aj (aH cJ (pdv 3) aB) aq))
  refine aD ?_
  refine cF (aY Mf (pdv 3) aB) ?_ bj
  refine aD ?_
  exact lq (jq (pdv 1) (aj (aH cJ (pdv 3) aB) aq))
abbrev wQ:Stmt:=top 22
theorem yN:aX ["_law_drawn"] ["_law_drawn"] (aK wQ):=⟨rfl,rfl,rfl,by decide +kernel,rfl,by decide +kernel,by decide +kernel⟩
theorem Gh(T:BI K mg)(F:fu K "_law_next" "_law_next" wQ f fd Tb)(KB:K.In base)(hmg:mg "_law_next"=some (.ref f)):FI P w K mg base tb "_law_next" 1 (0+1) (aG 1 (lw)):=
 dg F KB hmg yN rfl (λ_ _ _ _ _ _=>us1 λ_=>rfl) λc A outer s H E hcd hr=>by
  have nd:=yN.nd
  refine aA ?_ (aD (aL (JL (pdv 0))))
  exact cF (aY (jD hr) (pdv 0) (jy aq)) (aD (aL aB)) bj
abbrev sY:Stmt:=top 25
theorem vY:aX ["_law_number","_law_kind","_law_base"] ["_law_number","_law_kind","_law_base"] (aK sY):=⟨rfl,rfl,rfl,by decide +kernel,rfl,by decide +kernel,by decide +kernel⟩
theorem Ew(T:BI K mg)(F:fu K "_law_place" "_law_place" sY f fd Tb)(KB:K.In base)(hmg:mg "_law_place"=some (.ref f)):FI P w K mg base tb "_law_place" 3 (0+1) (aG 3 (gm)):=
 dg F KB hmg vY rfl (λ_ _ _ _ _ _=>us3 λ_ _ _=>rfl) λc A outer s H E hcd hr=>by
  have nd:=vY.nd
  refine aA ?_ ?_
  refine cF (aY (jD hr) (pdv 1) aB) ?_ bj
  refine aD ?_
  refine aL ?_
  refine kI ?_
  refine aj (aH nZ (aH cJ (pdv 0) aB) aB) ?_
  exact aj (aH dw aB (aH cJ (aH gG (pdv 0) aB) aB)) aq
  refine aA ?_ ?_
  refine cF (aY (jD hr) (pdv 1) aB) ?_ bj
  refine aD ?_
  refine aL ?_
  refine kI ?_
  exact aj (aH nZ (aH cJ (pdv 0) aB) aB) (aj aB aq)
  refine aA ?_ ?_
  refine cF (aY (jD hr) (pdv 1) aB) ?_ bj
  refine aD ?_
  refine aL ?_
  refine kI ?_
  refine aj (aH nZ (aH cJ (pdv 0) aB) aB) ?_
  exact aj (aH dw aB (aH cJ (aH gG (pdv 0) aB) aB)) aq
  refine aA ?_ ?_
  refine cF (aY (jD hr) (pdv 1) aB) ?_ bj
  refine aD ?_
  refine aL ?_
  refine kI ?_
  refine aj ?_ (aj aB aq)
  refine aH dw (pdv 2) ?_
  refine fH ?_ (aH cJ (pdv 0) aB)
  refine jy ?_
  exact aj aB (aj aB (aj aB (aj aB aq)))
  refine aD ?_
  refine aL ?_
  refine kI ?_
  refine aj ?_ (aj aB aq)
  exact aH eZ (aH cJ (pdv 0) aB) (aH dw aB (aH cJ (pdv 2) aB))
abbrev Ak:Stmt:=top 23
theorem Cm:aX ["_law_one","_law_other"] ["_law_one","_law_other"] (aK Ak):=⟨rfl,rfl,rfl,by decide +kernel,rfl,by decide +kernel,by decide +kernel⟩
theorem Lf(T:BI K mg)(F:fu K "_law_gcd" "_law_gcd" Ak f fd Tb)(KB:K.In base)(hmg:mg "_law_gcd"=some (.ref f)):FI P w K mg base tb "_law_gcd" 2 (0+1) (aG 2 (nU)):=
 dg F KB hmg Cm rfl (λ_ _ _ _ _ _=>us2 λ_ _=>rfl) λc A outer s H E hcd hr=>by
  have nd:=Cm.nd
  refine aA ?_ (aD (aL (ug T.b_abs (aj (pdv 0) aq))))
  refine pY PassesOwn.never (aY (nR hr) (pdv 1) aB) ?_
  refine aD ?_
  exact wL (i:=0) (j:=1) rfl nd (aj (pdv 1) (aj (aH cJ (pdv 0) (pdv 1)) aq))
abbrev qe:Stmt:=top 24
theorem tV:aX ["_law_numbers","_law_bottom","_law_common","_law_number"] ["_law_numbers","_law_bottom"] (aK qe):=⟨rfl,rfl,rfl,by decide +kernel,rfl,by decide +kernel,by decide +kernel⟩
theorem zX{fG:FF}(T:BI K mg)(F:fu K "_law_lowest" "_law_lowest" qe f fd Tb)(KB:K.In base)(hmg:mg "_law_lowest"=some (.ref f))(F_Lgcd:FI P w K mg base tb "_law_gcd" 2 1 fG):FI P w K mg base tb "_law_lowest" 2 (1+1) (aG 4 (jn fG)):=
 dg F KB hmg tV rfl (λ_ _ _ _ _ _=>us2 λ_ _=>rfl) λc A outer s H E hcd hr=>by
  have nd:=tV.nd
  refine aA (aV (i:=2) nd (pdv 1)) ?_
  refine aA ?_ ?_
  refine dR (ts:=[3]) PassesOwn.never rfl (cT (pdv 0)) (aJ (i:=3) nd) ?_
  refine aD ?_
  exact aV (i:=2) nd (aN F_Lgcd (hr.mono (by decide)) (aj (pdv 2) (aj (pdv 3) aq)) (aF (aF aO)))
  refine aA ?_ ?_
  refine cF (aY Cr (pdv 1) aB) ?_ bj
  exact aD (aV (i:=2) nd (aH nZ aB (ug T.b_abs (aj (pdv 2) aq))))
  refine aD ?_
  refine aL ?_
  refine aH dw ?_ (kI (aj (aH gG (pdv 1) (pdv 2)) aq))
  refine pG T.b_tuple ?_
  refine aj ?_ aq
  refine iV ?_
  refine iY (own:=["_law_number"]) (cap:=["_law_common"]) (capI:=[2]) (ts:=[0]) rfl ⟨rfl,by decide +kernel,⟨⟨rfl,by first|exact Or.inl rfl|exact Or.inr rfl⟩,trivial⟩,by decide +kernel,by decide +kernel⟩ (by decide +kernel) (cT (pdv 0)) (λcs C fp s2 H2=>aJ (i:=0) (show(["_law_number","_law_common"]:List Str).Nodup by decide +kernel)) ?_ ?_
  intro cs C fp s2 H2
  exact cR
  intro cs C fp s2 H2
  exact aH gG (pdv 0) (pdv 1)
abbrev uv:Stmt:=top 26
theorem vR:aX ["_law_number","_law_directions","_law_kind","_law_base","_law_numbers","_law_bottom","_law_k","_law_top","_law_under"] ["_law_number","_law_directions","_law_kind","_law_base"] (aK uv):=⟨rfl,rfl,rfl,by decide +kernel,rfl,by decide +kernel,by decide +kernel⟩
theorem Du{cB iw fU:FF}(T:BI K mg)(F:fu K "_law_point" "_law_point" uv f fd Tb)(KB:K.In base)(hmg:mg "_law_point"=some (.ref f))(F_Lmixed:FI P w K mg base tb "_law_mixed" 2 1 cB)(F_Lplace:FI P w K mg base tb "_law_place" 3 1 iw)(F_Llowest:FI P w K mg base tb "_law_lowest" 2 2 fU):FI P w K mg base tb "_law_point" 4 (2+1) (aG 9 (kJ cB iw fU)):=
 dg F KB hmg vR rfl (λ_ _ _ _ _ _=>us4 λ_ _ _ _=>rfl) λc A outer s H E hcd hr=>by
  have nd:=vR.nd
  refine aA (aV (i:=4) nd (rT (su aq))) ?_
  refine aA (aV (i:=5) nd aB) ?_
  refine aA ?_ ?_
  refine dR (ts:=[6]) PassesOwn.never rfl (dH T.b_range (aj (pdv 1) aq)) (aJ (i:=6) nd) ?_
  refine aA ?_ ?_
  refine Jx (ts:=[7,8]) ?_ (gA rfl (bc (aJ (i:=7) nd) (bc (aJ (i:=8) nd) eY)))
  refine aN F_Lplace (hr.mono (by decide)) ?_ (aF (aF (aF aO)))
  refine aj ?_ (aj (pdv 2) (aj (aH dw (pdv 3) (pdv 6)) aq))
  exact aN F_Lmixed (hr.mono (by decide)) (aj (pdv 0) (aj (aH dw (pdv 6) aB) aq)) (aF (aF aO))
  refine aA ?_ (aD (lq (jq (pdv 4) (aj (pdv 7) aq))))
  exact cF (aY (jD hr) (pdv 6) aB) (aD (aV (i:=5) nd (pdv 8))) bj
  refine aD ?_
  exact aL (aN F_Llowest (hr.mono (by decide)) (aj (Aw (pdv 4)) (aj (pdv 5) aq)) (aF (aF aO)))
abbrev Bx:Stmt:=top 29
theorem BW:aX ["_law_rows","_law_found","_law_k","_law_number","_law_rest"] ["_law_rows"] (aK Bx):=⟨rfl,rfl,rfl,by decide +kernel,rfl,by decide +kernel,by decide +kernel⟩
theorem mQ{dO:FF}(T:BI K mg)(F:fu K "_law_det" "_law_det" Bx f fd Tb)(KB:K.In base)(hmg:mg "_law_det"=some (.ref f)){k:Nat}(hk:0<=k)(F_Ldet:FI P w K mg base tb "_law_det" 1 k dO):FI P w K mg base tb "_law_det" 1 (k+1) (aG 5 (gB dO)):=
 dg F KB hmg BW rfl (λ_ _ _ _ _ _=>us1 λ_=>rfl) λc A outer s H E hcd hr=>by
  have nd:=BW.nd
  refine aA ?_ ?_
  exact cF (aY (jD hr) (pdv 0) (jy aq)) (aD (aL aB)) bj
  refine aA (aV (i:=1) nd aB) ?_
  refine aA ?_ (aD (aL (pdv 1)))
  refine dR (ts:=[2,3]) PassesOwn.never rfl (lZ T.b_enumerate (aj (fH (pdv 0) aB) aq)) (gA rfl (bc (aJ (i:=2) nd) (bc (aJ (i:=3) nd) eY))) ?_
  refine aA ?_ ?_
  refine sG (i:=4) nd (own:=["_law_row"]) (cap:=["_law_k"]) (capI:=[2]) (ts:=[0]) rfl ⟨rfl,by decide +kernel,⟨⟨rfl,by first|exact Or.inl rfl|exact Or.inr rfl⟩,trivial⟩,by decide +kernel,by decide +kernel⟩ (by decide +kernel) (cT (jx (pdv 0) (jA aB) jJ)) (λcs C fp s2 H2=>aJ (i:=0) (show(["_law_row","_law_k"]:List Str).Nodup by decide +kernel)) ?_ ?_
  intro cs C fp s2 H2
  exact cR
  intro cs C fp s2 H2
  exact aH dw (jx (pdv 0) jJ (jA (pdv 1))) (jx (pdv 0) (jA (aH dw (pdv 1) aB)) jJ)
  refine aD ?_
  refine aV (i:=1) nd ?_
  refine aH dw (pdv 1) ?_
  refine aH eZ ?_ (aN F_Ldet (hr.mono (by first|decide|omega)) (aj (pdv 4) aq) (aF aO))
  refine aH eZ ?_ (pdv 3)
  exact fH (jy (aj aB (aj (iU aB) aq))) (aH cJ (pdv 2) aB)
abbrev qu:Stmt:=top 30
theorem um:aX ["_law_points","_law_found","_law_k","_law_point_here","_law_rest"] ["_law_points"] (aK qu):=⟨rfl,rfl,rfl,by decide +kernel,rfl,by decide +kernel,by decide +kernel⟩
theorem zZ{dO:FF}(T:BI K mg)(F:fu K "_law_minors" "_law_minors" qu f fd Tb)(KB:K.In base)(hmg:mg "_law_minors"=some (.ref f))(F_Ldet:FI P w K mg base tb "_law_det" 1 6 dO):FI P w K mg base tb "_law_minors" 1 (6+1) (aG 5 (gn dO)):=
 dg F KB hmg um rfl (λ_ _ _ _ _ _=>us1 λ_=>rfl) λc A outer s H E hcd hr=>by
  have nd:=um.nd
  refine aA (aV (i:=1) nd (rT (su aq))) ?_
  refine aA ?_ (aD (aL (pG T.b_tuple (aj (Aw (pdv 1)) aq))))
  refine dR (ts:=[2,3]) PassesOwn.never rfl (lZ T.b_enumerate (aj (pdv 0) aq)) (gA rfl (bc (aJ (i:=2) nd) (bc (aJ (i:=3) nd) eY))) ?_
  refine aA ?_ ?_
  refine sG (i:=4) nd (own:=["_law_j","_law_other"]) (cap:=["_law_k"]) (capI:=[2]) (ts:=[0,1]) rfl ⟨rfl,by decide +kernel,⟨⟨rfl,by first|exact Or.inl rfl|exact Or.inr rfl⟩,trivial⟩,by decide +kernel,by decide +kernel⟩ (by decide +kernel) (lZ T.b_enumerate (aj (pdv 0) aq)) (λcs C fp s2 H2=>gA rfl (bc (aJ (i:=0) (show(["_law_j","_law_other","_law_k"]:List Str).Nodup by decide +kernel)) (bc (aJ (i:=1) (show(["_law_j","_law_other","_law_k"]:List Str).Nodup by decide +kernel)) eY))) ?_ ?_
  intro cs C fp s2 H2
  exact sS (aY (nR hr) (pdv 0) (pdv 2))
  intro cs C fp s2 H2
  exact pdv 1
  refine aD ?_
  refine lq ?_
  refine jq (pdv 1) ?_
  refine aj ?_ aq
  refine aH eZ ?_ (fH (pdv 3) (iU aB))
  refine aH eZ ?_ (aN F_Ldet (hr.mono (by decide)) (aj (pdv 4) aq) (aF aO))
  exact fH (jy (aj aB (aj (iU aB) aq))) (aH cJ (pdv 2) aB)
abbrev km:Stmt:=top 31
theorem lW:aX ["_law_numbers","_law_common","_law_one"] ["_law_numbers"] (aK km):=⟨rfl,rfl,rfl,by decide +kernel,rfl,by decide +kernel,by decide +kernel⟩
theorem sZ{fG:FF}(T:BI K mg)(F:fu K "_law_lowest_row" "_law_lowest_row" km f fd Tb)(KB:K.In base)(hmg:mg "_law_lowest_row"=some (.ref f))(F_Lgcd:FI P w K mg base tb "_law_gcd" 2 1 fG):FI P w K mg base tb "_law_lowest_row" 1 (1+1) (aG 3 (cV fG)):=
 dg F KB hmg lW rfl (λ_ _ _ _ _ _=>us1 λ_=>rfl) λc A outer s H E hcd hr=>by
  have nd:=lW.nd
  refine aA (aV (i:=1) nd aB) ?_
  refine aA ?_ ?_
  refine dR (ts:=[2]) PassesOwn.never rfl (cT (pdv 0)) (aJ (i:=2) nd) ?_
  refine aD ?_
  exact aV (i:=1) nd (aN F_Lgcd (hr.mono (by decide)) (aj (pdv 1) (aj (pdv 2) aq)) (aF (aF aO)))
  refine aA ?_ ?_
  refine cF ?_ (aD (aV (i:=1) nd (aH nZ aB (pdv 1)))) bj
  refine aY Cr ?_ aB
  refine fH ?_ aB
  refine iV ?_
  refine iY (own:=["_law_one"]) (cap:=[]) (capI:=[]) (ts:=[0]) rfl ⟨rfl,by decide +kernel,trivial,by decide +kernel,by decide +kernel⟩ (by decide +kernel) (cT (pdv 0)) (λcs C fp s2 H2=>aJ (i:=0) (show(["_law_one"]:List Str).Nodup by decide +kernel)) ?_ ?_
  intro cs C fp s2 H2
  exact sS (aY (nR hr) (pdv 0) aB)
  intro cs C fp s2 H2
  exact pdv 0
  refine aD ?_
  refine aL ?_
  refine pG T.b_tuple ?_
  refine aj ?_ aq
  refine iV ?_
  refine iY (own:=["_law_one"]) (cap:=["_law_common"]) (capI:=[1]) (ts:=[0]) rfl ⟨rfl,by decide +kernel,⟨⟨rfl,by first|exact Or.inl rfl|exact Or.inr rfl⟩,trivial⟩,by decide +kernel,by decide +kernel⟩ (by decide +kernel) (cT (pdv 0)) (λcs C fp s2 H2=>aJ (i:=0) (show(["_law_one","_law_common"]:List Str).Nodup by decide +kernel)) ?_ ?_
  intro cs C fp s2 H2
  exact cR
  intro cs C fp s2 H2
  exact aH gG (pdv 0) (pdv 1)
abbrev qI:Stmt:=top 16
theorem tL:aX ["many","size","rows","length"] ["many","size"] (aK qI):=⟨rfl,rfl,rfl,by decide +kernel,rfl,by decide +kernel,by decide +kernel⟩
theorem Ae(T:BI K mg)(F:fu K "choices" "choices" qI f fd Tb)(KB:K.In base)(hmg:mg "choices"=some (.ref f)):FI P w K mg base tb "choices" 2 (0+1) (aG 4 (jt)):=
 dg F KB hmg tL rfl (λ_ _ _ _ _ _=>us2 λ_ _=>rfl) λc A outer s H E hcd hr=>by
  have nd:=tL.nd
  refine aA (aV (i:=2) nd (jy (aj (kI aq) aq))) ?_
  refine aA ?_ (aD (aL (pdv 2)))
  refine dR (ts:=[3]) PassesOwn.never rfl (dH T.b_range (aj (pdv 1) aq)) (aJ (i:=3) nd) ?_
  refine aD ?_
  refine FT (i:=2) nd (own:=["row","number"]) (cap:=["many"]) (capI:=[0]) (ts1:=[0]) (ts2:=[1]) rfl ⟨rfl,by decide +kernel,⟨⟨rfl,by first|exact Or.inl rfl|exact Or.inr rfl⟩,trivial⟩,by decide +kernel,by decide +kernel⟩ (by decide +kernel) (cT (pdv 2)) (λcs C fp s2 H2=>aJ (i:=0) (show(["row","number","many"]:List Str).Nodup by decide +kernel)) ?_ ?_ (λcs C fp s2 H2=>aJ (i:=1) (show(["row","number","many"]:List Str).Nodup by decide +kernel)) ?_ ?_
  intro cs C fp s2 H2
  exact cR
  intro cs C fp s2 H2
  refine Ab T.b_range ?_
  refine aj ?_ (aj (pdv 2) aq)
  exact Gu (jd (pdv 0)) (aH dw (fH (pdv 0) (iU aB)) aB) aB
  intro cs C fp s2 H2
  exact cR
  intro cs C fp s2 H2
  exact kI (ur (pdv 0) (aj (pdv 1) aq))
abbrev iy:Stmt:=top 3
theorem jQ:aX ["one","other"] ["one","other"] (aK iy):=⟨rfl,rfl,rfl,by decide +kernel,rfl,by decide +kernel,by decide +kernel⟩
theorem pI(T:BI K mg)(F:fu K "divisor_of_two" "divisor_of_two" iy f fd Tb)(KB:K.In base)(hmg:mg "divisor_of_two"=some (.ref f)):FI P w K mg base tb "divisor_of_two" 2 (0+1) (aG 2 (cA)):=
 dg F KB hmg jQ rfl (λ_ _ _ _ _ _=>us2 λ_ _=>rfl) λc A outer s H E hcd hr=>by
  have nd:=jQ.nd
  refine aA ?_ ?_
  refine wL (i:=0) (j:=1) rfl nd ?_
  exact aj (ug T.b_abs (aj (pdv 0) aq)) (aj (ug T.b_abs (aj (pdv 1) aq)) aq)
  refine aA ?_ (aD (aL (pdv 0)))
  refine pY PassesOwn.never (aY (nR hr) (pdv 1) aB) ?_
  refine aD ?_
  exact wL (i:=0) (j:=1) rfl nd (aj (pdv 1) (aj (aH cJ (pdv 0) (pdv 1)) aq))
abbrev iC:Stmt:=top 4
theorem jW:aX ["numbers","found","number"] ["numbers"] (aK iC):=⟨rfl,rfl,rfl,by decide +kernel,rfl,by decide +kernel,by decide +kernel⟩
theorem oR{aQ:FF}(T:BI K mg)(F:fu K "common_divisor" "common_divisor" iC f fd Tb)(KB:K.In base)(hmg:mg "common_divisor"=some (.ref f))(F_divisor_of_two:FI P w K mg base tb "divisor_of_two" 2 1 aQ):FI P w K mg base tb "common_divisor" 1 (1+1) (aG 3 (cZ aQ)):=
 dg F KB hmg jW rfl (λ_ _ _ _ _ _=>us1 λ_=>rfl) λc A outer s H E hcd hr=>by
  have nd:=jW.nd
  refine aA (aV (i:=1) nd aB) ?_
  refine aA ?_ (aD (aL (pdv 1)))
  refine dR (ts:=[2]) PassesOwn.never rfl (cT (pdv 0)) (aJ (i:=2) nd) ?_
  refine aA ?_ ?_
  exact aV (i:=1) nd (aN F_divisor_of_two (hr.mono (by decide)) (aj (pdv 1) (aj (pdv 2) aq)) (aF (aF aO)))
  exact aD (cF (aY (jD hr) (pdv 1) aB) (aD Et) bj)
abbrev oA:Stmt:=top 6
theorem qU:aX ["numbers","common"] ["numbers"] (aK oA):=⟨rfl,rfl,rfl,by decide +kernel,rfl,by decide +kernel,by decide +kernel⟩
theorem yG{bJ:FF}(T:BI K mg)(F:fu K "lessened" "lessened" oA f fd Tb)(KB:K.In base)(hmg:mg "lessened"=some (.ref f))(F_common_divisor:FI P w K mg base tb "common_divisor" 1 2 bJ)(hT:Tb∈tb):FI P w K mg base tb "lessened" 1 (3+1) (aG 2 (gK bJ)):=
 dg F KB hmg qU rfl (λ_ _ _ _ _ _=>us1 λ_=>rfl) λc A outer s H E hcd hr=>by
  have nd:=qU.nd
  refine aA ?_ ?_
  exact aV (i:=1) nd (aN F_common_divisor (hr.mono (by decide)) (aj (pdv 0) aq) (aF aO))
  refine aD ?_
  refine aL ?_
  refine Cg rfl T.b_tuple ?_
  refine lg (own:=["number"]) (cap:=["common"]) (capI:=[1]) (ts:=[0]) rfl hr ⟨rfl,by decide +kernel,⟨⟨rfl,by first|exact Or.inl rfl|exact Or.inr rfl⟩,trivial⟩,by decide +kernel,by decide +kernel⟩ (by decide +kernel) (by decide +kernel) hT ⟨c,rfl,hcd⟩ (cT (pdv 0)) (λAG cs C code fp s2 H2=>aJ (i:=0) (show(["number","common"]:List Str).Nodup by decide +kernel)) ?_
  intro AG cs C code fp s2 H2 hm
  have hg1:=hm _ hr
  exact aH gG (pdv 0) (pdv 1)
abbrev qz:Stmt:=top 14
theorem sU:aX ["row","other","column"] ["row","other","column"] (aK qz):=⟨rfl,rfl,rfl,by decide +kernel,rfl,by decide +kernel,by decide +kernel⟩
theorem Be{bK:FF}(T:BI K mg)(F:fu K "cleared" "cleared" qz f fd Tb)(KB:K.In base)(hmg:mg "cleared"=some (.ref f))(F_lessened:FI P w K mg base tb "lessened" 1 4 bK):FI P w K mg base tb "cleared" 3 (4+1) (aG 3 (jr bK)):=
 dg F KB hmg sU rfl (λ_ _ _ _ _ _=>us3 λ_ _ _=>rfl) λc A outer s H E hcd hr=>by
  have nd:=sU.nd
  refine aD ?_
  refine aL ?_
  refine aN F_lessened (hr.mono (by decide)) ?_ (aF aO)
  refine aj ?_ aq
  refine iV ?_
  refine iY (own:=["mine","its"]) (cap:=["other","column","row"]) (capI:=[1,2,0]) (ts:=[0,1]) rfl ⟨rfl,by decide +kernel,⟨⟨rfl,by first|exact Or.inl rfl|exact Or.inr rfl⟩,⟨⟨rfl,by first|exact Or.inl rfl|exact Or.inr rfl⟩,⟨⟨rfl,by first|exact Or.inl rfl|exact Or.inr rfl⟩,trivial⟩⟩⟩,by decide +kernel,by decide +kernel⟩ (by decide +kernel) (pP T.b_zip (aj (pdv 0) (aj (pdv 1) aq))) (λcs C fp s2 H2=>gA rfl (bc (aJ (i:=0) (show(["mine","its","other","column","row"]:List Str).Nodup by decide +kernel)) (bc (aJ (i:=1) (show(["mine","its","other","column","row"]:List Str).Nodup by decide +kernel)) eY))) ?_ ?_
  intro cs C fp s2 H2
  exact cR
  intro cs C fp s2 H2
  exact aH nZ (aH eZ (pdv 0) (fH (pdv 2) (pdv 3))) (aH eZ (pdv 1) (fH (pdv 4) (pdv 3)))
abbrev mH:Stmt:=top 13
theorem pR:aX ["numbers","at","number"] ["numbers"] (aK mH):=⟨rfl,rfl,rfl,by decide +kernel,rfl,by decide +kernel,by decide +kernel⟩
theorem xG(T:BI K mg)(F:fu K "first_set" "first_set" mH f fd Tb)(KB:K.In base)(hmg:mg "first_set"=some (.ref f)):FI P w K mg base tb "first_set" 1 (0+1) (aG 3 (eN)):=
 dg F KB hmg pR rfl (λ_ _ _ _ _ _=>us1 λ_=>rfl) λc A outer s H E hcd hr=>by
  have nd:=pR.nd
  refine aA ?_ (aD (aL oH))
  refine dR (ts:=[1,2]) PassesOwn.never rfl (lZ T.b_enumerate (aj (pdv 0) aq)) (gA rfl (bc (aJ (i:=1) nd) (bc (aJ (i:=2) nd) eY))) ?_
  refine aD ?_
  exact cF (aY (nR hr) (pdv 2) aB) (aD (aL (pdv 1))) bj
abbrev nT:Stmt:=top 15
theorem qX:aX ["lines","kept","at","line","width","made_of","row","column","other","own_column"] ["lines"] (aK nT):=⟨rfl,rfl,rfl,by decide +kernel,rfl,by decide +kernel,by decide +kernel⟩
theorem ym{gF bx:FF}(T:BI K mg)(F:fu K "line_tie" "line_tie" nT f fd Tb)(KB:K.In base)(hmg:mg "line_tie"=some (.ref f))(F_cleared:FI P w K mg base tb "cleared" 3 5 gF)(F_first_set:FI P w K mg base tb "first_set" 1 1 bx):FI P w K mg base tb "line_tie" 1 (5+1) (aG 10 (fP gF bx)):=
 dg F KB hmg qX rfl (λ_ _ _ _ _ _=>us1 λ_=>rfl) λc A outer s H E hcd hr=>by
  have nd:=qX.nd
  refine aA (aV (i:=1) nd (rT (su aq))) ?_
  refine aA ?_ (aD (aL oH))
  refine dR (ts:=[2,3]) PassesOwn.never rfl (lZ T.b_enumerate (aj (pdv 0) aq)) (gA rfl (bc (aJ (i:=2) nd) (bc (aJ (i:=3) nd) eY))) ?_
  refine aA (aV (i:=4) nd (gf T.b_len (aj (pdv 3) aq))) ?_
  refine aA ?_ ?_
  refine sG (i:=5) nd (own:=["k"]) (cap:=["at"]) (capI:=[2]) (ts:=[0]) rfl ⟨rfl,by decide +kernel,⟨⟨rfl,by first|exact Or.inl rfl|exact Or.inr rfl⟩,trivial⟩,by decide +kernel,by decide +kernel⟩ (by decide +kernel) (dH T.b_range (aj (gf T.b_len (aj (pdv 0) aq)) aq)) (λcs C fp s2 H2=>aJ (i:=0) (show(["k","at"]:List Str).Nodup by decide +kernel)) ?_ ?_
  intro cs C fp s2 H2
  exact cR
  intro cs C fp s2 H2
  exact Gu (aY (jD hr) (pdv 0) (pdv 1)) aB aB
  refine aA (aV (i:=6) nd (kI (ur (pdv 3) (ur (pdv 5) aq)))) ?_
  refine aA ?_ ?_
  refine dR (ts:=[7,8]) PassesOwn.never rfl (cT (pdv 1)) (gA rfl (bc (aJ (i:=7) nd) (bc (aJ (i:=8) nd) eY))) ?_
  refine aD ?_
  refine aV (i:=6) nd ?_
  exact aN F_cleared (hr.mono (by decide)) (aj (pdv 6) (aj (pdv 8) (aj (pdv 7) aq))) (aF (aF (aF aO)))
  refine aA ?_ ?_
  refine aV (i:=9) nd ?_
  exact aN F_first_set (hr.mono (by decide)) (aj (jx (pdv 6) jJ (jA (pdv 4))) aq) (aF aO)
  refine aA ?_ ?_
  exact cF (aY GP (pdv 9) oH) (aD (aL (jx (pdv 6) (jA (pdv 4)) jJ))) bj
  refine aD ?_
  refine lq ?_
  refine jq (pdv 1) ?_
  exact aj (kI (aj (pdv 9) (aj (pdv 6) aq))) aq
abbrev oG:Stmt:=top 17
theorem rm:aX ["points","size"] ["points"] (aK oG):=⟨rfl,rfl,rfl,by decide +kernel,rfl,by decide +kernel,by decide +kernel⟩
theorem yU{fO bI:FF}(T:BI K mg)(F:fu K "is_plain" "is_plain" oG f fd Tb)(KB:K.In base)(hmg:mg "is_plain"=some (.ref f))(F_choices:FI P w K mg base tb "choices" 2 1 fO)(F_line_tie:FI P w K mg base tb "line_tie" 1 6 bI)(hT:Tb∈tb):FI P w K mg base tb "is_plain" 1 (7+1) (aG 2 (gM fO bI)):=
 dg F KB hmg rm rfl (λ_ _ _ _ _ _=>us1 λ_=>rfl) λc A outer s H E hcd hr=>by
  have nd:=rm.nd
  refine aA ?_ ?_
  exact cF (mY (jd (pdv 0))) (aD (aL lJ)) bj
  refine aA ?_ ?_
  refine aV (i:=1) nd ?_
  refine xY rfl T.b_min ?_
  refine aj (gf T.b_len (aj (pdv 0) aq)) ?_
  exact aj (gf T.b_len (aj (fH (pdv 0) aB) aq)) aq
  refine aD ?_
  refine aL ?_
  refine Bk rfl T.b_all ?_
  refine tZ ?_
  refine lg (own:=["chosen"]) (cap:=["points"]) (capI:=[0]) (ts:=[0]) rfl hr ⟨rfl,by decide +kernel,⟨⟨rfl,by first|exact Or.inl rfl|exact Or.inr rfl⟩,trivial⟩,by decide +kernel,by decide +kernel⟩ (by decide +kernel) (by decide +kernel) hT ⟨c,rfl,hcd⟩ ?_ (λAG cs C code fp s2 H2=>aJ (i:=0) (show(["chosen","points"]:List Str).Nodup by decide +kernel)) ?_
  refine cT ?_
  refine aN F_choices (hr.mono (by decide)) ?_ (aF (aF aO))
  exact aj (gf T.b_len (aj (pdv 0) aq)) (aj (pdv 1) aq)
  intro AG cs C code fp s2 H2 hm
  have hg1:=hm _ hr
  refine ux GP ?_ oH
  refine aN F_line_tie (hg1.mono (by decide)) ?_ (aF aO)
  refine aj ?_ aq
  refine iV ?_
  refine iY (own:=["k"]) (cap:=["points"]) (capI:=[1]) (ts:=[0]) rfl ⟨rfl,by decide +kernel,⟨⟨rfl,by first|exact Or.inl rfl|exact Or.inr rfl⟩,trivial⟩,by decide +kernel,by decide +kernel⟩ (by decide +kernel) (cT (pdv 0)) (λcs C fp s2 H2=>aJ (i:=0) (show(["k","points"]:List Str).Nodup by decide +kernel)) ?_ ?_
  intro cs C fp s2 H2
  exact cR
  intro cs C fp s2 H2
  exact fH (pdv 1) (pdv 0)
abbrev Hy:Stmt:=top 18
theorem Ig:aX ["points","found","numbers","sign"] ["points"] (aK Hy):=⟨rfl,rfl,rfl,by decide +kernel,rfl,by decide +kernel,by decide +kernel⟩
theorem Ou{bI bK bx:FF}(T:BI K mg)(F:fu K "tie" "tie" Hy f fd Tb)(KB:K.In base)(hmg:mg "tie"=some (.ref f))(F_line_tie:FI P w K mg base tb "line_tie" 1 6 bI)(F_lessened:FI P w K mg base tb "lessened" 1 4 bK)(F_first_set:FI P w K mg base tb "first_set" 1 1 bx)(hT:Tb∈tb):FI P w K mg base tb "tie" 1 (7+1) (aG 4 (oU bI bK bx)):=
 dg F KB hmg Ig rfl (λ_ _ _ _ _ _=>us1 λ_=>rfl) λc A outer s H E hcd hr=>by
  have nd:=Ig.nd
  refine aA ?_ ?_
  exact aV (i:=1) nd (aN F_line_tie (hr.mono (by decide)) (aj (pdv 0) aq) (aF aO))
  refine aA ?_ ?_
  exact cF (aY GP (pdv 1) oH) (aD (aL oH)) bj
  refine aA ?_ ?_
  refine aV (i:=2) nd ?_
  refine aN F_lessened (hr.mono (by decide)) ?_ (aF aO)
  refine aj ?_ aq
  refine iV ?_
  refine iY (own:=["number","point"]) (cap:=[]) (capI:=[]) (ts:=[0,1]) rfl ⟨rfl,by decide +kernel,trivial,by decide +kernel,by decide +kernel⟩ (by decide +kernel) (pP T.b_zip (aj (pdv 1) (aj (pdv 0) aq))) (λcs C fp s2 H2=>gA rfl (bc (aJ (i:=0) (show(["number","point"]:List Str).Nodup by decide +kernel)) (bc (aJ (i:=1) (show(["number","point"]:List Str).Nodup by decide +kernel)) eY))) ?_ ?_
  intro cs C fp s2 H2
  exact cR
  intro cs C fp s2 H2
  exact aH eZ (pdv 0) (fH (pdv 1) (iU aB))
  refine aA ?_ ?_
  refine aV (i:=3) nd ?_
  refine Gu ?_ aB (iU aB)
  refine aY Ml ?_ aB
  exact fH (pdv 2) (aN F_first_set (hr.mono (by decide)) (aj (pdv 2) aq) (aF aO))
  refine aD ?_
  refine aL ?_
  refine Cg rfl T.b_tuple ?_
  refine lg (own:=["number"]) (cap:=["sign"]) (capI:=[3]) (ts:=[0]) rfl hr ⟨rfl,by decide +kernel,⟨⟨rfl,by first|exact Or.inl rfl|exact Or.inr rfl⟩,trivial⟩,by decide +kernel,by decide +kernel⟩ (by decide +kernel) (by decide +kernel) hT ⟨c,rfl,hcd⟩ (cT (pdv 2)) (λAG cs C code fp s2 H2=>aJ (i:=0) (show(["number","sign"]:List Str).Nodup by decide +kernel)) ?_
  intro AG cs C code fp s2 H2 hm
  have hg1:=hm _ hr
  exact aH eZ (pdv 1) (pdv 0)
abbrev wU:Stmt:=top 28
theorem zp:aX ["_law_one","_law_other"] ["_law_one","_law_other"] (aK wU):=⟨rfl,rfl,rfl,by decide +kernel,rfl,by decide +kernel,by decide +kernel⟩
theorem kZ{cL:FF}(T:BI K mg)(F:fu K "_law_same" "_law_same" wU f fd Tb)(KB:K.In base)(hmg:mg "_law_same"=some (.ref f)){k:Nat}(hk:0<=k)(F_Lsame:FI P w K mg base tb "_law_same" 2 k cL):FI P w K mg base tb "_law_same" 2 (k+1) (aG 2 (gY cL)):=
 dg F KB hmg zp rfl (λ_ _ _ _ _ _=>us2 λ_ _=>rfl) λc A outer s H E hcd hr=>by
  have nd:=zp.nd
  refine aA ?_ ?_
  refine cF ?_ (aD (aL lJ)) bj
  refine qp ?_
  refine qC ?_ ?_
  refine aY (nR hr) ?_ ?_
  exact iT T.b_isinstance T.b_tuple PyProof.Rows.boot_tuple (by decide) (pdv 0)
  exact iT T.b_isinstance T.b_tuple PyProof.Rows.boot_tuple (by decide) (pdv 1)
  refine rM ?_
  refine aY (nR hr) ?_ ?_
  exact iT T.b_isinstance T.b_list PyProof.Rows.boot_list (by decide) (pdv 0)
  exact iT T.b_isinstance T.b_list PyProof.Rows.boot_list (by decide) (pdv 1)
  refine aA ?_ ?_
  refine cF ?_ ?_ bj
  refine qp ?_
  refine qC ?_ ?_
  refine jd ?_
  exact iT T.b_isinstance T.b_tuple PyProof.Rows.boot_tuple (by decide) (pdv 0)
  refine rM ?_
  refine jd ?_
  exact iT T.b_isinstance T.b_list PyProof.Rows.boot_list (by decide) (pdv 0)
  refine aA ?_ ?_
  refine cF ?_ (aD (aL lJ)) bj
  exact aY (nR hr) (gf T.b_len (aj (pdv 0) aq)) (gf T.b_len (aj (pdv 1) aq))
  refine aD ?_
  refine aL ?_
  refine Bk rfl T.b_all ?_
  refine qN rfl ?_
  refine iV ?_
  refine iY (own:=["_law_here","_law_there"]) (cap:=[]) (capI:=[]) (ts:=[0,1]) rfl ⟨rfl,by decide +kernel,trivial,by decide +kernel,by decide +kernel⟩ (by decide +kernel) (pP T.b_zip (aj (pdv 0) (aj (pdv 1) aq))) (λcs C fp s2 H2=>gA rfl (bc (aJ (i:=0) (show(["_law_here","_law_there"]:List Str).Nodup by decide +kernel)) (bc (aJ (i:=1) (show(["_law_here","_law_there"]:List Str).Nodup by decide +kernel)) eY))) ?_ ?_
  intro cs C fp s2 H2
  exact cR
  intro cs C fp s2 H2
  exact aN F_Lsame (hr.mono (by first|decide|omega)) (aj (pdv 0) (aj (pdv 1) aq)) (aF (aF aO))
  refine aD ?_
  refine aL ?_
  refine xN ?_ (rZ (ux (jD hr) (pdv 0) (pdv 1)))
  refine ux (jD hr) ?_ ?_
  exact iT T.b_isinstance T.b_bool PyProof.Rows.boot_bool (by decide) (pdv 0)
  exact iT T.b_isinstance T.b_bool PyProof.Rows.boot_bool (by decide) (pdv 1)
abbrev ye:Stmt:=top 33
theorem yp:aX ["_law_numbers","_law_number","_law_size","_law_found","_law_at","_law_other"] ["_law_numbers","_law_number"] (aK ye):=⟨rfl,rfl,rfl,by decide +kernel,rfl,by decide +kernel,by decide +kernel⟩
theorem Hu(T:BI K mg)(F:fu K "_law_bent" "_law_bent" ye f fd Tb)(KB:K.In base)(hmg:mg "_law_bent"=some (.ref f)):FI P w K mg base tb "_law_bent" 2 (0+1) (aG 6 (mj)):=
 dg F KB hmg yp rfl (λ_ _ _ _ _ _=>us2 λ_ _=>rfl) λc A outer s H E hcd hr=>by
  have nd:=yp.nd
  refine aA ?_ ?_
  refine aV (i:=2) nd ?_
  refine fH ?_ (aH cJ (pdv 1) aB)
  refine jy ?_
  refine aj aB ?_
  refine aj (iU aB) ?_
  refine aj aB ?_
  refine aj aB ?_
  exact aj (iU aB) (aj (aH Aq aB aB) aq)
  refine aA ?_ ?_
  refine Jy (i:=3) nd (own:=["_law_one"]) (cap:=["_law_size"]) (capI:=[2]) (ts:=[0]) rfl ⟨rfl,by decide +kernel,⟨⟨rfl,by first|exact Or.inl rfl|exact Or.inr rfl⟩,trivial⟩,by decide +kernel,by decide +kernel⟩ (by decide +kernel) (cT (pdv 0)) (λcs C fp s2 H2=>aJ (i:=0) (show(["_law_one","_law_size"]:List Str).Nodup by decide +kernel)) ?_ ?_
  intro cs C fp s2 H2
  exact cR
  intro cs C fp s2 H2
  exact aH eZ (pdv 1) (pdv 0)
  refine aA ?_ ?_
  refine aV (i:=4) nd ?_
  exact aH cJ (aH gG (pdv 1) aB) (gf T.b_len (aj (pdv 3) aq))
  refine aA ?_ ?_
  refine aV (i:=5) nd ?_
  exact aH cJ (aH gG (pdv 1) aB) (gf T.b_len (aj (pdv 3) aq))
  refine aA ?_ ?_
  refine cF (aY Ml (aH cJ (aH gG (pdv 1) aB) aB) aB) ?_ bj
  refine aD ?_
  refine Ck ?_ (pdv 3) (pdv 4)
  refine aH dw (fH (pdv 3) (pdv 4)) ?_
  refine fH ?_ (aH cJ (aH gG (pdv 1) aB) aB)
  refine jy ?_
  exact aj aB (aj (iU aB) (aj (pdv 2) aq))
  refine aA ?_ (aD (aL (pG T.b_tuple (aj (Aw (pdv 3)) aq))))
  refine cF (aY (jD hr) (aH cJ (aH gG (pdv 1) aB) aB) aB) ?_ bj
  refine aD ?_
  refine Ck ?_ (pdv 3) (pdv 5)
  refine aH nZ (fH (pdv 3) (pdv 5)) ?_
  refine fH ?_ (aH cJ (aH gG (pdv 1) aB) aB)
  refine jy ?_
  exact aj aB (aj (iU aB) (aj (pdv 2) aq))
abbrev jw:Stmt:=top 32
theorem lK:aX ["_law_numbers","_law_thing"] ["_law_numbers","_law_thing"] (aK jw):=⟨rfl,rfl,rfl,by decide +kernel,rfl,by decide +kernel,by decide +kernel⟩
theorem rJ{aU:FF}(T:BI K mg)(F:fu K "_law_is_multiple" "_law_is_multiple" jw f fd Tb)(KB:K.In base)(hmg:mg "_law_is_multiple"=some (.ref f))(F_Llowest_row:FI P w K mg base tb "_law_lowest_row" 1 2 aU):FI P w K mg base tb "_law_is_multiple" 2 (2+1) (aG 2 (dX aU)):=
 dg F KB hmg lK rfl (λ_ _ _ _ _ _=>us2 λ_ _=>rfl) λc A outer s H E hcd hr=>by
  have nd:=lK.nd
  refine aA ?_ ?_
  refine cF ?_ (aD (aL lJ)) bj
  refine aY (jD hr) ?_ (jy aq)
  refine iV ?_
  refine iY (own:=["_law_one"]) (cap:=[]) (capI:=[]) (ts:=[0]) rfl ⟨rfl,by decide +kernel,trivial,by decide +kernel,by decide +kernel⟩ (by decide +kernel) (cT (pdv 1)) (λcs C fp s2 H2=>aJ (i:=0) (show(["_law_one"]:List Str).Nodup by decide +kernel)) ?_ ?_
  intro cs C fp s2 H2
  exact sS (aY (nR hr) (pdv 0) aB)
  intro cs C fp s2 H2
  exact pdv 0
  refine aD ?_
  refine aL ?_
  exact ux (jD hr) (aN F_Llowest_row (hr.mono (by decide)) (aj (pdv 1) aq) (aF aO)) (pdv 0)
abbrev lQ:Stmt:=top 1
theorem oV:aX ["thing"] ["thing"] (aK lQ):=⟨rfl,rfl,rfl,by decide +kernel,rfl,by decide +kernel,by decide +kernel⟩
theorem wM(T:BI K mg)(F:fu K "is_number" "is_number" lQ f fd Tb)(KB:K.In base)(hmg:mg "is_number"=some (.ref f)):FI P w K mg base tb "is_number" 1 (0+1) (aG 1 (fQ)):=
 dg F KB hmg oV rfl (λ_ _ _ _ _ _=>us1 λ_=>rfl) λc A outer s H E hcd hr=>by
  have nd:=oV.nd
  refine aD ?_
  refine aL ?_
  refine xN ?_ ?_
  exact iT T.b_isinstance T.b_int PyProof.Rows.boot_int (by decide) (pdv 0)
  refine rZ ?_
  refine Fq ?_
  exact iT T.b_isinstance T.b_bool PyProof.Rows.boot_bool (by decide) (pdv 0)
abbrev lD:Stmt:=top 2
theorem nQ:aX ["thing"] ["thing"] (aK lD):=⟨rfl,rfl,rfl,by decide +kernel,rfl,by decide +kernel,by decide +kernel⟩
theorem uQ{dB:FF}(T:BI K mg)(F:fu K "is_numbers" "is_numbers" lD f fd Tb)(KB:K.In base)(hmg:mg "is_numbers"=some (.ref f))(F_is_number:FI P w K mg base tb "is_number" 1 1 dB)(hT:Tb∈tb):FI P w K mg base tb "is_numbers" 1 (2+1) (aG 1 (dz dB)):=
 dg F KB hmg nQ rfl (λ_ _ _ _ _ _=>us1 λ_=>rfl) λc A outer s H E hcd hr=>by
  have nd:=nQ.nd
  refine aD ?_
  refine aL ?_
  refine xN ?_ ?_
  exact iT T.b_isinstance T.b_tuple PyProof.Rows.boot_tuple (by decide) (pdv 0)
  refine rZ ?_
  refine Bk rfl T.b_all ?_
  refine tZ ?_
  refine lg (own:=["part"]) (cap:=[]) (capI:=[]) (ts:=[0]) rfl hr ⟨rfl,by decide +kernel,trivial,by decide +kernel,by decide +kernel⟩ (by decide +kernel) (by decide +kernel) hT ⟨c,rfl,hcd⟩ (cT (pdv 0)) (λAG cs C code fp s2 H2=>aJ (i:=0) (show(["part"]:List Str).Nodup by decide +kernel)) ?_
  intro AG cs C code fp s2 H2 hm
  have hg1:=hm _ hr
  exact aN F_is_number (hg1.mono (by decide)) (aj (pdv 0) aq) (aF aO)
abbrev gQ:Stmt:=top 5
theorem jM:aX ["numbers","found","number"] ["numbers"] (aK gQ):=⟨rfl,rfl,rfl,by decide +kernel,rfl,by decide +kernel,by decide +kernel⟩
theorem oE{aQ:FF}(T:BI K mg)(F:fu K "common_multiple" "common_multiple" gQ f fd Tb)(KB:K.In base)(hmg:mg "common_multiple"=some (.ref f))(F_divisor_of_two:FI P w K mg base tb "divisor_of_two" 2 1 aQ):FI P w K mg base tb "common_multiple" 1 (1+1) (aG 3 (cO aQ)):=
 dg F KB hmg jM rfl (λ_ _ _ _ _ _=>us1 λ_=>rfl) λc A outer s H E hcd hr=>by
  have nd:=jM.nd
  refine aA (aV (i:=1) nd aB) ?_
  refine aA ?_ (aD (aL (pdv 1)))
  refine dR (ts:=[2]) PassesOwn.never rfl (cT (pdv 0)) (aJ (i:=2) nd) ?_
  refine aD ?_
  refine Bf (i:=1) nd ?_
  exact aH gG (pdv 2) (aN F_divisor_of_two (hr.mono (by decide)) (aj (pdv 1) (aj (pdv 2) aq)) (aF (aF aO)))
abbrev jC:Stmt:=top 10
theorem lM:aX ["points","numbers","whole"] ["points","numbers"] (aK jC):=⟨rfl,rfl,rfl,by decide +kernel,rfl,by decide +kernel,by decide +kernel⟩
theorem rD{bR:FF}(T:BI K mg)(F:fu K "over_bottoms" "over_bottoms" jC f fd Tb)(KB:K.In base)(hmg:mg "over_bottoms"=some (.ref f))(F_common_multiple:FI P w K mg base tb "common_multiple" 1 2 bR):FI P w K mg base tb "over_bottoms" 2 (2+1) (aG 3 (dY bR)):=
 dg F KB hmg lM rfl (λ_ _ _ _ _ _=>us2 λ_ _=>rfl) λc A outer s H E hcd hr=>by
  have nd:=lM.nd
  refine aA ?_ ?_
  refine aV (i:=2) nd ?_
  refine aN F_common_multiple (hr.mono (by decide)) ?_ (aF aO)
  refine aj ?_ aq
  refine iV ?_
  refine iY (own:=["point"]) (cap:=[]) (capI:=[]) (ts:=[0]) rfl ⟨rfl,by decide +kernel,trivial,by decide +kernel,by decide +kernel⟩ (by decide +kernel) (cT (pdv 0)) (λcs C fp s2 H2=>aJ (i:=0) (show(["point"]:List Str).Nodup by decide +kernel)) ?_ ?_
  intro cs C fp s2 H2
  exact cR
  intro cs C fp s2 H2
  exact fH (pdv 0) (iU aB)
  refine aD ?_
  refine aL ?_
  refine iV ?_
  refine iY (own:=["number","point"]) (cap:=["whole"]) (capI:=[2]) (ts:=[0,1]) rfl ⟨rfl,by decide +kernel,⟨⟨rfl,by first|exact Or.inl rfl|exact Or.inr rfl⟩,trivial⟩,by decide +kernel,by decide +kernel⟩ (by decide +kernel) (pP T.b_zip (aj (pdv 1) (aj (pdv 0) aq))) (λcs C fp s2 H2=>gA rfl (bc (aJ (i:=0) (show(["number","point","whole"]:List Str).Nodup by decide +kernel)) (bc (aJ (i:=1) (show(["number","point","whole"]:List Str).Nodup by decide +kernel)) eY))) ?_ ?_
  intro cs C fp s2 H2
  exact cR
  intro cs C fp s2 H2
  exact aH eZ (pdv 0) (aH gG (pdv 2) (fH (pdv 1) (iU aB)))
abbrev gR:Stmt:=top 7
theorem jz:aX ["ones","others"] ["ones","others"] (aK gR):=⟨rfl,rfl,rfl,by decide +kernel,rfl,by decide +kernel,by decide +kernel⟩
theorem ou(T:BI K mg)(F:fu K "sum_of_products" "sum_of_products" gR f fd Tb)(KB:K.In base)(hmg:mg "sum_of_products"=some (.ref f))(hT:Tb∈tb):FI P w K mg base tb "sum_of_products" 2 (1+1) (aG 2 (cM)):=
 dg F KB hmg jz rfl (λ_ _ _ _ _ _=>us2 λ_ _=>rfl) λc A outer s H E hcd hr=>by
  have nd:=jz.nd
  refine aD ?_
  refine aL ?_
  refine Nu rfl T.b_sum ?_
  refine tZ ?_
  refine lg (own:=["one","other"]) (cap:=[]) (capI:=[]) (ts:=[0,1]) rfl hr ⟨rfl,by decide +kernel,trivial,by decide +kernel,by decide +kernel⟩ (by decide +kernel) (by decide +kernel) hT ⟨c,rfl,hcd⟩ (pP T.b_zip (aj (pdv 0) (aj (pdv 1) aq))) (λAG cs C code fp s2 H2=>gA rfl (bc (aJ (i:=0) (show(["one","other"]:List Str).Nodup by decide +kernel)) (bc (aJ (i:=1) (show(["one","other"]:List Str).Nodup by decide +kernel)) eY))) ?_
  intro AG cs C code fp s2 H2 hm
  have hg1:=hm _ hr
  exact aH eZ (pdv 0) (pdv 1)
abbrev qi:Stmt:=top 8
theorem sX:aX ["rows","weights"] ["rows","weights"] (aK qi):=⟨rfl,rfl,rfl,by decide +kernel,rfl,by decide +kernel,by decide +kernel⟩
theorem Al{bQ:FF}(T:BI K mg)(F:fu K "weighed" "weighed" qi f fd Tb)(KB:K.In base)(hmg:mg "weighed"=some (.ref f))(F_sum_of_products:FI P w K mg base tb "sum_of_products" 2 2 bQ):FI P w K mg base tb "weighed" 2 (2+1) (aG 2 (jm bQ)):=
 dg F KB hmg sX rfl (λ_ _ _ _ _ _=>us2 λ_ _=>rfl) λc A outer s H E hcd hr=>by
  have nd:=sX.nd
  refine aD ?_
  refine aL ?_
  refine iV ?_
  refine iY (own:=["at"]) (cap:=["weights","rows"]) (capI:=[1,0]) (ts:=[0]) rfl ⟨rfl,by decide +kernel,⟨⟨rfl,by first|exact Or.inl rfl|exact Or.inr rfl⟩,⟨⟨rfl,by first|exact Or.inl rfl|exact Or.inr rfl⟩,trivial⟩⟩,by decide +kernel,by decide +kernel⟩ (by decide +kernel) ?_ (λcs C fp s2 H2=>aJ (i:=0) (show(["at","weights","rows"]:List Str).Nodup by decide +kernel)) ?_ ?_
  refine dH T.b_range ?_
  exact aj (gf T.b_len (aj (fH (pdv 0) aB) aq)) aq
  intro cs C fp s2 H2
  exact cR
  intro cs C fp s2 H2
  refine aN F_sum_of_products (hr.mono (by decide)) ?_ (aF (aF aO))
  refine aj (pdv 1) ?_
  refine aj ?_ aq
  refine iV ?_
  refine iY (own:=["row"]) (cap:=["at"]) (capI:=[0]) (ts:=[0]) rfl ⟨rfl,by decide +kernel,⟨⟨rfl,by first|exact Or.inl rfl|exact Or.inr rfl⟩,trivial⟩,by decide +kernel,by decide +kernel⟩ (by decide +kernel) (cT (pdv 2)) (λcs C fp s2 H2=>aJ (i:=0) (show(["row","at"]:List Str).Nodup by decide +kernel)) ?_ ?_
  intro cs C fp s2 H2
  exact cR
  intro cs C fp s2 H2
  exact fH (pdv 0) (pdv 1)
abbrev lX:Stmt:=top 12
theorem oJ:aX ["points","thing"] ["points","thing"] (aK lX):=⟨rfl,rfl,rfl,by decide +kernel,rfl,by decide +kernel,by decide +kernel⟩
theorem wY{cY cQ gJ:FF}(T:BI K mg)(F:fu K "tie_holds" "tie_holds" lX f fd Tb)(KB:K.In base)(hmg:mg "tie_holds"=some (.ref f))(F_is_numbers:FI P w K mg base tb "is_numbers" 1 3 cY)(F_over_bottoms:FI P w K mg base tb "over_bottoms" 2 3 cQ)(F_weighed:FI P w K mg base tb "weighed" 2 3 gJ):FI P w K mg base tb "tie_holds" 2 (3+1) (aG 2 (dF cY cQ gJ)):=
 dg F KB hmg oJ rfl (λ_ _ _ _ _ _=>us2 λ_ _=>rfl) λc A outer s H E hcd hr=>by
  have nd:=oJ.nd
  refine aA ?_ ?_
  refine cF ?_ (aD (aL lJ)) bj
  refine qp ?_
  refine qC ?_ ?_
  refine mY ?_
  exact jd (aN F_is_numbers (hr.mono (by decide)) (aj (pdv 1) aq) (aF aO))
  refine qC ?_ (rM (mY (jd (Fy rfl T.b_any (qN rfl (pdv 1))))))
  exact aY (nR hr) (gf T.b_len (aj (pdv 1) aq)) (gf T.b_len (aj (pdv 0) aq))
  refine aD ?_
  refine aL ?_
  refine Fq ?_
  refine Fy rfl T.b_any ?_
  refine qN rfl ?_
  refine aN F_weighed (hr.mono (by decide)) ?_ (aF (aF aO))
  refine aj (pdv 0) ?_
  exact aj (aN F_over_bottoms (hr.mono (by decide)) (aj (pdv 0) (aj (pdv 1) aq)) (aF (aF aO))) aq
abbrev xu:Stmt:=top 27
theorem yE:aX ["_law_found","_law_due"] ["_law_found","_law_due"] (aK xu):=⟨rfl,rfl,rfl,by decide +kernel,rfl,by decide +kernel,by decide +kernel⟩
theorem Iv(T:BI K mg)(F:fu K "_law_says" "_law_says" xu f fd Tb)(KB:K.In base)(hmg:mg "_law_says"=some (.ref f)):FI P w K mg base tb "_law_says" 2 (0+1) (aG 2 (mZ)):=
 dg F KB hmg yE rfl (λ_ _ _ _ _ _=>us2 λ_ _=>rfl) λc A outer s H E hcd hr=>by
  have nd:=yE.nd
  refine aD ?_
  refine aL ?_
  refine xN ?_ (rZ (ux (jD hr) (pdv 0) (pdv 1)))
  exact iT T.b_isinstance T.b_bool PyProof.Rows.boot_bool (by decide) (pdv 0)
abbrev uz:Stmt:=top 34
theorem wz:aX ["_law_drawn","_law_points","_law_due","_law_k","_law_thing"] ["_law_drawn","_law_points"] (aK uz):=⟨rfl,rfl,rfl,by decide +kernel,rfl,by decide +kernel,by decide +kernel⟩
theorem El{bH aU cW jB cL bY fM bA cH gj:FF}(T:BI K mg)(F:fu K "_law_right" "_law_right" uz f fd Tb)(KB:K.In base)(hmg:mg "_law_right"=some (.ref f))(F_Lminors:FI P w K mg base tb "_law_minors" 1 7 bH)(F_Llowest_row:FI P w K mg base tb "_law_lowest_row" 1 2 aU)(F_is_plain:FI P w K mg base tb "is_plain" 1 8 cW)(F_tie:FI P w K mg base tb "tie" 1 8 jB)(F_Lsame:FI P w K mg base tb "_law_same" 2 6 cL)(F_Lnext:FI P w K mg base tb "_law_next" 1 1 bY)(F_Lbent:FI P w K mg base tb "_law_bent" 2 1 fM)(F_Lis_multiple:FI P w K mg base tb "_law_is_multiple" 2 3 bA)(F_tie_holds:FI P w K mg base tb "tie_holds" 2 4 cH)(F_Lsays:FI P w K mg base tb "_law_says" 2 1 gj):FI P w K mg base tb "_law_right" 2 (8+1) (aG 5 (jH bH aU cW jB cL bY fM bA cH gj)):=
 dg F KB hmg wz rfl (λ_ _ _ _ _ _=>us2 λ_ _=>rfl) λc A outer s H E hcd hr=>by
  have nd:=wz.nd
  refine aA ?_ ?_
  refine aV (i:=2) nd ?_
  refine aN F_Llowest_row (hr.mono (by decide)) ?_ (aF aO)
  exact aj (aN F_Lminors (hr.mono (by decide)) (aj (pdv 1) aq) (aF aO)) aq
  refine aA ?_ ?_
  refine cF ?_ (aD (aL lJ)) bj
  refine qp ?_
  refine qC ?_ ?_
  exact aY za (aN F_is_plain (hr.mono (by decide)) (aj (pdv 1) aq) (aF aO)) lJ
  refine qC ?_ (rM (aY Uk aB (pdv 2)))
  refine mY ?_
  refine jd ?_
  refine aN F_Lsame (hr.mono (by decide)) ?_ (aF (aF aO))
  exact aj (aN F_tie (hr.mono (by decide)) (aj (pdv 1) aq) (aF aO)) (aj (pdv 2) aq)
  refine aA ?_ ?_
  refine dR (ts:=[3]) PassesOwn.never rfl (dH T.b_range (aj aB aq)) (aJ (i:=3) nd) ?_
  refine aA ?_ ?_
  refine aV (i:=4) nd ?_
  refine aN F_Lbent (hr.mono (by decide)) ?_ (aF (aF aO))
  refine aj (pdv 2) ?_
  exact aj (aN F_Lnext (hr.mono (by decide)) (aj (pdv 0) aq) (aF aO)) aq
  refine aD ?_
  refine cF ?_ (aD (aL lJ)) bj
  refine mY ?_
  refine jd ?_
  refine aN F_Lsays (hr.mono (by decide)) ?_ (aF (aF aO))
  refine aj (aN F_tie_holds (hr.mono (by decide)) (aj (pdv 1) (aj (pdv 4) aq)) (aF (aF aO))) ?_
  exact aj (aN F_Lis_multiple (hr.mono (by decide)) (aj (pdv 2) (aj (pdv 4) aq)) (aF (aF aO))) aq
  refine aA ?_ (aD (aL lJ))
  refine dR (ts:=[3]) PassesOwn.never rfl (dH T.b_range (aj (gf T.b_len (aj (pdv 1) aq)) aq)) (aJ (i:=3) nd) ?_
  refine aD ?_
  refine cF ?_ (aD (aL lJ)) bj
  refine aY za ?_ oH
  refine aN F_tie (hr.mono (by decide)) ?_ (aF aO)
  refine aj ?_ aq
  exact aH dw (jx (pdv 1) jJ (jA (pdv 3))) (jx (pdv 1) (jA (aH dw (pdv 3) aB)) jJ)
abbrev uY:Stmt:=top 35
theorem Gj:aX ["_law_script","_law_drawn","_law_turn","_law_directions","_law_kind","_law_points"] ["_law_script"] (aK uY):=⟨rfl,rfl,rfl,by decide +kernel,rfl,by decide +kernel,by decide +kernel⟩
theorem Qm{fW bY fX bH gP:FF}(T:BI K mg)(F:fu K "law" "law" uY f fd Tb)(KB:K.In base)(F_Ldraws:FI P w K mg base tb "_law_draws" 1 2 fW)(F_Lnext:FI P w K mg base tb "_law_next" 1 1 bY)(F_Lpoint:FI P w K mg base tb "_law_point" 4 3 fX)(F_Lminors:FI P w K mg base tb "_law_minors" 1 7 bH)(F_Lright:FI P w K mg base tb "_law_right" 2 9 gP):nW P w K mg base CX0 (9+1) f fd ["_law_script"] (spD K tb 1 (aG 6 (qg fW bY fX bH gP))):=
 Jj F KB Gj rfl λc A outer s H E hcd hr=>by
  have nd:=Gj.nd
  refine aA ?_ ?_
  exact aV (i:=1) nd (aN F_Ldraws (hr.mono (by decide)) (aj (pdv 0) aq) (aF aO))
  refine aA ?_ (aD (aL lJ))
  refine dR (ts:=[2]) PassesOwn.never rfl ?_ (aJ (i:=2) nd) ?_
  refine dH T.b_range ?_
  refine aj ?_ aq
  refine aH dw aB ?_
  refine xY rfl T.b_min ?_
  refine aj aB ?_
  exact aj (aH eZ aB (gf T.b_len (aj (pdv 0) aq))) aq
  refine aA ?_ ?_
  refine aV (i:=3) nd ?_
  refine aH dw aB ?_
  exact aH cJ (aN F_Lnext (hr.mono (by decide)) (aj (pdv 1) aq) (aF aO)) aB
  refine aA ?_ ?_
  refine aV (i:=4) nd ?_
  refine fH ?_ ?_
  refine jy ?_
  exact aj aB (aj aB (aj aB (aj aB aq)))
  exact aH cJ (aN F_Lnext (hr.mono (by decide)) (aj (pdv 1) aq) (aF aO)) aB
  refine aA ?_ ?_
  refine sG (i:=5) nd (own:=["_law_k"]) (cap:=["_law_drawn","_law_directions","_law_kind"]) (capI:=[1,3,4]) (ts:=[0]) rfl ⟨rfl,by decide +kernel,⟨⟨rfl,by first|exact Or.inl rfl|exact Or.inr rfl⟩,⟨⟨rfl,by first|exact Or.inl rfl|exact Or.inr rfl⟩,⟨⟨rfl,by first|exact Or.inl rfl|exact Or.inr rfl⟩,trivial⟩⟩⟩,by decide +kernel,by decide +kernel⟩ (by decide +kernel) (dH T.b_range (aj (aH dw (pdv 3) aB) aq)) (λcs C fp s2 H2=>aJ (i:=0) (show(["_law_k","_law_drawn","_law_directions","_law_kind"]:List Str).Nodup by decide +kernel)) ?_ ?_
  intro cs C fp s2 H2
  exact cR
  intro cs C fp s2 H2
  refine aN F_Lpoint (hr.mono (by decide)) ?_ (aF (aF (aF (aF aO))))
  exact aj (aN F_Lnext (hr.mono (by decide)) (aj (pdv 1) aq) (aF aO)) (aj (pdv 2) (aj (pdv 3) (aj aB aq)))
  refine aD ?_
  refine cF ?_ (aD (aL lJ)) bj
  refine qp ?_
  refine Dd ?_ ?_
  exact aY Il aB (aN F_Lminors (hr.mono (by decide)) (aj (pdv 5) aq) (aF aO))
  refine yO ?_
  refine mY ?_
  exact jd (aN F_Lright (hr.mono (by decide)) (aj (pdv 1) (aj (pdv 5) aq)) (aF (aF aO)))
noncomputable def cB:FF:=trunc (aG 3 (jG))
noncomputable def fW:FF:=aG 5 (mF cB)
noncomputable def bY:FF:=trunc (aG 1 (lw))
noncomputable def iw:FF:=trunc (aG 3 (gm))
noncomputable def fG:FF:=trunc (aG 2 (nU))
noncomputable def fU:FF:=trunc (aG 4 (jn fG))
noncomputable def fX:FF:=trunc (aG 9 (kJ cB iw fU))
noncomputable def dO:FF:=Em 6 λφ=>trunc (aG 5 (gB φ))
noncomputable def bH:FF:=trunc (aG 5 (gn dO))
noncomputable def aU:FF:=trunc (aG 3 (cV fG))
noncomputable def fO:FF:=trunc (aG 4 (jt))
noncomputable def aQ:FF:=trunc (aG 2 (cA))
noncomputable def bJ:FF:=trunc (aG 3 (cZ aQ))
noncomputable def bK:FF:=trunc (aG 2 (gK bJ))
noncomputable def gF:FF:=trunc (aG 3 (jr bK))
noncomputable def bx:FF:=trunc (aG 3 (eN))
noncomputable def bI:FF:=trunc (aG 10 (fP gF bx))
noncomputable def cW:FF:=trunc (aG 2 (gM fO bI))
noncomputable def jB:FF:=trunc (aG 4 (oU bI bK bx))
noncomputable def cL:FF:=Em 6 λφ=>trunc (aG 2 (gY φ))
noncomputable def fM:FF:=trunc (aG 6 (mj))
noncomputable def bA:FF:=trunc (aG 2 (dX aU))
noncomputable def dB:FF:=trunc (aG 1 (fQ))
noncomputable def cY:FF:=trunc (aG 1 (dz dB))
noncomputable def bR:FF:=trunc (aG 3 (cO aQ))
noncomputable def cQ:FF:=trunc (aG 3 (dY bR))
noncomputable def bQ:FF:=trunc (aG 2 (cM))
noncomputable def gJ:FF:=trunc (aG 2 (jm bQ))
noncomputable def cH:FF:=trunc (aG 2 (dF cY cQ gJ))
noncomputable def gj:FF:=trunc (aG 2 (mZ))
noncomputable def gP:FF:=trunc (aG 5 (jH bH aU cW jB cL bY fM bA cH gj))
noncomputable def Ad:FF:=aG 6 (qg fW bY fX bH gP)
abbrev Gt(K:PySem.W.Frag)(x:Str)(s:Stmt):Prop:=∃f c P fd,Got K x s f c P fd
abbrev Nn(K:PySem.W.Frag)(x:Str):Prop:=PySem.W.nsIn K mainGlobals x=some none
abbrev Rq(q:Program)(x:Str):Prop:=((recsOf q).find? (λe=>e.name==x)).isSome=true
theorem Oo{l:PySem.W.OpenLaw}{q:Program}{lo:List Str}{mean:ExcName->Option Value}{w:World}{K:PySem.W.Frag}{h:Heap}{mg mb:Str->Option Value}{fa:Addr}
  (X:K.In h) (G:Top q lo mean mg mb h) (hfa:mg "law"=some (.ref fa))
  (d0:Gt K "_law_mixed" tH)
  (d1:Gt K "_law_draws" sJ)
  (d2:Gt K "_law_next" wQ)
  (d3:Gt K "_law_place" sY)
  (d4:Gt K "_law_gcd" Ak)
  (d5:Gt K "_law_lowest" qe)
  (d6:Gt K "_law_point" uv)
  (d7:Gt K "_law_det" Bx)
  (d8:Gt K "_law_minors" qu)
  (d9:Gt K "_law_lowest_row" km)
  (d10:Gt K "choices" qI)
  (d11:Gt K "divisor_of_two" iy)
  (d12:Gt K "common_divisor" iC)
  (d13:Gt K "lessened" oA)
  (d14:Gt K "cleared" qz)
  (d15:Gt K "first_set" mH)
  (d16:Gt K "line_tie" nT)
  (d17:Gt K "is_plain" oG)
  (d18:Gt K "tie" Hy)
  (d19:Gt K "_law_same" wU)
  (d20:Gt K "_law_bent" ye)
  (d21:Gt K "_law_is_multiple" jw)
  (d22:Gt K "is_number" lQ)
  (d23:Gt K "is_numbers" lD)
  (d24:Gt K "common_multiple" gQ)
  (d25:Gt K "over_bottoms" jC)
  (d26:Gt K "sum_of_products" gR)
  (d27:Gt K "weighed" qi)
  (d28:Gt K "tie_holds" lX)
  (d29:Gt K "_law_says" xu)
  (d30:Gt K "_law_right" uz)
  (d31:Gt K "law" uY)
  (z_abs:Nn K "abs")
  (z_all:Nn K "all")
  (z_any:Nn K "any")
  (z_bool:Nn K "bool")
  (z_enumerate:Nn K "enumerate")
  (z_int:Nn K "int")
  (z_isinstance:Nn K "isinstance")
  (z_len:Nn K "len")
  (z_list:Nn K "list")
  (z_min:Nn K "min")
  (z_range:Nn K "range")
  (z_sum:Nn K "sum")
  (z_tuple:Nn K "tuple")
  (z_zip:Nn K "zip")
  (r_lessened:Rq q "lessened")
  (r_is_plain:Rq q "is_plain")
  (r_tie:Rq q "tie")
  (r_is_numbers:Rq q "is_numbers")
  (r_sum_of_products:Rq q "sum_of_products")
  (hnt:PySem.W.noTabs K=true):
  ∃(fd:FuncData)(tb:List Addr),(∀(s:Shared)(u:Value),BindsTo s fd ⟨[u],[]⟩ [("_law_script",u)])/\(∀P∈tb,∃c,PySem.W.CodeHd h c P/\h.get? P=some (PySem.W.tabObj #[]))/\PySem.W.noTabs K=true/\
   ∀base:Heap,K.In base->base.Ns mainGlobals mg->nW l.prog w K mg base CX0 10 fa fd ["_law_script"] (spD K tb 1 Ad):=by
 have N:=λ{n:Str}(h:Nn K n)=>PySem.W.mg_none_of X G.g h
 have M:=λ{n:Str}{v:Value}(e:PySem.W.nsIn K mainGlobals n=some (some v))=>PySem.W.mg_of X G.g e
 have T:BI K mg:=⟨N z_abs,N z_all,N z_any,N z_bool,N z_enumerate,N z_int,N z_isinstance,N z_len,N z_list,N z_min,N z_range,N z_sum,N z_tuple,N z_zip⟩
 obtain⟨f0,c0,P0,_,G0⟩:=d0
 obtain⟨f1,c1,P1,_,G1⟩:=d1
 obtain⟨f2,c2,P2,_,G2⟩:=d2
 obtain⟨f3,c3,P3,_,G3⟩:=d3
 obtain⟨f4,c4,P4,_,G4⟩:=d4
 obtain⟨f5,c5,P5,_,G5⟩:=d5
 obtain⟨f6,c6,P6,_,G6⟩:=d6
 obtain⟨f7,c7,P7,_,G7⟩:=d7
 obtain⟨f8,c8,P8,_,G8⟩:=d8
 obtain⟨f9,c9,P9,_,G9⟩:=d9
 obtain⟨f10,c10,P10,_,G10⟩:=d10
 obtain⟨f11,c11,P11,_,G11⟩:=d11
 obtain⟨f12,c12,P12,_,G12⟩:=d12
 obtain⟨f13,c13,P13,_,G13⟩:=d13
 obtain⟨f14,c14,P14,_,G14⟩:=d14
 obtain⟨f15,c15,P15,_,G15⟩:=d15
 obtain⟨f16,c16,P16,_,G16⟩:=d16
 obtain⟨f17,c17,P17,_,G17⟩:=d17
 obtain⟨f18,c18,P18,_,G18⟩:=d18
 obtain⟨f19,c19,P19,_,G19⟩:=d19
 obtain⟨f20,c20,P20,_,G20⟩:=d20
 obtain⟨f21,c21,P21,_,G21⟩:=d21
 obtain⟨f22,c22,P22,_,G22⟩:=d22
 obtain⟨f23,c23,P23,_,G23⟩:=d23
 obtain⟨f24,c24,P24,_,G24⟩:=d24
 obtain⟨f25,c25,P25,_,G25⟩:=d25
 obtain⟨f26,c26,P26,_,G26⟩:=d26
 obtain⟨f27,c27,P27,_,G27⟩:=d27
 obtain⟨f28,c28,P28,_,G28⟩:=d28
 obtain⟨f29,c29,P29,_,G29⟩:=d29
 obtain⟨f30,c30,P30,_,G30⟩:=d30
 obtain⟨f31,c31,P31,_,G31⟩:=d31
 have m_law:=M G31.m
 have e:=hfa.symm.trans m_law
 cases e
 obtain⟨kV,dc,pm,an,ct,rfl⟩:=G31.e
 refine⟨PySem.W.fnOf "law" "law" (jP uY) (iD uY) (aK uY) .none kV dc pm an (.ref c31) ct,[P13,P17,P18,P23,P26],λs u=>.of_eq rfl,λP hP=>?_,hnt,λbase kb nb=>?_⟩
 .have hP:P=P13∨P=P17∨P=P18∨P=P23∨P=P26:=by simpa using hP
  rcases hP with rfl|rfl|rfl|rfl|rfl
  .exact⟨c13,uE G X r_lessened G13.t⟩
  .exact⟨c17,uE G X r_is_plain G17.t⟩
  .exact⟨c18,uE G X r_tie G18.t⟩
  .exact⟨c23,uE G X r_is_numbers G23.t⟩
  .exact⟨c26,uE G X r_sum_of_products G26.t⟩
 .have U {φ nm n k} (h:FI l.prog w K mg base [P13,P17,P18,P23,P26] nm n k φ):=h
  have jG:=U (φ:=cB) (Ez T G0.F kb (M G0.m)).trunc
  have mF:=U (φ:=fW) (Ed T G1.F kb (M G1.m) jG)
  have lw:=U (φ:=bY) (Gh T G2.F kb (M G2.m)).trunc
  have gm:=U (φ:=iw) (Ew T G3.F kb (M G3.m)).trunc
  have nU:=U (φ:=fG) (Lf T G4.F kb (M G4.m)).trunc
  have jn:=U (φ:=fU) (zX T G5.F kb (M G5.m) nU).trunc
  have kJ:=U (φ:=fX) (Du T G6.F kb (M G6.m) jG gm jn).trunc
  have r0_Ldet:=(U (φ:=λ_ _=>none) (CN (ps:=["_law_rows"]) G7.F (M G7.m) rfl (λ_ _ _ _ _ _=>us1 λ_=>rfl))).more (Nat.zero_le 0)
  have r1_Ldet:=(mQ T G7.F kb (M G7.m) (by decide) r0_Ldet).trunc
  have r2_Ldet:=(mQ T G7.F kb (M G7.m) (by decide) r1_Ldet).trunc
  have r3_Ldet:=(mQ T G7.F kb (M G7.m) (by decide) r2_Ldet).trunc
  have r4_Ldet:=(mQ T G7.F kb (M G7.m) (by decide) r3_Ldet).trunc
  have r5_Ldet:=(mQ T G7.F kb (M G7.m) (by decide) r4_Ldet).trunc
  have r6_Ldet:=(mQ T G7.F kb (M G7.m) (by decide) r5_Ldet).trunc
  have gB:=U (φ:=dO) r6_Ldet
  have qM:=U (φ:=bH) (zZ T G8.F kb (M G8.m) gB).trunc
  have cV:=U (φ:=aU) (sZ T G9.F kb (M G9.m) nU).trunc
  have jt:=U (φ:=fO) (Ae T G10.F kb (M G10.m)).trunc
  have cA:=U (φ:=aQ) (pI T G11.F kb (M G11.m)).trunc
  have cZ:=U (φ:=bJ) (oR T G12.F kb (M G12.m) cA).trunc
  have gK:=U (φ:=bK) (yG T G13.F kb (M G13.m) cZ (by simp)).trunc
  have jr:=U (φ:=gF) (Be T G14.F kb (M G14.m) gK).trunc
  have eN:=U (φ:=bx) (xG T G15.F kb (M G15.m)).trunc
  have fP:=U (φ:=bI) (ym T G16.F kb (M G16.m) jr eN).trunc
  have gM:=U (φ:=cW) (yU T G17.F kb (M G17.m) jt fP (by simp)).trunc
  have oU:=U (φ:=jB) (Ou T G18.F kb (M G18.m) fP gK eN (by simp)).trunc
  have r0_Lsame:=(U (φ:=λ_ _=>none) (CN (ps:=["_law_one","_law_other"]) G19.F (M G19.m) rfl (λ_ _ _ _ _ _=>us2 λ_ _=>rfl))).more (Nat.zero_le 0)
  have r1_Lsame:=(kZ T G19.F kb (M G19.m) (by decide) r0_Lsame).trunc
  have r2_Lsame:=(kZ T G19.F kb (M G19.m) (by decide) r1_Lsame).trunc
  have r3_Lsame:=(kZ T G19.F kb (M G19.m) (by decide) r2_Lsame).trunc
  have r4_Lsame:=(kZ T G19.F kb (M G19.m) (by decide) r3_Lsame).trunc
  have r5_Lsame:=(kZ T G19.F kb (M G19.m) (by decide) r4_Lsame).trunc
  have r6_Lsame:=(kZ T G19.F kb (M G19.m) (by decide) r5_Lsame).trunc
  have gY:=U (φ:=cL) r6_Lsame
  have CJ:=U (φ:=fM) (Hu T G20.F kb (M G20.m)).trunc
  have dX:=U (φ:=bA) (rJ T G21.F kb (M G21.m) cV).trunc
  have fQ:=U (φ:=dB) (wM T G22.F kb (M G22.m)).trunc
  have dz:=U (φ:=cY) (uQ T G23.F kb (M G23.m) fQ (by simp)).trunc
  have cO:=U (φ:=bR) (oE T G24.F kb (M G24.m) cA).trunc
  have dY:=U (φ:=cQ) (rD T G25.F kb (M G25.m) cO).trunc
  have cM:=U (φ:=bQ) (ou T G26.F kb (M G26.m) (by simp)).trunc
  have jm:=U (φ:=gJ) (Al T G27.F kb (M G27.m) cM).trunc
  have dF:=U (φ:=cH) (wY T G28.F kb (M G28.m) dz dY jm).trunc
  have mZ:=U (φ:=gj) (Iv T G29.F kb (M G29.m)).trunc
  have jH:=U (φ:=gP) (El T G30.F kb (M G30.m) qM cV gM oU gY lw CJ dX dF mZ).trunc
  exact Qm T G31.F kb mF lw kJ qM jH
end Lk11
namespace LG
open PySem PySem.Spec PyProof.Rows L2 L3
theorem FZ(a b:Int):Int.gcd b (a.fmod b)=Int.gcd a b:=by
 have h:a.fmod b=a-b*a.fdiv b:=by have:=Int.mul_fdiv_add_fmod a b;omega
 rw[h,Int.gcd_comm]
 have:a-b*a.fdiv b=a+b*(- a.fdiv b):=by rw[Int.mul_neg];omega
 rw[this,Int.gcd_add_mul_left_left]
theorem Ln(a b:Int)(h:b≠0):(a.fmod b).natAbs<b.natAbs:=by
 rw[Int.fmod_eq_emod]
 have h1:=Int.emod_nonneg a h
 have h2:=Int.emod_lt a h
 by_cases hd:0<=b∨b ∣ a
 .rw[if_pos hd];omega
 .rw[if_neg hd]
  have h3:a % b≠0:=λz=>hd (.inr (Int.dvd_of_emod_eq_zero z))
  omega
abbrev eucC:TF:=toB (M2 (ak 1) (mC (.int 0)) oNe)
abbrev eucB:SF:=xn 0 1 (ao (ak 1) (ao (M2 (ak 0) (ak 1) oMod) (aC)))
theorem ne_int(a b:Int)(μ:Mu):oNe (.int a) (.int b) μ=some (.bl (!(a==b)),μ):=by
 unfold oNe rsv
 simp[cI,gq,eqD]
theorem wH(a b:Int)(μ:Mu):oEq (.int a) (.int b) μ=some (.bl (a==b),μ):=by
 unfold oEq rsv
 simp[cI,gq,eqD]
theorem euc:∀(n:Nat)(a b:Int)(μ:Mu),b.natAbs<=n->∃a',fB eucC eucB (n+1) [some (.int a),some (.int b)] μ=some (.nx,[some (.int a'),some (.int 0)],μ)/\a'.natAbs=Int.gcd a b/\(0<=a->0<=b->0<=a')
 |n,a,b,μ,h=>by
  by_cases hb:b=0
  .subst hb
   refine⟨a,?_,by simp,λh _=>h⟩
   unfold fB
   simp[toB,M2,ak,mC,ne_int]
  .cases n with
   |zero=>omega
   |succ n=>
    obtain⟨a',e,hg,hs⟩:=euc n b (a.fmod b) μ (by have:=Ln a b hb;omega)
    refine⟨a',?_,by rw[hg,FZ],λh0 h1=>hs h1 (Int.fmod_nonneg_of_pos a (by omega))⟩
    unfold fB
    simp[toB,M2,ak,mC,ne_int,hb,xn,ao,aC,oMod,e]
def mq(φ:FF):Prop:=∀(a b:Int)(μ:Mu),φ [.int a,.int b] μ=some (.int (Int.gcd a b),μ)
theorem Kc:mq (aG 2 cA):=λa b μ=>by
 obtain⟨a',e,hg,hs⟩:=euc _ (if a<0 then -a else a) (if b<0 then -b else b) μ (Zg _)
 have ea:(0:Int)<=if a<0 then -a else a:=by split<;>omega
 have eb:(0:Int)<=if b<0 then -b else b:=by split<;>omega
 have h0:=hs ea eb
 have hga:Int.gcd (if a<0 then -a else a) (if b<0 then -b else b)=Int.gcd a b:=by split<;>split<;>simp
 rw[hga]at hg
 have hv:a'=(Int.gcd a b:Int):=by omega
 subst hv
 have ew:=pU e
 unfold aG cA
 simp[aP,xn,ao,aC,MC,ak,bz,oF,ew,bF]
theorem KH:mq (aG 2 nU):=λa b μ=>by
 obtain⟨a',e,hg,hs⟩:=euc _ a b μ (Zg _)
 have ew:=pU e
 unfold aG nU
 have hv:(if a'<0 then -a' else a')=(Int.gcd a b:Int):=by split<;>omega
 simp[aP,ew,bF,ao,aC,MC,ak,bz,oF,hv]
def aW(g:Nat)(ns:List Int):Nat:=ns.foldl (λg n=>Int.gcd g n) g
theorem yt:∀ns:List Int,aW 1 ns=1
 | []=>rfl
 |n::ns=>by
  show aW (Int.gcd (1:Nat) n) ns=1
  have:Int.gcd ((1:Nat):Int) n=1:=by simp
  rw[this];exact yt ns
theorem bB(items:List D)(μ:Mu):Src.ok ⟨items,none⟩ μ:=λn e=>by cases e
theorem Cp{φ:FF}(hφ:mq φ)(x:D)(all:List D):∀(ns:List Int)(g:Nat)(o:Option D)(μ:Mu),∃o',
  forL ⟨all,none⟩ (hName 2) (aP (bh 1 (MC (ao (ak 1) (ao (ak 2) (aC))) φ)) (sIf (toB (M2 (ak 1) (mC (.int 1)) oEq)) (uf) (bN))) (ns.map D.int) [some x,some (.int g),o] μ=some (.nx,[some x,some (.int (aW g ns:Nat)),o'],μ)
 | [],g,o,μ=>⟨o,by unfold forL;simp[bB,aW]⟩
 |n::ns,g,o,μ=>by
  by_cases h1:Int.gcd g n=1
  .refine⟨some (.int n),?_⟩
   rw[Zj]
   unfold forL
   have h2:aW g (n::ns)=1:=by show aW (Int.gcd g n) ns=1;rw[h1];exact yt ns
   simp[bB,hName,aP,bh,MC,ao,aC,ak,hφ g n,h1,h2,sIf,toB,M2,mC,wH,uf]
  .obtain⟨o',e⟩:=Cp hφ x all ns (Int.gcd g n) (some (.int n)) μ
   refine⟨o',?_⟩
   rw[Zj]
   unfold forL
   have h3:((Int.gcd g n:Nat):Int)≠1:=by omega
   have h2:aW g (n::ns)=aW (Int.gcd g n) ns:=rfl
   simp[bB,hName,aP,bh,MC,ao,aC,ak,hφ g n,h3,sIf,toB,M2,mC,wH,bN,e,h2]
def tO(φ:FF):Prop:=∀(ns:List Int)(μ:Mu),φ [.lst (ns.map .int)] μ=some (.int (aW 0 ns:Nat),μ)
theorem Bl{φ:FF}(hφ:mq φ):tO (aG 3 (cZ φ)):=λns μ=>by
 obtain⟨o',e⟩:=Cp hφ (.lst (ns.map .int)) (ns.map .int) ns 0 none μ
 unfold aG cZ
 have e':=e
 simp at e'
 simp[aP,bh,mC,ik,gh,ak,srcOf,e',bF]
theorem uL{th:D->fZ}{f:D->D}{μ:Mu}:∀(items:List D),(∀d∈items,th d μ=some (f d,μ))->yc (items.map th) μ=some (items.map f,μ)
 | [],_=>rfl
 |d::r,h=>by
  have h1:=h d (by simp)
  have h2:=uL r λx hx=>h x (by simp[hx])
  rw[Zj,Zj]
  unfold yc
  simp[h1,h2]
theorem wV{all:List D}{h:GF}{fe:EF}{δb:En}{f:D->D}{μ:Mu}:∀(items:List D),(∀d∈items,∃δ1,h d δb μ=some δ1/\fe δ1 μ=some (f d,μ))->lcL ⟨all,none⟩ h bU fe δb items μ=some (items.map f,μ)
 | [],_=>by unfold lcL;simp[bB]
 |d::r,hd=>by
  obtain⟨δ1,h1,h2⟩:=hd d (by simp)
  have h3:=wV (all:=all) r λx hx=>hd x (by simp[hx])
  unfold lcL
  simp[bB,h1,bU,h2,h3]
def Sm(b:Nat)(n:Int):Prop:=n.natAbs<2 ^ b
theorem bits_le{b:Nat}{n:Int}(h:Sm b n):Builtin.Int.intBits n<=b+1:=by
 unfold Builtin.Int.intBits
 split
 .exact Nat.zero_le _
 .rename_i h'
  have hz:n≠0:=by simpa using h'
  have hn:n.natAbs≠0:=by omega
  have:=(Nat.log2_lt hn).mpr h
  omega
theorem GX{b:Nat}{n:Int}(h:Sm b n):n.natAbs.log2<b+1:=by
 by_cases h0:n.natAbs=0
 .rw[h0];simp
 .have:=(Nat.log2_lt h0).mpr h
  omega
theorem zY{a b:Nat}{x y:Int}(hx:Sm a x)(hy:Sm b y)(h:a+b+2<=134217728):ji x y<=134217728:=by
 have:=bits_le hx
 have:=bits_le hy
 unfold ji
 omega
theorem cg{a b:Nat}{x y:Int}(μ:Mu)(hx:Sm a x)(hy:Sm b y)(h:a+b+2<=134217728):eG (.int x) (.int y) μ=some (.int (x*y),μ):=by
 unfold eG
 simp[zY hx hy h]
theorem jF{b:Nat}{x y:Int}(μ:Mu)(h0:y≠0)(hy:Sm b y)(h:b+1<=9000):oDiv (.int x) (.int y) μ=some (.int (x.fdiv y),μ):=by
 unfold oDiv
 have:=GX hy
 simp[h0,show y.natAbs.log2<9000 by omega]
theorem iI{x y:Int}(μ:Mu)(h0:y≠0):oMod (.int x) (.int y) μ=some (.int (x.fmod y),μ):=by
 unfold oMod
 simp[h0]
theorem gw:∀(ns:List Int)(g:Nat),(∀n∈ns,((aW g ns:Nat):Int) ∣ n)/\aW g ns ∣ g
 | [],g=>⟨λn h=>by simp at h,Nat.dvd_refl _⟩
 |n::ns,g=>by
  obtain⟨h1,h2⟩:=gw ns (Int.gcd g n)
  have e:aW g (n::ns)=aW (Int.gcd g n) ns:=rfl
  rw[e]
  refine⟨λm hm=>?_,?_⟩
  .rcases Zi.mp hm with z|z
   .subst z
    exact Int.dvd_trans (Int.ofNat_dvd.mpr h2) (Int.gcd_dvd_right _ _)
   .exact h1 m z
  .refine Nat.dvd_trans h2 ?_
   have:=Int.gcd_dvd_left (g:Int) n
   exact Int.ofNat_dvd.mp this
theorem gk{ns:List Int}{g:Nat}(h:g≠0∨∃n∈ns,n≠0):aW g ns≠0:=λz=>by
 obtain⟨h1,h2⟩:=gw ns g
 rw[z]at h1 h2
 rcases h with h|⟨n,hn,h⟩
 .exact h (Nat.eq_zero_of_zero_dvd h2)
 .have:=h1 n hn
  exact h (by simpa using this)
theorem Df{ns:List Int}{g:Nat}{n:Int}(hn:n∈ns)(h:n≠0):aW g ns<=n.natAbs:=by
 have h1:=(gw ns g).1 n hn
 have h2:aW g ns ∣ n.natAbs:=by
  have:=Int.natAbs_dvd_natAbs.mpr h1
  simpa using this
 exact Nat.le_of_dvd (by omega) h2
def wX(φ:FF):Prop:=∀(ns:List Int)(μ:Mu),aW 0 ns≠0->Sm 8000 (aW 0 ns:Nat)->ns.length<=100->φ [.lst (ns.map .int)] μ=some (.tup (ns.map λn=>.int (n.fdiv (aW 0 ns:Nat))),μ)
theorem Lq{φ:FF}(hφ:tO φ):wX (aG 2 (gK φ)):=λns μ h0 hs hl=>by
 have e:yc ((ns.map D.int).map (thG (hName 0) (M2 (ak 0) (ak 1) oDiv) (cu ["number"] [some (.lst (ns.map .int)),some (.int (aW 0 ns:Nat))] [1]))) μ=some ((ns.map D.int).map (λd=>match d with| .int n=>.int (n.fdiv (aW 0 ns:Nat))|_=>.non),μ):=by
  refine uL _ λd hd=>?_
  obtain⟨n,_,rfl⟩:=Zq.mp hd
  have:=jF (x:=n) μ (show((aW 0 ns:Nat):Int)≠0 by omega) hs (by decide)
  simp[thG,hName,cu,M2,ak,this]
 unfold aG gK
 have hz:ns.length<=sizeLine:=Zl hl (by decide)
 rw[List.map_map,List.map_map]at e
 simp[aP,bh,MC,ao,aC,ak,hφ ns μ,bF,vW,pA,gh,srcOf,hz,e]
def sgn(b:Int):Int:=if b>0 then 1 else -1
theorem Ff{b:Nat}{n s:Int}(hs:s=1∨s= -1)(h:Sm b n):Sm b (s*n):=by
 unfold Sm at *
 rw[Int.natAbs_mul]
 rcases hs with rfl|rfl<;>simpa using h
theorem Hh(b:Int):sgn b=1∨sgn b= -1:=by unfold sgn;split<;>simp
theorem zg{φ:FF}(hφ:mq φ)(x y:D)(all:List D):∀(ns:List Int)(c:Int)(o:Option D)(μ:Mu),∃(c':Int)(o':Option D),
  forL ⟨all,none⟩ (hName 3) (bh 2 (MC (ao (ak 2) (ao (ak 3) (aC))) φ)) (ns.map D.int) [some x,some y,some (.int c),o] μ=some (.nx,[some x,some y,some (.int c'),o'],μ)/\c'.natAbs=aW c.natAbs ns/\(0<=c∨ns≠[]->0<=c')
 | [],c,o,μ=>⟨c,o,by unfold forL;simp[bB],rfl,λh=>h.elim id λz=>absurd rfl z⟩
 |n::ns,c,o,μ=>by
  obtain⟨c',o',e,hc,hn0⟩:=zg hφ x y all ns (Int.gcd c n) (some (.int n)) μ
  refine⟨c',o',?_,?_,λ_=>hn0 (.inl (Int.natCast_nonneg _))⟩
  .rw[Zj]
   unfold forL
   simp[bB,hName,bh,MC,ao,aC,ak,hφ c n,e]
  .rw[hc]
   show _=aW (Int.gcd (c.natAbs:Nat) n) ns
   congr 1
def Cu(φ:FF):Prop:=∀(ns:List Int)(b:Int)(μ:Mu),b≠0->Sm 4000 b->ns.length<=50->ns≠[]->
 φ [.lst (ns.map .int),.int b] μ=some (.tup ((ns++[b]).map λn=>.int (n.fdiv (sgn b*(aW b.natAbs ns:Nat)))),μ)
theorem Qx{φ:FF}(hφ:mq φ):Cu (aG 4 (jn φ)):=λns b μ hb hs hl hne=>by
 obtain⟨c',o',e,hc,hc0⟩:=zg hφ (.lst (ns.map .int)) (.int b) (ns.map .int) ns b none μ
 have hsg:=Hh b
 have hg0:aW b.natAbs ns≠0:=gk (.inl (by omega))
 have hgle:aW b.natAbs ns<=b.natAbs:=Nat.le_of_dvd (by omega) (gw ns b.natAbs).2
 have hdiv:∀δo,∃δ',sIf (toB (M2 (ak 1) (mC (.int 0)) oLt)) (bh 2 (M2 (mC (.int 0)) (MC (ao (ak 2) (aC)) (bz oF)) nA)) bN [some (.lst (ns.map .int)),some (.int b),some (.int c'),δo] μ=some (.nx,δ',μ)/\(0<=c'->δ'=[some (.lst (ns.map .int)),some (.int b),some (.int (sgn b*(aW b.natAbs ns:Nat))),δo]):=λδo=>by
  by_cases hn:b<0
  .refine⟨[some (.lst (ns.map .int)),some (.int b),some (.int (0-if c'<0 then -c' else c')),δo],by simp[sIf,toB,M2,ak,mC,oLt,hn,bh,MC,ao,aC,bz,oF,nA],λhc0=>?_⟩
   have h1:sgn b= -1:=by unfold sgn;rw[if_neg (by omega)]
   rw[h1,if_neg (by omega)]
   have:c'=(aW b.natAbs ns:Nat):=by omega
   rw[this]
   simp
  .refine⟨[some (.lst (ns.map .int)),some (.int b),some (.int c'),δo],by simp[sIf,toB,M2,ak,mC,oLt,hn,bN],λhc0=>?_⟩
   have h1:sgn b=1:=by unfold sgn;rw[if_pos (by omega)]
   have:c'=(aW b.natAbs ns:Nat):=by omega
   rw[h1,this]
   simp
 obtain⟨δ',e3,e4⟩:=hdiv o'
 have e5:=e4 (hc0 (.inr hne))
 subst e5
 have hd0:sgn b*((aW b.natAbs ns:Nat):Int)≠0:=by rcases hsg with h|h<;>rw[h]<;>omega
 have hds:Sm 4000 (sgn b*((aW b.natAbs ns:Nat):Int)):=Ff hsg (by unfold Sm at *;simp only[Int.natAbs_natCast];omega)
 have eL:lcL ⟨ns.map D.int,none⟩ (hName 0) bU (M2 (ak 0) (ak 1) oDiv) (cu ["_law_number"] [some (.lst (ns.map .int)),some (.int b),some (.int (sgn b*(aW b.natAbs ns:Nat))),o'] [2]) (ns.map D.int) μ=some ((ns.map D.int).map (λd=>match d with| .int n=>.int (n.fdiv (sgn b*(aW b.natAbs ns:Nat)))|_=>.non),μ):=by
  refine wV _ λd hd=>?_
  obtain⟨n,_,rfl⟩:=Zq.mp hd
  have:=jF (x:=n) μ hd0 hds (by decide)
  exact⟨_,rfl,by simp[hName,cu,M2,ak,this]⟩
 rw[List.map_map]at eL
 have eL2:lcL ⟨ns.map D.int,none⟩ (hName 0) bU (M2 (ak 0) (ak 1) oDiv) (cu ["_law_number"] [some (.lst (ns.map .int)),some (.int b),some (.int (sgn b*(aW b.natAbs ns:Nat))),o'] [2]) (ns.map D.int) μ=some (ns.map (λn=>D.int (n.fdiv (sgn b*(aW b.natAbs ns:Nat)))),μ):=eL
 have eD:=jF (x:=b) μ hd0 hds (by decide)
 have hz:ns.length<=sizeLine:=Zl hl (by decide)
 have hz2:ns.length+1<=sizeLine:=Zl (by omega:ns.length+1<=100) (by decide)
 have h1s:1<=sizeLine:=by decide
 unfold aG jn
 simp[aP,bh,ak,ik,gh,srcOf,e,e3,bF,M2,MC,ao,aC,mFz,lLC,hz,eL2,gH,cj,eD,oTup,h1s,bW,hz2]
theorem zb{μ:Mu}:∀(n:Nat),uI (List.replicate n (thE (D.bl true))) μ=some (true,μ)
 |0=>rfl
 |n+1=>by
  rw[List.replicate_succ]
  unfold uI
  simp[thE,wZ]
  exact zb n
theorem oN:∀(xs:List D),gV xs xs=xs.map λx=>.tup [x,x]
 | []=>rfl
 |x::xs=>by simp[gV,oN xs]
def isSame(φ:FF):Prop:=∀(ns:List Int)(μ:Mu),ns.length<=100->φ [.tup (ns.map .int),.tup (ns.map .int)] μ=some (.bl true,μ)
theorem JD{φ:FF}(hφ:∀(a:Int)(μ:Mu),φ [.int a,.int a] μ=some (.bl true,μ)):isSame (aG 2 (gY φ)):=λns μ hl=>by
 have h1:oNe (.bl true) (.bl true) μ=some (.bl false,μ):=by unfold oNe rsv;simp[cI,gq,eqD]
 have h2:oNe (.bl false) (.bl false) μ=some (.bl false,μ):=by unfold oNe rsv;simp[cI,gq,eqD]
 have h3:oNe (.int ns.length) (.int ns.length) μ=some (.bl false,μ):=by rw[ne_int];simp
 have e:lcL ⟨gV (ns.map .int) (ns.map .int),none⟩ (jh 2 (bG (hName 0) (bG (hName 1) jf))) bU (MC (ao (ak 0) (ao (ak 1) aC)) φ) (cu ["_law_here","_law_there"] [some (.tup (ns.map .int)),some (.tup (ns.map .int))] []) (gV (ns.map .int) (ns.map .int)) μ=some ((gV (ns.map .int) (ns.map .int)).map (λ_=>D.bl true),μ):=by
  refine wV _ λd hd=>?_
  rw[oN]at hd
  obtain⟨x,hx,rfl⟩:=Zq.mp hd
  obtain⟨n,_,rfl⟩:=Zq.mp hx
  exact⟨[some (.int n),some (.int n)],by simp[jh,bG,hName,jf,cu],by simp[MC,ao,aC,ak,hφ n]⟩
 have e2:(gV (ns.map D.int) (ns.map D.int)).map (λ_=>D.bl true)=List.replicate ns.length (D.bl true):=by
  rw[oN];simp[Function.comp_def,List.map_const']
 rw[e2]at e
 have hz:(gV (ns.map D.int) (ns.map D.int)).length<=sizeLine:=by rw[oN];simp;exact Zl hl (by decide)
 have ea:=zb (μ:=μ) ns.length
 unfold aG gY
 simp[aP,sIf,rB,toB,M2,M1,ak,je,HB,h1,h2,bN,nu,rF,MC,ao,aC,bz,dN,cj,h3,bF,Ac,sI,mFz,lLC,pK,bO,hz,e,ea]
theorem bZ{a b:Nat}{x:Int}(h:Sm a x)(hab:a<=b):Sm b x:=Zc h (Nat.pow_le_pow_right (by decide) hab)
theorem fL{a b:Nat}{x y:Int}(hx:Sm a x)(hy:Sm b y):Sm (a+b) (x*y):=by
 unfold Sm at *
 rw[Int.natAbs_mul,Nat.pow_add]
 exact Nat.mul_lt_mul'' hx hy
theorem GQ{a:Nat}{x y:Int}(hx:Sm a x)(hy:Sm a y):Sm (a+1) (x+y):=by
 unfold Sm at *
 rw[Nat.pow_succ]
 have:=Int.natAbs_add_le x y
 omega
def Dr(x:Int):Prop:=0<=x/\x<2147483648
theorem mU:∀(L:List Int),eU (L.map D.int)=true
 | []=>by unfold eU;rfl
 |x::L=>by
  rw[Zj]
  unfold eU
  rw[mU L]
  simp[cI]
theorem oZ:∀(L:List Int),iR (L.map D.int)=0
 | []=>by unfold iR;rfl
 |x::L=>by
  rw[Zj]
  unfold iR
  rw[oZ L]
  simp[gq]
theorem pD{ds:List D}{i:Int}(h0:0<=i)(h1:i<ds.length):∃d,d∈ds/\atI ds i=some d:=by
 have hi:i.toNat<ds.length:=by omega
 refine⟨ds[i.toNat],List.getElem_mem hi,?_⟩
 unfold atI ixN
 rw[if_pos h0,if_pos h1]
 simp[hi]
theorem bM{x m:Int}(hm:0<m):0<=x.fmod m/\x.fmod m<m:=⟨Int.fmod_nonneg_of_pos x hm,Int.fmod_lt_of_pos x hm⟩
def tu(φ:FF):Prop:=∀(x k:Int)(μ:Mu),0<=k->k<1000->∃r,φ [.int x,.int k] μ=some (.int r,μ)/\Dr r
theorem Oj:tu (aG 3 jG):=λx k μ h0 h1=>by
 obtain⟨a0,a1⟩:=bM (x:=x) (m:=2147483647) (by decide)
 have w1:=iI (x:=x) (y:=2147483647) μ (by decide)
 have sa:Sm 31 (x.fmod 2147483647):=by unfold Sm;have e:(2:Nat) ^ 31=2147483648:=by decide
                                       omega
 have m1:=cg (x:=x.fmod 2147483647) (y:=48271) μ sa (show Sm 16 48271 by unfold Sm;decide) (by decide)
 have sk:Sm 10 k:=by unfold Sm;have e:(2:Nat) ^ 10=1024:=by decide
                     omega
 have m2:=cg (x:=7919) (y:=k) μ (show Sm 13 7919 by unfold Sm;decide) sk (by decide)
 have m3:=cg (x:=7919*k) (y:=k) μ (fL (show Sm 13 7919 by unfold Sm;decide) sk) sk (by decide)
 have w2:=iI (x:=x.fmod 2147483647*48271+7919*k*k+104729) (y:=2147483647) μ (by decide)
 obtain⟨b0,b1⟩:=bM (x:=x.fmod 2147483647*48271+7919*k*k+104729) (m:=2147483647) (by decide)
 generalize hn:(x.fmod 2147483647*48271+7919*k*k+104729).fmod 2147483647=n at *
 have sn:Sm 31 n:=by unfold Sm;have e:(2:Nat) ^ 31=2147483648:=by decide
                     omega
 have m4:=cg (x:=n) (y:=n) μ sn sn (by decide)
 have w3:=iI (x:=n*n) (y:=2147483629) μ (by decide)
 obtain⟨c0,c1⟩:=bM (x:=n*n) (m:=2147483629) (by decide)
 refine⟨(n*n).fmod 2147483629,?_,c0,by omega⟩
 unfold aG jG
 simp[aP,bh,M2,ak,mC,w1,m1,m2,m3,bW,w2,bF,m4,w3]
theorem wO{δ:En}{L:List Int}{y:Int}{fs:AF}(h1:δ[1]? =some (some (.cell 0)))(h2:fs δ [some (L.map .int)]=some ([.int y],[some (L.map .int)]))(hl:L.length<10000):
  jN (ak 1) fs δ [some (L.map .int)]=some (.non,[some ((L++[y]).map .int)]):=by
 have hz:L.length<sizeLine:=Zc hl (by decide)
 unfold jN
 simp[ak,h1,h2,ju,hz]
theorem Rx{φ:FF}(hφ:tu φ)(s:D)(k c:Int)(hk:0<=k/\k<100)(all:List D):∀(js:List Int),(∀j∈js,0<=j/\j<12)->∀(L:List Int)(o:Option D),(∀x∈L,Dr x)->L.length+js.length<10000->∃(L':List Int)(o':Option D),
  forL ⟨all,none⟩ (hName 4) (gO (jN (ak 1) (ao (MC (ao (MC (ao (ak 3) (ao (M2 (M2 (mC (.int 3)) (ak 4) eG) (mC (.int 1)) bW) (aC))) φ) (ao (M2 (M2 (ak 4) (ak 2) bW) (mC (.int 2)) bW) (aC))) φ) (aC)))) (js.map D.int)
   [some s,some (.cell 0),some (.int k),some (.int c),o] [some (L.map .int)]=some (.nx,[some s,some (.cell 0),some (.int k),some (.int c),o'],[some (L'.map .int)])/\(∀x∈L',Dr x)/\L'.length=L.length+js.length
 | [],_,L,o,hL,_=>⟨L,o,by unfold forL;simp[bB],hL,rfl⟩
 |j::js,hj,L,o,hL,hlen=>by
  have hj0:=hj j (by simp)
  obtain⟨r1,e1,d1⟩:=hφ c (3*j+1) [some (L.map .int)] (by omega) (by omega)
  obtain⟨r2,e2,d2⟩:=hφ r1 (j+k+2) [some (L.map .int)] (by omega) (by omega)
  have m1:=cg (x:=3) (y:=j) [some (L.map D.int)] (show Sm 2 3 by unfold Sm;decide) (show Sm 4 j by unfold Sm;omega) (by decide)
  obtain⟨L',o',e,hd,hl⟩:=Rx hφ s k c hk all js (λx hx=>hj x (by simp[hx])) (L++[r2]) (some (.int j)) (λx hx=>by
   rcases Zm.mp hx with z|z
   .exact hL x z
   .simp at z;subst z;exact d2) (by simp at hlen ⊢;omega)
  refine⟨L',o',?_,hd,by rw[hl];simp;omega⟩
  rw[Zj]
  unfold forL
  have ea:=wO (δ:=[some s,some (.cell 0),some (.int k),some (.int c),some (.int j)]) (L:=L) (y:=r2) (fs:=ao (MC (ao (MC (ao (ak 3) (ao (M2 (M2 (mC (.int 3)) (ak 4) eG) (mC (.int 1)) bW) (aC))) φ) (ao (M2 (M2 (ak 4) (ak 2) bW) (mC (.int 2)) bW) (aC))) φ) (aC)) rfl
   (by simp[ao,aC,MC,M2,ak,mC,m1,bW,e1,e2]) (by simp at hlen;omega)
  simp only[List.map_append,Zj,List.map_nil]at ea e
  simp[bB,hName,gO,ea,e]
abbrev drC:TF:=nM (toB (M2 (ak 3) (M2 (mC (.int 10)) (mC (.int 18)) ue) oGe)) (toB (M2 (MC (ao (ak 1) (aC)) (bz dN)) (mC (.int 900)) oLt))
abbrev drB:SF:=aP (gO (jN (ak 1) (ao (M2 (ak 3) (mC (.int 2147483629)) oMod) (aC)))) (bh 3 (M2 (ak 3) (mC (.int 2147483629)) oDiv))
theorem zm(s k o:Option D):∀(n:Nat)(c:Int)(L:List Int),0<=c->(∀x∈L,Dr x)->900-L.length<=n->∃(c':Int)(L':List Int),
  fB drC drB (n+1) [s,some (.cell 0),k,some (.int c),o] [some (L.map .int)]=some (.nx,[s,some (.cell 0),k,some (.int c'),o],[some (L'.map .int)])/\0<=c'/\(∀x∈L',Dr x)/\L'.length<=max L.length 900
 |n,c,L,hc,hL,hn=>by
  have ep:ue (.int 10) (.int 18) [some (L.map D.int)]=some (.int 1000000000000000000,[some (L.map .int)]):=rfl
  by_cases ht:(1000000000000000000:Int)<=c/\L.length<900
  .cases n with
   |zero=>omega
   |succ n=>
    obtain⟨m0,m1⟩:=bM (x:=c) (m:=2147483629) (by decide)
    have w1:=iI (x:=c) (y:=2147483629) [some (L.map D.int)] (by decide)
    have w2:=jF (x:=c) (y:=2147483629) [some ((L++[c.fmod 2147483629]).map D.int)] (by decide) (show Sm 31 2147483629 by unfold Sm;decide) (by decide)
    have q0:0<=c.fdiv 2147483629:=by rw[Int.fdiv_eq_ediv_of_nonneg c (by decide)];exact Int.ediv_nonneg hc (by decide)
    obtain⟨c',L',e,h1,h2,h3⟩:=zm s k o n (c.fdiv 2147483629) (L++[c.fmod 2147483629]) q0 (λx hx=>by
     rcases Zm.mp hx with z|z
     .exact hL x z
     .simp at z;subst z;exact⟨m0,by omega⟩) (by simp;omega)
    refine⟨c',L',?_,h1,h2,by simp at h3;omega⟩
    unfold fB
    have ea:=wO (δ:=[s,some (.cell 0),k,some (.int c),o]) (L:=L) (y:=c.fmod 2147483629) (fs:=ao (M2 (ak 3) (mC (.int 2147483629)) oMod) (aC)) rfl (by simp[ao,aC,M2,ak,mC,w1]) (by omega)
    simp only[List.map_append,Zj,List.map_nil]at ea e w2
    have hlen:((L.length:Nat):Int)<900:=by omega
    have ht1:=ht.1
    simp[nM,toB,M2,ak,mC,ep,oGe,ht1,MC,ao,aC,bz,dN,cj,oLt,hlen,aP,gO]at ea ⊢
    simp[ea,bh,M2,ak,mC,w2,e]
  .refine⟨c,L,?_,hc,hL,by omega⟩
   unfold fB
   by_cases h1:(1000000000000000000:Int)<=c
   .have h2:¬((L.length:Nat):Int)<900:=by omega
    simp[nM,toB,M2,ak,mC,ep,oGe,h1,MC,ao,aC,bz,dN,cj,oLt,h2]
   .simp[nM,toB,M2,ak,mC,ep,oGe,h1]
theorem yX(n:Nat):cU 0 n=((List.range n).map λ(k:Nat)=>(k:Int)).map D.int:=by
 unfold cU
 rw[List.map_map]
 apply List.map_congr_left
 intro k _
 simp
noncomputable abbrev vA(φ:FF):SF:=(aP (bh 3 (MC (ao (M2 (ak 0) (ak 2) oIx) (aC)) (bz oF))) (aP (sIf (toB (M2 (ak 3) (M2 (mC (.int 10)) (mC (.int 18)) ue) oLt)) (ik (dj (ao (mC (.int 12)) (aC))) (hName 4) (gO (jN (ak 1) (ao (MC (ao (MC (ao (ak 3) (ao (M2 (M2 (mC (.int 3)) (ak 4) eG) (mC (.int 1)) bW) (aC))) φ) (ao (M2 (M2 (ak 4) (ak 2) bW) (mC (.int 2)) bW) (aC))) φ) (aC))))) (bN)) (aP (lE drC drB) (sIf (toB (M2 (ak 3) (mC (.int 2147483629)) oGe)) (gO (jN (ak 1) (ao (M2 (ak 3) (mC (.int 2147483629)) oMod) (aC)))) (bN)))))
theorem JW{φ:FF}(hφ:tu φ)(ns:List Int)(k:Nat)(hk:k<ns.length)(hk2:k<100)(L:List Int)(o3 o4:Option D)(hL:∀x∈L,Dr x)(hlen:L.length<9000):∃(L':List Int)(o3' o4':Option D),
  vA φ [some (.ro (ns.map .int)),some (.cell 0),some (.int k),o3,o4] [some (L.map .int)]=some (.nx,[some (.ro (ns.map .int)),some (.cell 0),some (.int k),o3',o4'],[some (L'.map .int)])/\(∀x∈L',Dr x)/\L'.length<=max (L.length+12) 900+1:=by
 have hat:atI (ns.map D.int) (k:Int)=some (.int ns[k]):=Lw (by simp[hk])
 generalize hc:(if ns[k]<0 then -ns[k]else ns[k])=c
 have hc0:0<=c:=by rw[<-hc];split<;>omega
 have ep:ue (.int 10) (.int 18) [some (L.map D.int)]=some (.int 1000000000000000000,[some (L.map .int)]):=rfl
 obtain⟨L1,o1,e1,h1,l1⟩:∃(L1:List Int)(o1:Option D),sIf (toB (M2 (ak 3) (M2 (mC (.int 10)) (mC (.int 18)) ue) oLt)) (ik (dj (ao (mC (.int 12)) (aC))) (hName 4) (gO (jN (ak 1) (ao (MC (ao (MC (ao (ak 3) (ao (M2 (M2 (mC (.int 3)) (ak 4) eG) (mC (.int 1)) bW) (aC))) φ) (ao (M2 (M2 (ak 4) (ak 2) bW) (mC (.int 2)) bW) (aC))) φ) (aC))))) (bN)
   [some (.ro (ns.map .int)),some (.cell 0),some (.int k),some (.int c),o4] [some (L.map .int)]=some (.nx,[some (.ro (ns.map .int)),some (.cell 0),some (.int k),some (.int c),o1],[some (L1.map .int)])/\(∀x∈L1,Dr x)/\L1.length<=L.length+12:=by
  by_cases hs:c<1000000000000000000
  .obtain⟨L1,o1,e,h,l⟩:=Rx hφ (.ro (ns.map .int)) k c (by omega) (cU 0 12) ((List.range 12).map λ(k:Nat)=>(k:Int)) (λj hj=>by simp at hj;omega) L o4 hL (by simp;omega)
   refine⟨L1,o1,?_,h,by rw[l];simp⟩
   rw[<-yX]at e
   simp[sIf,toB,M2,ak,mC,ep,oLt,hs,ik,dj,ao,aC]
   exact e
  .exact⟨L,o4,by simp[sIf,toB,M2,ak,mC,ep,oLt,hs,bN],hL,by omega⟩
 obtain⟨c',L2,e2,hc',h2,l2⟩:=zm (some (.ro (ns.map .int))) (some (.int k)) o1 _ c L1 hc0 h1 (Zg _)
 have ew:=pU e2
 have hab:oF (.int ns[k]) [some (L.map D.int)]=some (.int c,[some (L.map D.int)]):=by rw[<-hc];rfl
 by_cases hb:(2147483629:Int)<=c'
 .obtain⟨m0,m1⟩:=bM (x:=c') (m:=2147483629) (by decide)
  have w1:=iI (x:=c') (y:=2147483629) [some (L2.map D.int)] (by decide)
  have ea:=wO (δ:=[some (.ro (ns.map .int)),some (.cell 0),some (.int k),some (.int c'),o1]) (L:=L2) (y:=c'.fmod 2147483629) (fs:=ao (M2 (ak 3) (mC (.int 2147483629)) oMod) (aC)) rfl (by simp[ao,aC,M2,ak,mC,w1]) (by omega)
  refine⟨L2++[c'.fmod 2147483629],some (.int c'),o1,?_,λx hx=>by
   rcases Zm.mp hx with z|z
   .exact h2 x z
   .simp at z;subst z;exact⟨m0,by omega⟩,by simp;omega⟩
  have e0:bh 3 (MC (ao (M2 (ak 0) (ak 2) oIx) (aC)) (bz oF)) [some (.ro (ns.map .int)),some (.cell 0),some (.int k),o3,o4] [some (L.map .int)]=some (.nx,[some (.ro (ns.map .int)),some (.cell 0),some (.int k),some (.int c),o4],[some (L.map .int)]):=by
   simp[bh,MC,ao,aC,M2,ak,oIx,cj,hat,bz,hab]
  have e3:sIf (toB (M2 (ak 3) (mC (.int 2147483629)) oGe)) (gO (jN (ak 1) (ao (M2 (ak 3) (mC (.int 2147483629)) oMod) (aC)))) (bN) [some (.ro (ns.map .int)),some (.cell 0),some (.int k),some (.int c'),o1] [some (L2.map .int)]=some (.nx,[some (.ro (ns.map .int)),some (.cell 0),some (.int k),some (.int c'),o1],[some ((L2++[c'.fmod 2147483629]).map .int)]):=by
   simp only[sIf,toB,M2,ak,mC,oGe,gO]at ea ⊢
   simp[hb]at ea ⊢
   simp[ea]
  unfold vA aP
  rw[e0]
  simp only[Option.bind_some]
  rw[e1]
  simp only[Option.bind_some]
  rw[ew]
  simp only[Option.bind_some]
  exact e3
 .refine⟨L2,some (.int c'),o1,?_,h2,by omega⟩
  have e0:bh 3 (MC (ao (M2 (ak 0) (ak 2) oIx) (aC)) (bz oF)) [some (.ro (ns.map .int)),some (.cell 0),some (.int k),o3,o4] [some (L.map .int)]=some (.nx,[some (.ro (ns.map .int)),some (.cell 0),some (.int k),some (.int c),o4],[some (L.map .int)]):=by
   simp[bh,MC,ao,aC,M2,ak,oIx,cj,hat,bz,hab]
  have e3:sIf (toB (M2 (ak 3) (mC (.int 2147483629)) oGe)) (gO (jN (ak 1) (ao (M2 (ak 3) (mC (.int 2147483629)) oMod) (aC)))) (bN) [some (.ro (ns.map .int)),some (.cell 0),some (.int k),some (.int c'),o1] [some (L2.map .int)]=some (.nx,[some (.ro (ns.map .int)),some (.cell 0),some (.int k),some (.int c'),o1],[some (L2.map .int)]):=by
   simp[sIf,toB,M2,ak,mC,oGe,hb,bN]
  unfold vA aP
  rw[e0]
  simp only[Option.bind_some]
  rw[e1]
  simp only[Option.bind_some]
  rw[ew]
  simp only[Option.bind_some]
  exact e3
theorem CW{φ:FF}(hφ:tu φ)(ns:List Int)(all:List D):∀(ks:List Nat),(∀k∈ks,k<ns.length/\k<100)->∀(L:List Int)(o2 o3 o4:Option D),(∀x∈L,Dr x)->max L.length 900+13*ks.length<=5000->∃(L':List Int)(o2' o3' o4':Option D),
  forL ⟨all,none⟩ (hName 2) (vA φ) ((ks.map λ(k:Nat)=>(k:Int)).map D.int) [some (.ro (ns.map .int)),some (.cell 0),o2,o3,o4] [some (L.map .int)]=some (.nx,[some (.ro (ns.map .int)),some (.cell 0),o2',o3',o4'],[some (L'.map .int)])/\(∀x∈L',Dr x)
 | [],_,L,o2,o3,o4,hL,_=>⟨L,o2,o3,o4,by simp only[List.map_nil];unfold forL;simp[bB],hL⟩
 |k::ks,hk,L,o2,o3,o4,hL,hlen=>by
  have hk0:=hk k (by simp)
  simp only[List.length_cons]at hlen
  obtain⟨L1,a3,a4,e1,h1,l1⟩:=JW hφ ns k hk0.1 hk0.2 L o3 o4 hL (by omega)
  obtain⟨L',b2,b3,b4,e,h⟩:=CW hφ ns all ks (λx hx=>hk x (by simp[hx])) L1 (some (.int k)) a3 a4 h1 (by omega)
  refine⟨L',b2,b3,b4,?_,h⟩
  rw[Zj,Zj]
  unfold forL
  simp only[hName,List.set_cons_succ,List.set_cons_zero,Option.bind_some]
  rw[if_pos (bB _ _),e1]
  exact e
def xJ(φ:FF):Prop:=∀(ns:List Int),ns.length<=63->∃L:List Int,φ [.ro (ns.map .int)] []=some (.cell 0,[some (L.map .int)])/\∀x∈L,Dr x
theorem GR{φ:FF}(hφ:tu φ):xJ (aG 5 (mF φ)):=λns hn=>by
 obtain⟨L,o2,o3,o4,e,h⟩:=CW hφ ns (cU 0 ns.length) (List.range ns.length) (λk hk=>by simp at hk;omega) [] none none none (λx hx=>by simp at hx) (by simp;omega)
 refine⟨L,?_,h⟩
 rw[<-yX]at e
 have hmin:(if(63:Int)<(ns.length:Int)then(63:Int)else(ns.length:Int))=(ns.length:Int):=by rw[if_neg (by omega)]
 have hr:(-(2 ^ 62)<=(ns.length:Int)/\(ns.length:Int)<2 ^ 62):=by omega
 have hz:0<=sizeLine:=Nat.zero_le _
 have eS:∀δ:En,δ[0]? =some (some (.ro (ns.map .int)))->∀μ,dj (ao (MC (ao (MC (ao (ak 0) (aC)) (bz dN)) (ao (mC (.int 63)) (aC))) (mG mK)) (aC)) δ μ=some (⟨cU 0 ns.length,none⟩,μ):=λδ h0 μ=>by
  simp only[dj,ao,MC,ak,h0,aC,bz,dN,cj,mC,mG,mK,Option.bind_some,Option.map_some,Zu]
  rw[hmin]
  rw[if_pos hr]
  simp
 have e0:bh 1 (oY (uJ aC)) [some (.ro (ns.map .int)),none,none,none,none] []=some (.nx,[some (.ro (ns.map .int)),some (.cell 0),none,none,none],[some []]):=by
  simp[bh,oY,uJ,aC]
 have e1:ik (dj (ao (MC (ao (MC (ao (ak 0) (aC)) (bz dN)) (ao (mC (.int 63)) (aC))) (mG mK)) (aC))) (hName 2) (vA φ) [some (.ro (ns.map .int)),some (.cell 0),none,none,none] [some []]=some (.nx,[some (.ro (ns.map .int)),some (.cell 0),o2,o3,o4],[some (L.map .int)]):=by
  unfold ik
  rw[eS _ rfl]
  exact e
 show(aP (bh 1 (oY (uJ aC))) (aP (ik (dj (ao (MC (ao (MC (ao (ak 0) (aC)) (bz dN)) (ao (mC (.int 63)) (aC))) (mG mK)) (aC))) (hName 2) (vA φ)) (bF (ak 1))) [some (.ro (ns.map .int)),none,none,none,none] []).bind _=_
 unfold aP
 rw[e0]
 simp only[Option.bind_some]
 rw[e1]
 simp[bF,ak]
theorem zN:∀(ns:List Int)(g d:Nat),d ∣ aW g ns↔d ∣ g/\∀n∈ns,d ∣ n.natAbs
 | [],g,d=>by simp[aW]
 |n::ns,g,d=>by
  have e:aW g (n::ns)=aW (Int.gcd g n) ns:=rfl
  rw[e,zN ns (Int.gcd g n) d]
  have h:d ∣ Int.gcd g n↔d ∣ g/\d ∣ n.natAbs:=by
   show d ∣ Nat.gcd (Int.natAbs g) (Int.natAbs n)↔_
   rw[Nat.dvd_gcd_iff]
   simp
  rw[h]
  simp only[Zi,forall_eq_or_imp]
  constructor
  .rintro⟨⟨h1,h2⟩,h3⟩;exact⟨h1,h2,h3⟩
  .rintro⟨h1,h2,h3⟩;exact⟨⟨h1,h2⟩,h3⟩
theorem jE(f:Int):∀(ns:List Int)(g:Nat),aW (f.natAbs*g) (ns.map (f * ·))=f.natAbs*aW g ns
 | [],g=>rfl
 |n::ns,g=>by
  show aW (Int.gcd ((f.natAbs*g:Nat):Int) (f*n)) (ns.map (f * ·))=f.natAbs*aW (Int.gcd g n) ns
  have:Int.gcd ((f.natAbs*g:Nat):Int) (f*n)=f.natAbs*Int.gcd g n:=by
   show Nat.gcd (Int.natAbs ((f.natAbs*g:Nat):Int)) (Int.natAbs (f*n))=_
   rw[Int.natAbs_natCast,Int.natAbs_mul,Nat.gcd_mul_left]
   rfl
  rw[this,jE f ns]
end LG
namespace L3
open PySem PySem.Spec PyProof.Rows L2
class Post (α:Type) where
 run:α->Prop
@[simp] theorem xj{α:Type}{f:α->Prop}{r:α}:@Post.run α ⟨f⟩ r=f r:=rfl
def OkI{α:Type}(o:Option α)[Q:Post α]:Prop:=∃r,o=some r/\Q.run r
abbrev Ok{α:Type}(o:Option α)(Q:α->Prop):Prop:=@OkI α o ⟨Q⟩
section
variable {α β:Type} {Q:Post α}
@[simp] theorem CP{r:α}:OkI (some r) (Q:=Q)=Q.run r:=by
 apply propext
 exact⟨λ⟨q,e,h⟩=>by cases e;exact h,λh=>⟨r,rfl,h⟩⟩
@[simp] theorem Uw:OkI (none:Option α) (Q:=Q)=False:=by
 apply propext
 exact⟨λ⟨q,e,h⟩=>(by cases e),λh=>h.elim⟩
@[simp] theorem dU{o:Option β}{k:β->Option α}:OkI (o.bind k) (Q:=Q)=OkI o (Q:=⟨λr=>OkI (k r) (Q:=Q)⟩):=by
 apply propext
 constructor
 .rintro⟨q,e,h⟩
  obtain⟨r,e1,e2⟩:=Za.mp e
  exact⟨r,e1,q,e2,h⟩
 .rintro⟨r,e1,q,e2,h⟩
  exact⟨q,by rw[e1];exact e2,h⟩
@[simp] theorem VL{o:Option β}{k:β->α}:OkI (o.map k) (Q:=Q)=OkI o (Q:=⟨λr=>Q.run (k r)⟩):=by
 apply propext
 constructor
 .rintro⟨q,e,h⟩
  obtain⟨r,e1,e2⟩:=Zp.mp e
  exact⟨r,e1,by subst e2;exact h⟩
 .rintro⟨r,e1,h⟩
  exact⟨_,by rw[e1];rfl,h⟩
theorem OkI.mono{o:Option α}{Q':Post α}(h:OkI o (Q:=Q))(k:∀r,Q.run r->Q'.run r):OkI o (Q:=Q'):=let⟨r,e,q⟩:=h;⟨r,e,k r q⟩
end
class Two where
 t:Prop
 f:Prop
def rG(b:Bool)[T:Two]:Prop:=if b=true then T.t else T.f
@[simp] theorem Rf{P R:Prop}:rG true (T:=⟨P,R⟩)=P:=rfl
@[simp] theorem Pa{P R:Prop}:rG false (T:=⟨P,R⟩)=R:=rfl
def asB(r:D×Mu):Option (Bool×Mu):=match r.1 with
 | .bl k=>some (k,r.2)
 |_=>none
@[simp] theorem Wb{k:Bool}{μ:Mu}:asB (.bl k,μ)=some (k,μ):=rfl
def MT(r:List D×Mu):Option (Src×Mu):=match r.1 with
 | [.int j]=>if -(2 ^ 62)<=j/\j<2 ^ 62 then some (⟨cU 0 j.toNat,none⟩,r.2)else none
 |_=>none
def Nh(r:List D×Mu):Option (Src×Mu):=match r.1 with
 | [.int i,.int j]=>if(-(2 ^ 62)<=i/\i<2 ^ 62)/\ -(2 ^ 62)<=j/\j<2 ^ 62 then some (⟨cU i (j-i).toNat,none⟩,r.2)else none
 |_=>none
theorem zu{j:Int}{μ:Mu}(h0: -(2 ^ 62)<=j)(h1:j<2 ^ 62):MT ([.int j],μ)=some (⟨cU 0 j.toNat,none⟩,μ):=if_pos ⟨h0,h1⟩
theorem rng2{i j:Int}{μ:Mu}(h0: -(2 ^ 62)<=i)(h1:i<2 ^ 62)(h2: -(2 ^ 62)<=j)(h3:j<2 ^ 62):Nh ([.int i,.int j],μ)=some (⟨cU i (j-i).toNat,none⟩,μ):=if_pos ⟨⟨h0,h1⟩,h2,h3⟩
def Ti(r:List D×Mu):Option (Src×Mu):=match r.1 with
 | [x,y]=>(bO x).bind λxs=>(bO y).map λys=>(⟨gV xs ys,none⟩,r.2)
 |_=>none
@[simp] theorem Uq{x y:D}{μ:Mu}:Ti ([x,y],μ)=(bO x).bind λxs=>(bO y).map λys=>(⟨gV xs ys,none⟩,μ):=rfl
@[simp] theorem Uz{ds:List D}:bO (.tup ds)=some ds:=rfl
@[simp] theorem Va{ds:List D}:bO (.lst ds)=some ds:=rfl
def Qh(th:D->fZ)(r:Src×Mu):Option (List fZ×Mu):=match r.1.cel with
 |none=>some (r.1.items.map th,r.2)
 |some _=>none
@[simp] theorem QZ{th:D->fZ}{items:List D}{μ:Mu}:Qh th (⟨items,none⟩,μ)=some (items.map th,μ):=rfl
def Px(r:D×Mu):Option (List fZ×Mu):=match r.1 with
 | .tup ds=>some (ds.map thE,r.2)
 | .lst ds=>some (ds.map thE,r.2)
 |_=>none
@[simp] theorem Tu{ds:List D}{μ:Mu}:Px (.tup ds,μ)=some (ds.map thE,μ):=rfl
@[simp] theorem Th{ds:List D}{μ:Mu}:Px (.lst ds,μ)=some (ds.map thE,μ):=rfl
def Ur(r:D×Mu):Option (D×Mu):=match r.1 with
 | .cell n=>(r.2.getD n none).map λds=>(.lst ds,r.2.set n none)
 |d=>some (d,r.2)
@[simp] theorem Rj{n:Nat}{μ:Mu}:Ur (.cell n,μ)=(μ.getD n none).map λds=>(.lst ds,μ.set n none):=rfl
section
variable {Q:Post (D×Mu)} {QT:Post (Bool×Mu)} {QS:Post (Fl×En×Mu)} {δ:En} {μ:Mu} {f fa fb fc:EF} {fs:AF} {t ta tc:TF} {g h:SF} {op op':O2}
@[simp] theorem Vs{d:D}:ak 0 (some d::δ) μ=some (d,μ):=rfl
@[simp] theorem Vu{i:Nat}{o:Option D}:ak (i+1) (o::δ) μ=ak i δ μ:=rfl
@[simp] theorem w_c{d:D}:mC d δ μ=some (d,μ):=rfl
@[simp] theorem w_m1{op:O1'}:M1 fa op δ μ=(fa δ μ).bind λr=>op r.1 r.2:=rfl
@[simp] theorem w_m2:M2 fa fb op δ μ=(fa δ μ).bind λr=>(fb δ r.2).bind λq=>op r.1 q.1 q.2:=rfl
@[simp] theorem Mp:aC δ μ=some ([],μ):=rfl
@[simp] theorem Gk:ao f fs δ μ=(f δ μ).bind λr=>(fs δ r.2).bind λq=>some (r.1::q.1,q.2):=rfl
@[simp] theorem w_mc{op:ON}:MC fs op δ μ=(fs δ μ).bind λr=>op r.1 r.2:=rfl
@[simp] theorem VF:nu f δ μ=(f δ μ).bind λr=>(rF r.1 r.2).map λk=>(k,r.2):=rfl
@[simp] theorem w_toB:toB f δ μ=(f δ μ).bind asB:=rfl
@[simp] theorem w_ch:OkI (MCh fa fb fc op op' δ μ) (Q:=Q)=OkI (fa δ μ) (Q:=⟨λr=>OkI (fb δ r.2) (Q:=⟨λq=>OkI ((op r.1 q.1 q.2).bind asB) (Q:=⟨λz=>rG z.1 (T:=⟨OkI ((fc δ z.2).bind λt=>op' q.1 t.1 t.2) (Q:=Q),Q.run (.bl false,z.2)⟩)⟩)⟩)⟩):=by
 unfold MCh;rw[dU];congr 2;funext r;rw[dU];congr 2;funext q;rw[dU,dU];congr 2;funext z;obtain⟨d,μ'⟩:=z
 cases d<;>simp[asB]
 rename_i b
 cases b<;>simp
@[simp] theorem w_and:OkI (nM ta tc δ μ) (Q:=QT)=OkI (ta δ μ) (Q:=⟨λr=>rG r.1 (T:=⟨OkI (tc δ r.2) (Q:=QT),QT.run (false,r.2)⟩)⟩):=by
 unfold nM;rw[dU];congr 2;funext r;unfold rG;split<;>simp[*]
@[simp] theorem w_or:OkI (rB ta tc δ μ) (Q:=QT)=OkI (ta δ μ) (Q:=⟨λr=>rG r.1 (T:=⟨QT.run (true,r.2),OkI (tc δ r.2) (Q:=QT)⟩)⟩):=by
 unfold rB;rw[dU];congr 2;funext r;unfold rG;split<;>simp[*]
@[simp] theorem w_not:pN ta δ μ=(ta δ μ).bind λr=>some (!r.1,r.2):=rfl
@[simp] theorem w_mif:OkI (mIf t fa fb δ μ) (Q:=Q)=OkI (t δ μ) (Q:=⟨λr=>rG r.1 (T:=⟨OkI (fa δ r.2) (Q:=Q),OkI (fb δ r.2) (Q:=Q)⟩)⟩):=by
 unfold mIf;rw[dU];congr 2;funext r;unfold rG;split<;>simp[*]
@[simp] theorem We:OkI (pL fa fb δ μ) (Q:=Q)=OkI ((fa δ μ).bind asB) (Q:=⟨λk=>rG k.1 (T:=⟨OkI (fb δ k.2) (Q:=Q),Q.run (.bl false,k.2)⟩)⟩):=by
 unfold pL;rw[dU,dU];congr 2;funext r;obtain⟨d,μ'⟩:=r
 cases d<;>simp[asB]
 rename_i b
 cases b<;>simp
@[simp] theorem Vt:vO fa δ μ=((fa δ μ).bind asB).bind λr=>some (.bl !r.1,r.2):=by
 unfold vO
 cases fa δ μ with
 |none=>rfl
 |some r=>obtain⟨d,μ'⟩:=r;cases d<;>rfl
@[simp] theorem w_next:bN δ μ=some (.nx,δ,μ):=rfl
@[simp] theorem Ux:uf δ μ=some (.bk,δ,μ):=rfl
@[simp] theorem w_ret:bF f δ μ=(f δ μ).bind λr=>some (.rt r.1,δ,r.2):=rfl
@[simp] theorem VG:gO f δ μ=(f δ μ).bind λr=>some (.nx,δ,r.2):=rfl
@[simp] theorem w_set{i:Nat}:bh i f δ μ=(f δ μ).bind λr=>some (.nx,δ.set i (some r.1),r.2):=rfl
@[simp] theorem w_if:OkI (sIf t g h δ μ) (Q:=QS)=OkI (t δ μ) (Q:=⟨λr=>rG r.1 (T:=⟨OkI (g δ r.2) (Q:=QS),OkI (h δ r.2) (Q:=QS)⟩)⟩):=by
 unfold sIf;rw[dU];congr 2;funext r;unfold rG;split<;>simp[*]
def vM(h:SF)(QS:Post (Fl×En×Mu))(r:Fl×En×Mu):Prop:=match r.1 with
 | .nx=>OkI (h r.2.1 r.2.2) (Q:=QS)
 |_=>QS.run r
@[simp] theorem w_seq:OkI (aP g h δ μ) (Q:=QS)=OkI (g δ μ) (Q:=⟨vM h QS⟩):=by
 unfold aP
 rw[dU]
 congr 2
 funext r
 obtain⟨fl,δ',μ'⟩:=r
 cases fl<;>simp[vM]
@[simp] theorem UJ{δ':En}{μ':Mu}:vM h QS (.nx,δ',μ')=OkI (h δ' μ') (Q:=QS):=rfl
@[simp] theorem Vc{d:D}{δ':En}{μ':Mu}:vM h QS (.rt d,δ',μ')=QS.run (.rt d,δ',μ'):=rfl
@[simp] theorem UL{δ':En}{μ':Mu}:vM h QS (.bk,δ',μ')=QS.run (.bk,δ',μ'):=rfl
@[simp] theorem Vg{δ':En}{μ':Mu}:vM h QS (.ct,δ',μ')=QS.run (.ct,δ',μ'):=rfl
@[simp] theorem w_asg{hh:GF}:Jd f hh δ μ=(f δ μ).bind λr=>(hh r.1 δ r.2).bind λδ'=>some (.nx,δ',r.2):=rfl
@[simp] theorem w_par{i j:Nat}:xn i j fs δ μ=(fs δ μ).bind λr=>match r.1 with
 | [x,y]=>some (.nx,(δ.set i (some x)).set j (some y),r.2)
 |_=>none:=rfl
@[simp] theorem w_for{fi:IF}{hh:GF}:ik fi hh g δ μ=(fi δ μ).bind λr=>forL r.1 hh g r.1.items δ r.2:=rfl
@[simp] theorem w_fz{lf:LF}:mFz lf δ μ=(lf δ μ).bind λr=>some (.lst r.1,r.2):=rfl
@[simp] theorem w_new{lf:LF}:oY lf δ μ=(lf δ μ).bind λr=>some (.cell r.2.length,r.2++[some r.1]):=rfl
@[simp] theorem Wg:uJ fs δ μ=(fs δ μ).bind λr=>if r.1.length<=sizeLine then some r else none:=rfl
@[simp] theorem VN{i:Nat}{d:D}:hName i d δ μ=some (δ.set i (some d)):=rfl
@[simp] theorem w_tup{n:Nat}{hs:GsF}{ds:List D}:jh n hs (.tup ds) δ μ=if ds.length=n then hs ds δ μ else none:=rfl
@[simp] theorem Vx:jf [] δ μ=some δ:=rfl
@[simp] theorem Vb{hh:GF}{hs:GsF}{d:D}{ds:List D}:bG hh hs (d::ds) δ μ=(hh d δ μ).bind λδ1=>hs ds δ1 μ:=rfl
@[simp] theorem Vz:gh f δ μ=(f δ μ).bind λr=>(srcOf r.1 r.2).map λS=>(S,r.2):=rfl
@[simp] theorem Vi{ds:List D}:srcOf (.tup ds) μ=some ⟨ds,none⟩:=rfl
@[simp] theorem Vm{ds:List D}:srcOf (.lst ds) μ=some ⟨ds,none⟩:=rfl
@[simp] theorem Vd{fl fh:PF}:mSl f fl fh δ μ=(f δ μ).bind λr=>(fl δ r.2).bind λl=>(fh δ l.2).bind λu=>oSl r.1 l.1 u.1 u.2:=rfl
@[simp] theorem w_fno:fNo δ μ=some (none,μ):=rfl
@[simp] theorem w_fat:fAt f δ μ=(f δ μ).bind λr=>match r.1 with
 | .int i=>some (some i,r.2)
 |_=>none:=rfl
@[simp] theorem Ru{op:O1'}{x:D}:bz op [x] μ=op x μ:=rfl
@[simp] theorem w_two{x y:D}:mG op [x,y] μ=op x y μ:=rfl
variable {i j:Int} {ds es:List D} {k:Bool}
@[simp] theorem Sv:bW (.int i) (.int j) μ=some (.int (i+j),μ):=rfl
@[simp] theorem Wc:bW (.tup ds) (.tup es) μ=if ds.length+es.length<=sizeLine then some (.tup (ds++es),μ)else none:=rfl
@[simp] theorem Gb:bW (.lst ds) (.lst es) μ=if ds.length+es.length<=sizeLine then some (.lst (ds++es),μ)else none:=rfl
@[simp] theorem Us:nA (.int i) (.int j) μ=some (.int (i-j),μ):=rfl
theorem RX(h:ji i j<=134217728):eG (.int i) (.int j) μ=some (.int (i*j),μ):=if_pos h
@[simp] theorem a_mod(h:j≠0):oMod (.int i) (.int j) μ=some (.int (i.fmod j),μ):=if_pos h
theorem vV(h:j≠0)(h2:j.natAbs.log2<9000):oDiv (.int i) (.int j) μ=some (.int (i.fdiv j),μ):=if_pos ⟨h,h2⟩
@[simp] theorem a_lt:oLt (.int i) (.int j) μ=some (.bl (decide (i<j)),μ):=rfl
@[simp] theorem a_gt:oGt (.int i) (.int j) μ=some (.bl (decide (j<i)),μ):=rfl
@[simp] theorem a_ge:oGe (.int i) (.int j) μ=some (.bl (decide (j<=i)),μ):=rfl
@[simp] theorem a_neg:ie (.int i) μ=some (.int (-i),μ):=rfl
@[simp] theorem a_abs:oF (.int i) μ=some (.int (i.natAbs),μ):=by
 show some (D.int (if i<0 then -i else i),μ)=_
 congr 3
 split<;>omega
@[simp] theorem Mt:mK (.int i) (.int j) μ=some (.int (min i j),μ):=by
 show some (D.int (if j<i then j else i),μ)=_
 congr 3
 split<;>omega
@[simp] theorem a_eq:oEq (.int i) (.int j) μ=some (.bl (i==j),μ):=by unfold oEq rsv;simp[cI,gq,eqD]
@[simp] theorem a_ne:oNe (.int i) (.int j) μ=some (.bl (!(i==j)),μ):=by unfold oNe rsv;simp[cI,gq,eqD]
@[simp] theorem a_eqB{k l:Bool}:oEq (.bl k) (.bl l) μ=some (.bl (k==l),μ):=by unfold oEq rsv;simp[cI,gq,eqD]
@[simp] theorem a_neB{k l:Bool}:oNe (.bl k) (.bl l) μ=some (.bl (!(k==l)),μ):=by unfold oNe rsv;simp[cI,gq,eqD]
@[simp] theorem a_isB{k l:Bool}:oIs (.bl k) (.bl l) μ=some (.bl (k==l),μ):=rfl
@[simp] theorem a_isN{d:D}:oIs d .non μ=some (.bl (gC d),μ):=by cases d<;>rfl
@[simp] theorem Vr{k l:Bool}:lu (.bl k) (.bl l) μ=some (.bl (k != l),μ):=rfl
@[simp] theorem VR{d:D}:lu d .non μ=some (.bl (!gC d),μ):=by cases d<;>rfl
@[simp] theorem a_tup:oTup ds μ=if ds.length<=sizeLine then some (.tup ds,μ)else none:=rfl
@[simp] theorem tE:oLst ds μ=if ds.length<=sizeLine then some (.lst ds,μ)else none:=rfl
@[simp] theorem xV{d:D}:oIx d (.int i) μ=(cj d μ).bind λds=>(atI ds i).map λd=>(d,μ):=rfl
@[simp] theorem Mq:cj (.tup ds) μ=some ds:=rfl
@[simp] theorem Sx:cj (.lst ds) μ=some ds:=rfl
@[simp] theorem i_ro:cj (.ro ds) μ=some ds:=rfl
@[simp] theorem Gp:dN (.tup ds) μ=some (.int ds.length,μ):=rfl
@[simp] theorem Av:dN (.lst ds) μ=some (.int ds.length,μ):=rfl
@[simp] theorem VP:dN (.ro ds) μ=some (.int ds.length,μ):=rfl
@[simp] theorem Uy{d:D}:gH [d] μ=(cj d μ).map λds=>(.tup ds,μ):=rfl
@[simp] theorem w_lOf:lOf fs δ μ=(fs δ μ).bind λr=>match r.1 with
 | [x]=>(cj x r.2).map λds=>(ds,r.2)
 |_=>none:=rfl
@[simp] theorem t_bl:rF (.bl k) μ=some k:=rfl
@[simp] theorem t_int:rF (.int i) μ=some (i != 0):=rfl
@[simp] theorem t_tup:rF (.tup ds) μ=some !ds.isEmpty:=rfl
@[simp] theorem t_lst:rF (.lst ds) μ=some !ds.isEmpty:=rfl
@[simp] theorem t_non:rF .non μ=some false:=rfl
@[simp] theorem Vl{T:String}:je T (.int i) μ=some (.bl (T=="int"),μ):=rfl
@[simp] theorem Vy{T:String}:je T (.bl k) μ=some (.bl (T=="bool"||T=="int"),μ):=rfl
@[simp] theorem Uu{T:String}:je T (.tup ds) μ=some (.bl (T=="tuple"),μ):=rfl
@[simp] theorem Vh{T:String}:je T (.lst ds) μ=some (.bl (T=="list"),μ):=rfl
@[simp] theorem Ve{T:String}{x:Str}:je T (.str x) μ=some (.bl (T=="str"),μ):=rfl
@[simp] theorem Vj{T:String}:je T .non μ=some (.bl false,μ):=rfl
@[simp] theorem UT{T:String}{x}:je T (.dic x) μ=some (.bl (T=="dict"),μ):=rfl
@[simp] theorem Od:dj fs δ μ=(fs δ μ).bind MT:=rfl
@[simp] theorem Wh:qO fs δ μ=(fs δ μ).bind Nh:=rfl
@[simp] theorem w_zip:pK fs δ μ=(fs δ μ).bind Ti:=rfl
def My(r:List D×Mu):Option (Src×Mu):=match r.1 with
 | [x]=>(bO x).map λxs=>(⟨dh 0 xs,none⟩,r.2)
 |_=>none
@[simp] theorem Rc{x:D}:My ([x],μ)=(bO x).map λxs=>(⟨dh 0 xs,none⟩,μ):=rfl
@[simp] theorem VH:kh fs δ μ=(fs δ μ).bind My:=rfl
@[simp] theorem w_lc{own:List Str}{capI:List Nat}{fi:IF}{hh:GF}:lLC own capI fi hh t f δ μ=(fi δ μ).bind λr=>if r.1.items.length<=sizeLine then lcL r.1 hh t f (cu own δ capI) r.1.items r.2 else none:=rfl
@[simp] theorem w_all{st:StF}:Ac st δ μ=(st δ μ).bind λr=>(uI r.1 r.2).bind λq=>some (.bl q.1,q.2):=rfl
@[simp] theorem w_any{st:StF}:Hk st δ μ=(st δ μ).bind λr=>(zH r.1 r.2).bind λq=>some (.bl q.1,q.2):=rfl
@[simp] theorem VJ{st:StF}:vW st δ μ=(st δ μ).bind λr=>if r.1.length<=sizeLine then(yc r.1 r.2).bind λq=>some (.tup q.1,q.2)else none:=rfl
@[simp] theorem w_sum{st:StF}:Ku st δ μ=(st δ μ).bind λr=>(yM 0 r.1 r.2).bind λq=>some (.int q.1,q.2):=rfl
@[simp] theorem w_gen{own:List Str}{capI:List Nat}{fi:IF}{hh:GF}:pA own capI fi hh f δ μ=(fi δ μ).bind λr=>Qh (thG hh f (cu own δ capI)) r:=rfl
@[simp] theorem Vv:sI f δ μ=(f δ μ).bind Px:=rfl
@[simp] theorem w_rev:Sy f δ μ=(f δ μ).bind λr=>Ko r.1 r.2:=rfl
@[simp] theorem Vp:Ko (.tup ds) μ=some (.tup ds.reverse,μ):=rfl
@[simp] theorem Vq:Ko (.lst ds) μ=some (.lst ds.reverse,μ):=rfl
@[simp] theorem Mm{fo fi:EF}:BR f fo fi δ μ=(f δ μ).bind λr=>(fo δ r.2).bind λo=>(fi δ o.2).bind λi=>(Hf r.1 o.1 i.1 i.2).map λμ'=>(.nx,δ,μ'):=rfl
@[simp] theorem VB{x:D}:Dy 0 f op (some x::δ) μ=(f (some x::δ) μ).bind λr=>(op x r.1 r.2).map λz=>(.nx,(some x::δ).set 0 (some z.1),z.2):=rfl
@[simp] theorem Wa:SM (.int i) (.int j) μ=some (.int (i+j),μ):=rfl
theorem Qg(h:ji i j<=134217728):Cj (.int i) (.int j) μ=some (.int (i*j),μ):=if_pos h
@[simp] theorem w_frz:BV f δ μ=(f δ μ).bind Ur:=rfl
end
theorem Mj{items:List D}{μ:Mu}:Src.ok ⟨items,none⟩ μ:=λn e=>by cases e
def vB(I:En->Mu->Prop)(QS:Post (Fl×En×Mu))(r:Fl×En×Mu):Prop:=match r.1 with
 | .nx=>I r.2.1 r.2.2
 | .ct=>I r.2.1 r.2.2
 | .bk=>QS.run (.nx,r.2)
 | .rt d=>QS.run (.rt d,r.2)
section
variable {I:En->Mu->Prop} {QS:Post (Fl×En×Mu)} {δ:En} {μ:Mu}
@[simp] theorem UV:vB I QS (.nx,δ,μ)=I δ μ:=rfl
@[simp] theorem UW:vB I QS (.ct,δ,μ)=I δ μ:=rfl
@[simp] theorem Vk:vB I QS (.bk,δ,μ)=QS.run (.nx,δ,μ):=rfl
@[simp] theorem Vo{d:D}:vB I QS (.rt d,δ,μ)=QS.run (.rt d,δ,μ):=rfl
end
theorem fD{all:List D}{h:GF}{b:SF}{QS:Post (Fl×En×Mu)}(I:List D->En->Mu->Prop)
  (turn:∀d r δ μ,I (d::r) δ μ->OkI (h d δ μ) (Q:=⟨λδ1=>OkI (b δ1 μ) (Q:=⟨vB (I r) QS⟩)⟩)) (fin:∀δ μ,I [] δ μ->QS.run (.nx,δ,μ)):
  ∀(its:List D)(δ:En)(μ:Mu),I its δ μ->OkI (forL ⟨all,none⟩ h b its δ μ) (Q:=QS)
 | [],δ,μ,hI=>by unfold forL;rw[if_pos Mj,CP];exact fin δ μ hI
 |d::r,δ,μ,hI=>by
  unfold forL
  rw[if_pos Mj,dU]
  refine(turn d r δ μ hI).mono λδ1 h1=>?_
  rw[xj]at h1 ⊢
  rw[dU]
  refine h1.mono λq h2=>?_
  rw[xj]at h2 ⊢
  obtain⟨fl,δ',μ'⟩:=q
  cases fl with
  |nx=>exact fD (all:=all) I turn fin r δ' μ' h2
  |ct=>exact fD (all:=all) I turn fin r δ' μ' h2
  |bk=>exact⟨_,rfl,h2⟩
  |rt d=>exact⟨_,rfl,h2⟩
def retS(R:Post (D×Mu))(r:Fl×En×Mu):Prop:=match r.1 with
 | .rt d=>R.run (d,r.2.2)
 | .nx=>R.run (.non,r.2.2)
 |_=>False
@[simp] theorem VM{R:Post (D×Mu)}{d:D}{δ:En}{μ:Mu}:retS R (.rt d,δ,μ)=R.run (d,μ):=rfl
@[simp] theorem Wf{R:Post (D×Mu)}{δ:En}{μ:Mu}:retS R (.nx,δ,μ)=R.run (.non,μ):=rfl
theorem mJ{m:Nat}{g:SF}{ds:List D}{μ:Mu}{R:Post (D×Mu)}(h:OkI (g (ds.map some++List.replicate (m-ds.length) none) μ) (Q:=⟨retS R⟩)):OkI (aG m g ds μ) (Q:=R):=by
 unfold aG
 rw[dU]
 refine h.mono λr hr=>?_
 obtain⟨fl,δ,μ'⟩:=r
 cases fl with
 |rt d=>exact⟨_,rfl,hr⟩
 |nx=>exact⟨_,rfl,hr⟩
 |bk=>exact hr.elim
 |ct=>exact hr.elim
end L3
namespace LG
open PySem PySem.Spec PyProof.Rows L2 L3
theorem yC{α:Type}{o:Option α}{x:α}(h:Ok o (λr=>r=x)):o=some x:=by
 obtain⟨r,e,h⟩:=h
 have h:r=x:=h
 rw[e,h]
theorem bC{m:Nat}{g:SF}{ds:List D}{μ:Mu}{d:D}(h:OkI (g (ds.map some++List.replicate (m-ds.length) none) μ) (Q:=⟨retS ⟨λr=>r=(d,μ)⟩⟩)):trunc (aG m g) ds μ=some (d,μ):=
 dJ (yC (mJ h))
@[simp] theorem sz{n:Nat}(h:n<=1000):(n<=sizeLine)=True:=eq_true (Zl h (by decide))
abbrev nc(d:D):Prop:=cLt 0 d=true
theorem xx:∀{ds:List D},nj 0 ds=true↔∀d∈ds,nc d
 | []=>by unfold nj;simp
 |d::ds=>by unfold nj;simp[xx (ds:=ds)]
theorem lR{ds:List D}:nc (.tup ds)↔∀d∈ds,nc d:=by
 have e:cLt 0 (.tup ds)=nj 0 ds:=by rw[cLt]
 unfold nc
 rw[e]
 exact xx
theorem Qj{i:Int}:nc (.int i):=by unfold nc cLt;rfl
theorem jR{ns:List Int}:∀d∈ns.map D.int,nc d:=λd h=>by
 obtain⟨n,_,rfl⟩:=Zq.mp h
 exact Qj
def isInt:D->Bool
 | .int _=>true
 |_=>false
def intOf:D->Int
 | .int i=>i
 |_=>0
@[simp] theorem Ra{i:Int}:isInt (.int i)=true:=rfl
@[simp] theorem Ri{i:Int}:intOf (.int i)=i:=rfl
theorem ints_of:∀{ds:List D},ds.all isInt=true->ds=(ds.map intOf).map D.int
 | [],_=>rfl
 |d::ds,h=>by
  rw[List.all_cons,Zo]at h
  cases d with
  |int i=>rw[Zj,Zj,<-ints_of h.2];rfl
  |_=>exact absurd h.1 (by simp[isInt])
theorem ints_map(ns:List Int):(ns.map D.int).map intOf=ns:=by simp[Function.comp_def]
theorem Gs(ns:List Int):(ns.map D.int).all isInt=true:=by simp
theorem QW(d:D)(μ:Mu)(h:nc d):trunc (aG 1 fQ) [d] μ=some (.bl (isInt d),μ):=by
 apply bC
 cases d with
 |cell n=>simp[nc,cLt]at h
 |ro ds=>simp[fQ,isInt,je,HB]
 |_=>simp[fQ,isInt]
theorem zF{th:D->fZ}{p:D->Bool}{μ:Mu}:∀(ds:List D),(∀d∈ds,th d μ=some (.bl (p d),μ))->uI (ds.map th) μ=some (ds.all p,μ)
 | [],_=>rfl
 |d::ds,h=>by
  rw[Zj]
  unfold uI
  rw[h d (by simp)]
  have ih:=zF ds λx hx=>h x (by simp[hx])
  cases hp:p d<;>simp[hp,wZ,ih]
theorem nY{all:List D}{h:GF}{tt:TF}{fe:EF}{δb:En}{p:D->Bool}{f:D->D}{μ:Mu}:∀(items:List D),(∀d∈items,∃δ1,h d δb μ=some δ1/\tt δ1 μ=some (p d,μ)/\(p d=true->fe δ1 μ=some (f d,μ)))->lcL ⟨all,none⟩ h tt fe δb items μ=some ((items.filter p).map f,μ)
 | [],_=>by unfold lcL;simp[bB]
 |d::r,hd=>by
  obtain⟨δ1,h1,h2,h3⟩:=hd d (by simp)
  have ih:=nY (all:=all) r λx hx=>hd x (by simp[hx])
  unfold lcL
  cases hp:p d with
  |false=>simp[bB,h1,h2,hp,ih]
  |true=>simp[bB,h1,h2,hp,h3 hp,ih]
def uV:D->Bool
 | .tup ds=>ds.all isInt
 |_=>false
def MK(φ:FF):Prop:=∀d μ,nc d->φ [d] μ=some (.bl (isInt d),μ)
theorem Bh{φ:FF}(hφ:MK φ)(d:D)(μ:Mu)(h:nc d):trunc (aG 1 (dz φ)) [d] μ=some (.bl (uV d),μ):=by
 apply bC
 cases d with
 |cell n=>simp[nc,cLt]at h
 |ro ds=>simp[dz,uV,je,HB]
 |tup ds=>
  have e:=zF (th:=thG (hName 0) (MC (ao (ak 0) aC) φ) (cu ["part"] [some (D.tup ds)] [])) (p:=isInt) (μ:=μ) ds λx hx=>by
   simp[thG,cu,hφ x μ (lR.mp h x hx)]
  simp[dz,uV,e]
 |_=>simp[dz,uV]
theorem yW{ds:List D}(h:ds≠[]):atI ds (-1)=some (ds.getLast h):=by
 have hl:0<ds.length:=List.length_pos_iff.mpr h
 unfold atI ixN
 rw[if_neg (by omega),if_pos (by omega)]
 have:((-1:Int)+ds.length).toNat=ds.length-1:=by omega
 simp only[Option.bind_some,this]
 rw[List.getLast_eq_getElem]
 simp[hl]
theorem vG{ns:List Int}(h:ns≠[]):atI (ns.map D.int) (-1)=some (.int (ns.getLastD 0)):=by
 rw[yW (by simpa using h)]
 simp[List.getLastD_eq_getLast?,List.getLast?_eq_some_getLast h]
def Ir(φ:FF):Prop:=∀d μ,nc d->φ [d] μ=some (.bl (uV d),μ)
theorem Ka(k l:Bool)(μ:Mu):trunc (aG 2 mZ) [.bl k,.bl l] μ=some (.bl (k==l),μ):=by
 apply bC
 simp[mZ]
theorem rY{n d:Nat}{i:Int}(h:0<=i):HT.sIx n d (some i)=min i.toNat n:=if_neg (by omega)
theorem Nb{ds:List D}{i:Int}{μ:Mu}(h0:0<=i)(h1:i<ds.length):oSl (.tup ds) none (some i) μ=some (.tup (ds.take i.toNat),μ):=by
 have h0':0<=i:=by omega
 have e:HT.sIx ds.length ds.length (some i)=i.toNat:=by rw[rY h0'];omega
 have e0:HT.sIx ds.length 0 none=0:=rfl
 unfold oSl L3.cutD
 simp only[e,e0]
 simp
theorem Dm{ds:List D}{i:Int}{μ:Mu}(h0:0<i)(h1:i<=ds.length):oSl (.tup ds) (some i) none μ=some (.tup (ds.drop i.toNat),μ):=by
 have h0':0<=i:=by omega
 have e:HT.sIx ds.length 0 (some i)=i.toNat:=by rw[rY h0'];omega
 have e0:HT.sIx ds.length ds.length none=ds.length:=rfl
 unfold oSl L3.cutD
 simp only[e,e0]
 simp[List.take_of_length_le]
theorem Qf{ds:List D}{i:Int}{μ:Mu}(h0:0<=i):oSl (.lst ds) none (some i) μ=some (.lst (ds.take i.toNat),μ):=by
 have h0':0<=i:=by omega
 have e:HT.sIx ds.length ds.length (some i)=min i.toNat ds.length:=by rw[rY h0']
 have e0:HT.sIx ds.length 0 none=0:=rfl
 unfold oSl L3.cutD
 simp only[e,e0]
 simp[List.take_eq_take_iff]
theorem tG{ds:List D}{i:Int}{μ:Mu}(h0:0<=i):oSl (.lst ds) (some i) none μ=some (.lst (ds.drop i.toNat),μ):=by
 have h0':0<=i:=by omega
 have e:HT.sIx ds.length 0 (some i)=min i.toNat ds.length:=by rw[rY h0']
 have e0:HT.sIx ds.length ds.length none=ds.length:=rfl
 unfold oSl L3.cutD
 simp only[e,e0]
 congr 3
 by_cases h:i.toNat<=ds.length
 .rw[Nat.min_eq_left h];simp[List.take_of_length_le]
 .rw[Nat.min_eq_right (by omega)];simp;omega
def muD(L:List Int):Mu:=[some (L.map .int)]
def DlD(L:List Int):Prop:=∀x∈L,Dr x
theorem pF{a:Nat}{x y:Int}(hx:Sm a x)(hy:0<y):Sm a (x.fdiv y):=by
 rw[Int.fdiv_eq_ediv_of_nonneg x (by omega)]
 unfold Sm at *
 have:=Int.natAbs_ediv_le_natAbs x y
 omega
theorem pM{a:Int}{n:Nat}:(cU a n).length=n:=by unfold cU;simp
theorem HJ{φ:FF}(h:xJ φ)(ns:List Int)(hn:ns.length<=63):∃L,φ [.ro (ns.map .int)] []=some (.cell 0,muD L)/\DlD L:=h ns hn
theorem LK{φ:FF}{ns:List Int}(h:Ok (φ [.ro (ns.map .int)] []) (λr=>r.1= .bl true)):∃μ',φ [.ro (ns.map .int)] []=some (.bl true,μ'):=by
 obtain⟨⟨d,μ'⟩,e,h⟩:=h
 have h:d= .bl true:=h
 subst h
 exact⟨μ',e⟩
@[simp] theorem Um{α:Type}{l:List α}{x y:α}:(l++[x]).set l.length y=l++[y]:=by simp[List.set_append]
mutual
theorem ut{m:Nat}:∀{d:D},cLt 0 d=true->cLt m d=true
 | .non,_=>by simp[cLt]
 | .bl _,_=>by simp[cLt]
 | .int _,_=>by simp[cLt]
 | .str _,_=>by simp[cLt]
 | .tup ds,h=>by rw[cLt]at h ⊢;exact kO h
 | .lst ds,h=>by rw[cLt]at h ⊢;exact kO h
 | .ro ds,h=>by rw[cLt]at h ⊢;exact kO h
 | .dic ds,h=>by rw[cLt]at h ⊢;exact vC h
 | .cell n,h=>by rw[cLt]at h;simp at h
theorem kO{m:Nat}:∀{ds:List D},nj 0 ds=true->nj m ds=true
 | [],_=>by rw[nj]
 |d::ds,h=>by
  rw[nj,Zo]at h ⊢
  exact⟨ut h.1,kO h.2⟩
theorem vC{m:Nat}:∀{ds:List (Key×D)},yo 0 ds=true->yo m ds=true
 | [],_=>by rw[yo]
 |d::ds,h=>by
  rw[yo,Zo]at h ⊢
  exact⟨ut h.1,vC h.2⟩
end
def il(μ:Mu):Prop:=∀ds,some ds∈μ->∀d∈ds,nc d
theorem il.c{μ:Mu}(h:il μ)(m:Nat):cOk m μ=true:=by
 unfold cOk
 rw[List.all_eq_true]
 intro o ho
 cases o with
 |none=>rfl
 |some ds=>exact kO (xx.mpr (h ds ho))
theorem il.nil:il []:=λds h=>by simp at h
theorem il.cons{ds:List D}{μ:Mu}(h1:∀d∈ds,nc d)(h2:il μ):il (some ds::μ):=λes h=>by
 rcases Zi.mp h with z|z
 .cases z;exact h1
 .exact h2 es z
theorem il.dr{L:List Int}{μ:Mu}(h:il μ):il (some (L.map .int)::μ):=il.cons jR h
theorem HS{φ:FF}{ds:List D}{μ μ' junk:Mu}{d:D}(h:φ ds μ=some (d,μ'++junk))(hl:μ'.length=μ.length)(hd:nc d)(hm:il μ'):trunc φ ds μ=some (d,μ'):=by
 unfold trunc
 rw[h]
 simp only[Option.bind_some]
 have e:(μ'++junk).take μ.length=μ':=by rw[<-hl];simp
 rw[e,ut hd,hm.c]
 rfl
theorem sH{φ:FF}{ds:List D}{μ:Mu}{P:D->Prop}(hm:il μ)(h:Ok (φ ds μ) (λr=>∃junk,r.2=μ++junk/\nc r.1/\P r.1)):∃d,trunc φ ds μ=some (d,μ)/\P d:=by
 obtain⟨⟨d,μ1⟩,e,junk,h1,h4,h5⟩:=h
 have h1:μ1=μ++junk:=h1
 subst h1
 exact⟨d,HS e rfl h4 hm,h5⟩
def xU(φ:FF):Prop:=∀(L:List Int)(rest:Mu),φ [.cell 0] (some (L.map .int)::rest)=some (.int (L.headD 0),some (L.tail.map .int)::rest)
theorem Fd:xU (trunc (aG 1 lw)):=λL rest=>by
 have h1:oEq (.cell 0) (.lst []) (some (L.map D.int)::rest)=some (.bl L.isEmpty,some (L.map D.int)::rest):=by
  unfold oEq rsv
  simp[cI,mU,gq,oZ,eqD,eU]
  cases L<;>simp[iW]
 refine qt ?_ (by simp)
 unfold aG lw
 have hz:0<=sizeLine:=Nat.zero_le _
 cases L with
 |nil=>
  simp at h1
  simp[aP,sIf,toB,M2,ak,MC,aC,oLst,hz,h1,bF,mC]
 |cons x t=>
  simp at h1
  simp[aP,sIf,toB,M2,ak,MC,aC,oLst,hz,h1,bF,mC,bN,Di]
theorem pQ{φ:FF}(h:xU φ){L:List Int}(hL:DlD L)(rest:Mu):∃x L',φ [.cell 0] (some (L.map .int)::rest)=some (.int x,some (L'.map .int)::rest)/\Dr x/\DlD L':=by
 refine⟨L.headD 0,L.tail,h L rest,?_,λx hx=>hL x (List.mem_of_mem_tail hx)⟩
 cases L with
 |nil=>exact⟨by decide,by decide⟩
 |cons a b=>exact hL a (by simp)
def PtL(d:Nat)(ns:List Int)(b:Int):Prop:=ns.length=d/\(∀n∈ns,n.natAbs<=10000)/\1<=b/\b<=60
def Ds(d:Nat)(p:D):Prop:=∃ns b,p= .tup ((ns++[b]).map .int)/\PtL d ns b/\aW b.natAbs ns=1
theorem Ds.nc{d:Nat}{p:D}(h:Ds d p):nc p:=by
 obtain⟨ns,b,rfl,_⟩:=h
 exact lR.mpr jR
theorem rA{x y:Int}(hy:0<y):(x.fdiv y).natAbs<=x.natAbs:=by
 rw[Int.fdiv_eq_ediv_of_nonneg x (by omega)]
 exact Int.natAbs_ediv_le_natAbs x y
theorem Ma{ns:List Int}{b:Int}(hb:0<b):aW (b.fdiv (aW b.natAbs ns:Nat)).natAbs (ns.map λn=>n.fdiv (aW b.natAbs ns:Nat))=1:=by
 have h:=(zN ns b.natAbs _).mp (Nat.dvd_refl _)
 have g0:aW b.natAbs ns≠0:=gk (.inl (by omega))
 obtain⟨g,hg⟩:∃g,aW b.natAbs ns=g:=⟨_,rfl⟩
 rw[hg]at h g0 ⊢
 have hm:∀n:Int,g ∣ n.natAbs->(g:Int)*n.fdiv (g:Nat)=n:=λn hn=>by
  rw[Int.fdiv_eq_ediv_of_nonneg n (by omega)]
  exact Int.mul_ediv_cancel' (Int.ofNat_dvd_left.mpr hn)
 have hs:=jE (g:Int) (ns.map λn=>n.fdiv (g:Nat)) (b.fdiv (g:Nat)).natAbs
 have e1:((g:Int)).natAbs*(b.fdiv (g:Nat)).natAbs=b.natAbs:=by rw[<-Int.natAbs_mul,hm b h.1]
 have e2:(ns.map λn=>n.fdiv (g:Nat)).map ((g:Int) * ·)=ns:=by
  rw[List.map_map]
  conv=>rhs;rw[<-List.map_id ns]
  apply List.map_congr_left
  intro n hn
  exact hm n (h.2 n hn)
 rw[e1,e2,hg,Int.natAbs_natCast]at hs
 exact Nat.eq_of_mul_eq_mul_left (show 0<g by omega) (by rw[Nat.mul_one];exact hs.symm)
theorem QR{φ:FF}(h:Cu φ){d:Nat}{ns:List Int}{b:Int}(μ:Mu)(hd:1<=d)(hd3:d<=3)(hp:PtL d ns b):∃p,φ [.lst (ns.map .int),.int b] μ=some (p,μ)/\Ds d p:=by
 obtain⟨hl,hn,b0,b1⟩:=hp
 have e:=h ns b μ (by omega) (by unfold Sm;have:(2:Nat) ^ 4000>=2 ^ 7:=Nat.pow_le_pow_right (by decide) (by decide);omega) (by omega) (λz=>by rw[z]at hl;simp at hl;omega)
 have e1:sgn b=1:=if_pos (by omega)
 rw[e1,Int.one_mul]at e
 have g0:aW b.natAbs ns≠0:=gk (.inl (by omega))
 have gd:=(gw ns b.natAbs).2
 have gle:=Nat.le_of_dvd (by omega) gd
 refine⟨_,e,ns.map (λn=>n.fdiv (aW b.natAbs ns:Nat)),b.fdiv (aW b.natAbs ns:Nat),by simp[List.map_append],⟨by simp[hl],λm hm=>?_,?_,?_⟩,Ma (by omega)⟩
 .obtain⟨n,hn',rfl⟩:=Zq.mp hm
  have:=rA (x:=n) (y:=(aW b.natAbs ns:Nat)) (by omega)
  have:=hn n hn'
  omega
 .rw[Int.fdiv_eq_ediv_of_nonneg b (by omega)]
  exact(Int.le_ediv_iff_mul_le (by omega)).mpr (by omega)
 .have:=rA (x:=b) (y:=(aW b.natAbs ns:Nat)) (by omega)
  omega
def isPlace(φ:FF):Prop:=∀(x k b:Int)(μ:Mu),Dr x->0<=k->k<=4->0<=b->b<=500->∃t u:Int,φ [.int x,.int k,.int b] μ=some (.tup [.int t,.int u],μ)/\t.natAbs<=10000/\1<=u/\u<=60
theorem Ft:isPlace (trunc (aG 3 gm)):=λx k b μ hx k0 k4 b0 b5=>by
 have q1:=bM (x:=x) (m:=20001) (by decide)
 have q2:=bM (x:=x.fdiv 20001) (m:=60) (by decide)
 have q3:=bM (x:=x) (m:=5) (by decide)
 have q4:=bM (x:=x) (m:=11) (by decide)
 have q5:=bM (x:=x.fdiv 11) (m:=3) (by decide)
 have q6:=bM (x:=x) (m:=4) (by decide)
 have q7:=bM (x:=x) (m:=2) (by decide)
 have q8:=bM (x:=b) (m:=7) (by decide)
 have d1:=vV (i:=x) (j:=20001) (μ:=μ) (by decide) (by decide)
 have d2:=vV (i:=x) (j:=11) (μ:=μ) (by decide) (by decide)
 have hk:k=0∨k=1∨k=2∨k=3∨k=4:=by omega
 rcases hk with rfl|rfl|rfl|rfl|rfl
 .refine⟨x.fmod 20001-10000,1+(x.fdiv 20001).fmod 60,bC ?_,by omega,by omega,by omega⟩
  simp[gm,d1]
 .refine⟨x.fmod 5-2,1,bC ?_,by omega,by omega,by omega⟩
  simp[gm]
 .refine⟨x.fmod 11-5,1+(x.fdiv 11).fmod 3,bC ?_,by omega,by omega,by omega⟩
  simp[gm,d2]
 .obtain⟨y,hy,e⟩:=pD (ds:=[D.int 0,.int 0,.int 1,.int 40]) q6.1 q6.2
  have hy:∃z:Int,y= .int z/\0<=z/\z<=40:=by
   simp only[Zi,List.not_mem_nil,or_false]at hy
   rcases hy with rfl|rfl|rfl|rfl<;>exact⟨_,rfl,by decide,by decide⟩
  obtain⟨z,rfl,z0,z1⟩:=hy
  refine⟨b+z,1,bC ?_,by omega,by omega,by omega⟩
  simp[gm,e]
 .have s1:Sm 10 (x.fmod 2):=by
   unfold Sm
   have:(2:Nat) ^ 10=1024:=by decide
   omega
  have s2:Sm 10 (1+b.fmod 7):=by
   unfold Sm
   have:(2:Nat) ^ 10=1024:=by decide
   omega
  have m:=RX (μ:=μ) (zY s1 s2 (by decide))
  have hb:(x.fmod 2*(1+b.fmod 7)).natAbs<=10000:=by
   have h2:x.fmod 2=0∨x.fmod 2=1:=by omega
   rcases h2 with h2|h2<;>rw[h2]<;>omega
  refine⟨x.fmod 2*(1+b.fmod 7),1,bC ?_,hb,by omega,by omega⟩
  simp[gm,m]
theorem De{a:Int}{n:Nat}{d:D}(h:d∈cU a n):∃k:Int,d= .int k/\a<=k/\k<a+n:=by
 unfold cU at h
 obtain⟨k,hk,rfl⟩:=Zq.mp h
 have:=List.mem_range.mp hk
 exact⟨_,rfl,by omega,by omega⟩
def CK(φ:FF):Prop:=∀(x d k b:Int)(μ:Mu),il μ->Dr x->1<=d->d<=3->0<=k->k<=4->0<=b->b<=400->∃p,φ [.int x,.int d,.int k,.int b] μ=some (p,μ)/\Ds d.toNat p
theorem FW{φ1 φ2 φ3:FF}(h1:tu φ1)(h2:isPlace φ2)(h3:Cu φ3):CK (trunc (aG 9 (kJ φ1 φ2 φ3))):=λx d k b μ hm hx d1 d3 k0 k4 b0 b4=>by
 apply sH hm
 apply mJ
 unfold kJ
 simp[zu (j:=d) (by omega) (by omega)]
 refine fD (λits δ μ'=>∃(acc:List Int)(bot:Int)(o6 o7 o8:Option D),μ'=μ++[some (acc.map .int)]/\acc.length+its.length=d.toNat/\(∀n∈acc,n.natAbs<=10000)/\(1<=bot/\bot<=60)/\(∀i∈its,∃k:Int,i= .int k/\0<=k/\k<3)/\
  δ=[some (.int x),some (.int d),some (.int k),some (.int b),some (.cell μ.length),some (.int bot),o6,o7,o8]) ?_ ?_ _ _ _ ⟨[],1,none,none,none,rfl,by simp[pM],by simp,by omega,λi hi=>by
   obtain⟨k,rfl,h0,h1⟩:=De hi
   exact⟨k,rfl,by omega,by omega⟩,rfl⟩
 .rintro i rest δ μ' ⟨acc,bot,o6,o7,o8,rfl,hl,ha,hb,hi,rfl⟩
  obtain⟨j,rfl,j0,j1⟩:=hi i (by simp)
  obtain⟨y,ey,hy⟩:=h1 x (j+1) (μ++[some (acc.map .int)]) (by omega) (by omega)
  obtain⟨t,u,et,ht,u0,u1⟩:=h2 y k (b+j) (μ++[some (acc.map .int)]) hy k0 k4 (by omega) (by omega)
  have hz:acc.length<sizeLine:=Zc (by omega:acc.length<1000) (by decide)
  have fin:∀bot',1<=bot'->bot'<=60->∃(acc':List Int)(bot:Int)(o6 o7 o8:Option D),μ++[some (acc.map D.int++[.int t])]=μ++[some (acc'.map .int)]/\acc'.length+rest.length=d.toNat/\(∀n∈acc',n.natAbs<=10000)/\(1<=bot/\bot<=60)/\(∀i∈rest,∃k:Int,i= .int k/\0<=k/\k<3)/\
    ([some (.int x),some (.int d),some (.int k),some (.int b),some (.cell μ.length),some (.int bot'),some (.int j),some (.int t),some (.int u)]:En)=[some (.int x),some (.int d),some (.int k),some (.int b),some (.cell μ.length),some (.int bot),o6,o7,o8]:=λbot' q1 q2=>
   ⟨acc++[t],bot',_,_,_,by simp,by simp at hl ⊢;omega,λn hn=>by
    rcases Zm.mp hn with z|z
    .exact ha n z
    .rw[List.mem_singleton.mp z];exact ht,⟨q1,q2⟩,λi h=>hi i (by simp[h]),rfl⟩
  by_cases hj:j=0
  .subst hj
   rw[show(0:Int)+1=1 from rfl]at ey
   rw[show b+(0:Int)=b by omega]at et
   simp[ey,et,jN,ju,hz]
   simpa using fin u u0 u1
  .have hjb:(j==0)=false:=by simpa using hj
   simp[ey,et,hjb,jN,ju,hz]
   simpa using fin bot hb.1 hb.2
 .rintro δ μ' ⟨acc,bot,o6,o7,o8,rfl,hl,ha,hb,hi,rfl⟩
  obtain⟨p,ep,hp⟩:=QR h3 (d:=d.toNat) (ns:=acc) (b:=bot) (μ++[none]) (by omega) (by omega) ⟨by simpa using hl,ha,hb⟩
  simp[ep]
  exact⟨hp.nc,hp⟩
section
variable {α:Type} {r j:List α} {x y z:α}
@[simp] theorem Uv:(r++x::j)[r.length]? =some x:=by simp
@[simp] theorem Vn:(r++x::j).set r.length y=r++y::j:=by simp[List.set_append]
@[simp] theorem Vf:(r++x::(j++[y]))[r.length+(j.length+1)]? =some y:=by
 rw[List.getElem?_append_right (by omega)]
 have:r.length+(j.length+1)-r.length=j.length+1:=by omega
 rw[this]
 simp
@[simp] theorem UG:(r++x::(j++[y])).set (r.length+(j.length+1)) z=r++x::(j++[z]):=by
 rw[List.set_append_right _ _ (by omega)]
 have:r.length+(j.length+1)-r.length=j.length+1:=by omega
 rw[this]
 simp
end
theorem rR{ys:List Int}{k:Int}(h0:0<=k)(h1:k<ys.length):atI (ys.map D.int) k=some (.int (ys.getD k.toNat 0))/\ys.getD k.toNat 0∈ys:=by
 have hk:k.toNat<ys.length:=by omega
 have e:ys.getD k.toNat 0=ys[k.toNat]:=by simp[List.getD,hk]
 refine⟨?_,by rw[e];exact List.getElem_mem hk⟩
 unfold atI ixN
 rw[if_pos h0,if_pos (by simpa using h1),e]
 simp[hk]
theorem qm{ps:List D}{μ:Mu}(h1:eU ps=true)(h2:iR ps<90):oEq (.lst ps) (.lst []) μ=some (.bl ps.isEmpty,μ):=by
 unfold oEq
 have e1:rsv (.lst ps) μ= .lst ps:=rfl
 have e2:rsv (.lst []) μ= .lst []:=rfl
 rw[e1,e2]
 have e3:cI (.lst ps)=true:=by rw[cI];exact h1
 have e4:cI (.lst [])=true:=by rw[cI,eU]
 have e5:gq (.lst ps)<100:=by rw[gq];omega
 have e6:eqD (.lst ps) (.lst [])=ps.isEmpty:=by cases ps<;>rw[eqD]<;>simp[iW]
 rw[e3,e4,e6,if_pos ⟨rfl,e5⟩]
theorem nH{b:Nat}{x:Int}(n:Nat)(h:x.natAbs<n)(hn:n<=2 ^ b):Sm b x:=Zc h hn
def au(r:List Int):D:=.tup (r.map .int)
@[simp] theorem Rg{r:List Int}{μ:Mu}:cj (au r) μ=some (r.map .int):=rfl
@[simp] theorem Jh{r:List Int}{μ:Mu}:dN (au r) μ=some (.int r.length,μ):=by simp[au]
theorem Jb{α:Type}{F:α->D}{l:List α}{k:Int}{z:α}(h0:0<=k)(h1:k<l.length):atI (l.map F) k=some (F (l.getD k.toNat z))/\l.getD k.toNat z∈l:=by
 have hk:k.toNat<l.length:=by omega
 have e:l.getD k.toNat z=l[k.toNat]:=by simp[List.getD,hk]
 refine⟨?_,by rw[e];exact List.getElem_mem hk⟩
 unfold atI ixN
 rw[if_pos h0,if_pos (by simpa using h1),e]
 simp[hk]
theorem mD{α β:Type}{F:α->D}{G:β->D}:∀(a:List α)(b:List β),gV (a.map F) (b.map G)=(a.zip b).map λp=>.tup [F p.1,G p.2]
 | [],_=>by simp[gV]
 |a::as,[]=>by simp[gV]
 |a::as,b::bs=>by simp[gV,mD as bs]
theorem yH{α:Type}{th:D->fZ}{F:α->D}{g:α->Int}{μ:Mu}:∀(l:List α)(a:Int),(∀x∈l,th (F x) μ=some (.int (g x),μ))->yM a ((l.map F).map th) μ=some (a+(l.map g).sum,μ)
 | [],a,_=>by simp[yM]
 |x::l,a,h=>by
  have h1:=h x (by simp)
  have ih:=yH l (a+g x) λy hy=>h y (by simp[hy])
  rw[Zj,Zj]
  unfold yM
  rw[h1]
  simp only[Option.bind_some]
  rw[ih]
  simp
  omega
theorem dC{α:Type}{all:List D}{h:GF}{fe:EF}{δb:En}{F:α->D}{f:α->D}{μ:Mu}:∀(l:List α),(∀x∈l,∃δ1,h (F x) δb μ=some δ1/\fe δ1 μ=some (f x,μ))->lcL ⟨all,none⟩ h bU fe δb (l.map F) μ=some (l.map f,μ)
 | [],_=>by simp only[List.map_nil];unfold lcL;simp[bB]
 |d::r,hd=>by
  obtain⟨δ1,h1,h2⟩:=hd d (by simp)
  have h3:=dC (all:=all) r λx hx=>hd x (by simp[hx])
  rw[Zj]
  unfold lcL
  simp[bB,h1,bU,h2,h3]
def uF:Int->List Int->Int
 |m,[]=>m
 |m,b::bs=>uF (m*b.fdiv (Int.gcd m b)) bs
theorem Cz{m b:Int}(hm:1<=m)(hb:1<=b):1<=(Int.gcd m b:Int)/\((Int.gcd m b:Int) ∣ b)/\((Int.gcd m b:Int) ∣ m)/\(Int.gcd m b:Int)<=b:=by
 have h0:Int.gcd m b≠0:=by
  intro z
  rw[Int.gcd_eq_zero_iff]at z
  omega
 refine⟨by omega,Int.gcd_dvd_right _ _,Int.gcd_dvd_left _ _,Int.le_of_dvd (by omega) (Int.gcd_dvd_right _ _)⟩
theorem yZ{m b:Int}(hm:1<=m)(hb:1<=b):1<=b.fdiv (Int.gcd m b)/\b.fdiv (Int.gcd m b)<=b/\(m*b).fdiv (Int.gcd m b)=m*b.fdiv (Int.gcd m b)/\b ∣ m*b.fdiv (Int.gcd m b):=by
 obtain⟨g1,g2,g3,g4⟩:=Cz hm hb
 generalize (Int.gcd m b:Int)=g at *
 rw[Int.fdiv_eq_ediv_of_nonneg b (by omega),Int.fdiv_eq_ediv_of_nonneg (m*b) (by omega)]
 refine⟨(Int.le_ediv_iff_mul_le (by omega)).mpr (by omega),Int.ediv_le_self _ (by omega),Int.mul_ediv_assoc m g2,?_⟩
 obtain⟨c,hc⟩:=g3
 obtain⟨e,he⟩:=g2
 have:b / g=e:=by rw[he];exact Int.mul_ediv_cancel_left e (by omega)
 rw[this,hc,he]
 exact⟨c,by rw[Int.mul_assoc,Int.mul_comm c e,<-Int.mul_assoc]⟩
theorem HX:∀(bs:List Int)(m:Int),1<=m->(∀b∈bs,1<=b/\b<64)->1<=uF m bs/\(m ∣ uF m bs)/\(∀b∈bs,b ∣ uF m bs)/\∀k,Sm k m->Sm (k+6*bs.length) (uF m bs)
 | [],m,hm,_=>⟨hm,Int.dvd_refl _,by simp,λk h=>h⟩
 |b::bs,m,hm,hb=>by
  obtain⟨b1,b2⟩:=hb b (by simp)
  obtain⟨f1,f2,f3,f4⟩:=yZ hm b1
  have hm':1<=m*b.fdiv (Int.gcd m b):=by
   have:=Int.mul_le_mul hm f1 (by decide) (by omega)
   omega
  obtain⟨h1,h2,h3,h4⟩:=HX bs (m*b.fdiv (Int.gcd m b)) hm' λc hc=>hb c (by simp[hc])
  show 1<=uF (m*b.fdiv (Int.gcd m b)) bs/\_
  refine⟨h1,Int.dvd_trans (Int.dvd_mul_right _ _) h2,λc hc=>?_,λk hk=>?_⟩
  .rcases Zi.mp hc with z|z
   .rw[z];exact Int.dvd_trans f4 h2
   .exact h3 c z
  .have:=h4 (k+6) (fL hk (nH 64 (by omega) (by decide)))
   refine bZ this ?_
   simp only[List.length_cons]
   omega
def GJ(φ:FF):Prop:=∀(bs:List Int)(μ:Mu),(∀b∈bs,1<=b/\b<64)->bs.length<=100->φ [.lst (bs.map .int)] μ=some (.int (uF 1 bs),μ)
theorem Li{φ:FF}(hφ:mq φ):GJ (trunc (aG 3 (cO φ))):=λbs μ hb hl=>by
 apply bC
 unfold cO
 simp
 refine fD (λits δ μ'=>∃(ms:List Int)(m:Int)(o:Option D)(k:Nat),its=ms.map .int/\μ'=μ/\uF m ms=uF 1 bs/\1<=m/\Sm k m/\k+6*ms.length<=700/\(∀b∈ms,1<=b/\b<64)/\δ=[some (.lst (bs.map .int)),some (.int m),o]) ?_ ?_ _ _ _ ⟨bs,1,none,1,rfl,rfl,rfl,by decide,by unfold Sm;decide,by omega,hb,rfl⟩
 .rintro d rest δ μ' ⟨ms,m,o,k,hi,rfl,hm,m1,hk,hkl,hb,rfl⟩
  cases ms with
  |nil=>cases hi
  |cons b ms=>
   cases hi
   obtain⟨b1,b2⟩:=hb b (by simp)
   obtain⟨g1,g2,g3,g4⟩:=Cz m1 b1
   obtain⟨f1,f2,f3,f4⟩:=yZ m1 b1
   have sb:Sm 6 (b.fdiv (Int.gcd m b)):=nH 64 (by omega) (by decide)
   have eg:=hφ m b μ'
   have ed:=jF (x:=b) (y:=(Int.gcd m b:Int)) (b:=6) μ' (by omega) (nH 64 (by omega) (by decide)) (by decide)
   have em:=Qg (i:=m) (j:=b.fdiv (Int.gcd m b)) (μ:=μ') (zY hk sb (by simp at hkl;omega))
   simp only[List.length_cons]at hkl
   simp[Dy,eg,ed,em]
   refine⟨ms,rfl,_,hm,?_,_,k+6,fL hk sb,by omega,λc hc=>hb c (List.mem_cons_of_mem _ hc),rfl,rfl⟩
   have:=Int.mul_le_mul m1 f1 (by decide) (by omega)
   omega
 .rintro δ μ' ⟨ms,m,o,k,hi,rfl,hm,m1,hk,hkl,hb,rfl⟩
  cases ms with
  |nil=>
   have hm:m=uF 1 bs:=hm
   subst hm
   simp
  |cons b ms=>cases hi
def dot(ws cs:List Int):Int:=((ws.zip cs).map λp=>p.1*p.2).sum
def Gx(φ:FF):Prop:=∀(ws cs:List Int)(μ:Mu),(∀w∈ws,Sm 9000 w)->(∀c∈cs,Sm 9000 c)->φ [.lst (ws.map .int),.lst (cs.map .int)] μ=some (.int (dot ws cs),μ)
theorem Oq:Gx (trunc (aG 2 cM)):=λws cs μ hw hc=>by
 apply bC
 have e:=yH (th:=thG (jh 2 (bG (hName 0) (bG (hName 1) jf))) (M2 (ak 0) (ak 1) eG) (cu ["one","other"] [some (.lst (ws.map .int)),some (.lst (cs.map .int))] [])) (F:=λp:Int×Int=>.tup [D.int p.1,.int p.2]) (g:=λp=>p.1*p.2) (μ:=μ) (ws.zip cs) 0 λp hp=>by
  obtain⟨p1,p2⟩:=p
  have hm:=List.of_mem_zip hp
  have:=cg (x:=p1) (y:=p2) μ (hw _ hm.1) (hc _ hm.2) (by decide)
  simp[thG,cu,this]
 have ez:=mD (F:=D.int) (G:=D.int) ws cs
 unfold dot
 simp[cM,ez]
 rw[List.map_map]at e
 rw[e]
 simp
def bu(r:List Int):Int:=r.getLastD 0
def wts(M:Int)(rs:List (List Int))(ss:List Int):List Int:=(ss.zip rs).map λp=>p.1*M.fdiv (bu p.2)
def col(rs:List (List Int))(i:Nat):List Int:=rs.map λr=>r.getD i 0
def fJ(rs:List (List Int)):Int:=uF 1 (rs.map bu)
def jl(v:List Int):List Int:=v.map λn=>n.fdiv (aW 0 v:Nat)
structure lH(d1:Nat)(r:List Int):Prop where
 len:r.length=d1
 sm:∀n∈r,n.natAbs<=10000
 b1:1<=bu r
 b2:bu r<64
theorem PtL.row{d:Nat}{ns:List Int}{b:Int}(h:PtL d ns b):lH (d+1) (ns++[b]):=⟨by simp[h.1],λn hn=>by
 rcases Zm.mp hn with z|z
 .exact h.2.1 n z
 .rw[List.mem_singleton.mp z];have:=h.2.2;omega,by unfold bu;simp;exact h.2.2.1,by unfold bu;simp;have:=h.2.2.2;omega⟩
theorem pH{d1:Nat}{r:List Int}(h:lH d1 r)(hd:1<=d1):atI (r.map D.int) (-1)=some (.int (bu r)):=vG (λz=>by have:=h.len;rw[z]at this;simp at this;omega)
theorem mV{d1:Nat}{rs:List (List Int)}(h:∀r∈rs,lH d1 r):1<=fJ rs/\(∀r∈rs,bu r ∣ fJ rs)/\Sm (1+6*rs.length) (fJ rs):=by
 obtain⟨h1,_,h3,h4⟩:=HX (rs.map bu) 1 (by decide) λb hb=>by
  obtain⟨r,hr,rfl⟩:=Zq.mp hb
  exact⟨(h r hr).b1,(h r hr).b2⟩
 refine⟨h1,λr hr=>h3 _ (Zq.mpr ⟨r,hr,rfl⟩),?_⟩
 have:=h4 1 (by unfold Sm;decide)
 rw[Zu]at this
 exact this
theorem Lp{d1:Nat}{rs:List (List Int)}{i:Nat}(h:∀r∈rs,lH d1 r)(hi:i<d1):∀c∈col rs i,c.natAbs<=10000:=λc hc=>by
 obtain⟨r,hr,rfl⟩:=Zq.mp hc
 have hl:=(h r hr).len
 have hk:i<r.length:=by omega
 have:r.getD i 0=r[i]:=by simp[List.getD,hk]
 rw[this]
 exact(h r hr).sm _ (List.getElem_mem hk)
def vJ(φ:FF):Prop:=∀(d1:Nat)(rs:List (List Int))(ws:List Int)(μ:Mu),1<=d1->d1<=100->rs≠[]->(∀r∈rs,lH d1 r)->rs.length<=60->(∀w∈ws,Sm 9000 w)->φ [.lst (rs.map au),.lst (ws.map .int)] μ=some (.lst (((List.range d1).map λi=>dot ws (col rs i)).map .int),μ)
theorem xW{φ:FF}(hφ:Gx φ){d1:Nat}{rs:List (List Int)}{ws:List Int}{μ:Mu}(hr:∀r∈rs,lH d1 r)(hz1:rs.length<=1000)(hw:∀w∈ws,Sm 9000 w)(i:Nat)(hi:i<d1):
  MC (ao (ak 1) (ao (mFz (lLC ["row"] [0] (gh (ak 2)) (hName 0) (bU) (M2 (ak 0) (ak 1) oIx))) (aC))) φ [some (.int (0+(i:Int))),some (.lst (ws.map .int)),some (.lst (rs.map au))] μ=some (.int (dot ws (col rs i)),μ):=by
 have e1:=dC (all:=rs.map au) (h:=hName 0) (fe:=M2 (ak 0) (ak 1) oIx) (δb:=[none,some (.int (0+(i:Int)))]) (F:=au) (f:=λr=>.int (r.getD i 0)) (μ:=μ) rs λr h=>⟨_,rfl,by
  have hk:((0:Int)+i)<r.length:=by have:=(hr r h).len;omega
  obtain⟨a1,_⟩:=rR (ys:=r) (k:=0+(i:Int)) (by omega) hk
  have:(0+(i:Int)).toNat=i:=by omega
  rw[this]at a1
  generalize r.getD i 0=z at *
  generalize (0+(i:Int))=j at *
  simp[a1]⟩
 have e1':rs.map (λr=>D.int (r.getD i 0))=(col rs i).map D.int:=by unfold col;simp
 rw[e1']at e1
 have e2:=hφ ws (col rs i) μ hw λc hc=>bZ (nH (b:=14) 10001 (by have:=Lp hr hi c hc;omega) (by decide)) (by decide)
 generalize (col rs i).map D.int=cD at *
 generalize dot ws (col rs i)=z at *
 generalize (0+(i:Int))=j at *
 simp[hz1,cu,e1,e2]
theorem Ob{F:EF}{δ:En}{μ:Mu}{k:Int}(h0:0<=k)(h1:k<=100000)(a:F δ μ=some (.int k,μ)):dj (ao F aC) δ μ=some (⟨cU 0 k.toNat,none⟩,μ):=by
 have rr:=zu (j:=k) (μ:=μ) (by omega) (by omega)
 rw[Od,Gk,a]
 simp only[Option.bind_some,Mp]
 exact rr
theorem PQ{F:EF}{δ:En}{μ:Mu}{r:List Int}{d1:Nat}(hl:r.length=d1)(a:F δ μ=some (au r,μ)):MC (ao F aC) (bz dN) δ μ=some (.int d1,μ):=by
 rw[w_mc,Gk,a]
 simp only[Option.bind_some,Mp,Ru,Jh,hl]
theorem Bv{φ:FF}(hφ:Gx φ):vJ (trunc (aG 2 (jm φ))):=λd1 rs ws μ hd hd2 hne hr hl hw=>by
 apply bC
 have hz1:rs.length<=1000:=by omega
 have e3:=dC (all:=cU 0 d1) (h:=hName 0) (fe:=MC (ao (ak 1) (ao (mFz (lLC ["row"] [0] (gh (ak 2)) (hName 0) (bU) (M2 (ak 0) (ak 1) oIx))) (aC))) φ) (δb:=cu ["at"] [some (.lst (rs.map au)),some (.lst (ws.map .int))] [1,0]) (F:=λi:Nat=>D.int (0+(i:Int))) (f:=λi=>.int (dot ws (col rs i))) (μ:=μ) (List.range d1) λi hi=>
  ⟨[some (.int (0+(i:Int))),some (.lst (ws.map .int)),some (.lst (rs.map au))],by simp[cu],xW hφ hr hz1 hw i (List.mem_range.mp hi)⟩
 have e3':(List.range d1).map (λi=>D.int (dot ws (col rs i)))=((List.range d1).map λi=>dot ws (col rs i)).map D.int:=by simp
 rw[e3']at e3
 have er:(List.range d1).map (λi:Nat=>D.int (0+(i:Int)))=cU 0 d1:=rfl
 rw[er]at e3
 have h0:∃r0,atI (rs.map au) 0=some (au r0)/\r0∈rs:=by
  obtain⟨a,b⟩:=Jb (F:=au) (l:=rs) (k:=0) (z:=[]) (by decide) (by have:=List.length_pos_iff.mpr hne;omega)
  exact⟨_,a,b⟩
 obtain⟨r0,a0,hr0⟩:=h0
 have hlen0:=(hr r0 hr0).len
 generalize ((List.range d1).map λi=>dot ws (col rs i)).map D.int=wD at *
 have it:dj (ao (MC (ao (M2 (ak 0) (mC (.int 0)) oIx) (aC)) (bz dN)) (aC)) [some (.lst (rs.map au)),some (.lst (ws.map .int))] μ=some (⟨cU 0 d1,none⟩,μ):=by
  have:=Ob (k:=(d1:Int)) (by omega) (by omega) (PQ (F:=M2 (ak 0) (mC (.int 0)) oIx) (δ:=[some (.lst (rs.map au)),some (.lst (ws.map .int))]) (μ:=μ) hlen0 (by simp[a0]))
  rwa[show((d1:Int)).toNat=d1 by omega]at this
 have hz2:(cU 0 d1).length<=sizeLine:=by rw[pM];exact Zl (by omega:_<=1000) (by decide)
 unfold jm
 generalize dj (ao (MC (ao (M2 (ak 0) (mC (.int 0)) oIx) (aC)) (bz dN)) (aC))=IT at it ⊢
 simp[it,hz2,e3]
theorem Ip{w c:Int}{ws cs:List Int}:dot (w::ws) (c::cs)=w*c+dot ws cs:=by unfold dot;simp
@[simp] theorem Rh{μ:Mu}{ds:List D}:cj (.cell μ.length) (μ++[some ds])=some ds:=by unfold cj;simp
theorem zP{d j:Nat}(h:j<d):(cU 0 d).drop j=D.int (0+(j:Int))::(cU 0 d).drop (j+1):=by
 unfold cU
 rw[<-List.map_drop,<-List.map_drop,List.drop_eq_getElem_cons (by simpa using h)]
 simp
theorem Ks{d j:Nat}(h:d<=j):(cU 0 d).drop j=[]:=List.drop_of_length_le (by rw[pM];exact h)
theorem vK:∀(a b:List Int),iW (a.map D.int) (b.map D.int)=(a==b)
 | [],[]=>by simp[iW]
 | [],b::bs=>by simp[iW]
 |a::as,[]=>by simp[iW]
 |a::as,b::bs=>by simp[iW,eqD,vK as bs]
theorem Lk(a b:List Int)(μ:Mu):oEq (au a) (au b) μ=some (.bl (a==b),μ):=by
 unfold oEq
 have e1:∀c:List Int,rsv (au c) μ=au c:=λc=>rfl
 have e2:∀c:List Int,cI (au c)=true:=λc=>by unfold au;rw[cI];exact mU c
 have e3:gq (au a)<100:=by unfold au;rw[gq,oZ];decide
 have e4:eqD (au a) (au b)=(a==b):=by unfold au;rw[eqD,vK]
 rw[e1,e1,e2,e2,e4,if_pos ⟨rfl,e3⟩]
structure Geo(d:Nat)(ps:List (List Int)):Prop where
 d1:1<=d
 d2:d<=3
 rows:∀p∈ps,lH (d+1) p
 len:ps.length<=60
 ne:ps≠[]
def HF(ps:List (List Int)):D:=.lst (ps.map au)
theorem Hx{v:List Int}:(jl v).length=v.length:=by unfold jl;simp
def Dh(φ:FF):Prop:=∀(d1:Nat)(rs:List (List Int))(ss:List Int)(μ:Mu),1<=d1->(∀r∈rs,lH d1 r)->rs.length<=60->ss.length<=60->(∀s∈ss,Sm 3000 s)->φ [.lst (rs.map au),.tup (ss.map .int)] μ=some (.lst ((wts (fJ rs) rs ss).map .int),μ)
theorem Hi{φ:FF}(hφ:GJ φ):Dh (trunc (aG 3 (dY φ))):=λd1 rs ss μ hd hr hl hl2 hs=>by
 apply bC
 have e1:=dC (all:=rs.map au) (h:=hName 0) (fe:=M2 (ak 0) (M1 (mC (.int 1)) ie) oIx) (δb:=cu ["point"] [some (.lst (rs.map au)),some (.tup (ss.map .int)),none] []) (F:=au) (f:=λr=>.int (bu r)) (μ:=μ) rs λr h=>⟨_,rfl,by simp[cu,pH (hr r h) hd]⟩
 have e1':rs.map (λr=>D.int (bu r))=(rs.map bu).map D.int:=by simp
 rw[e1']at e1
 have e2:=hφ (rs.map bu) μ (λb hb=>by
  obtain⟨r,h,rfl⟩:=Zq.mp hb
  exact⟨(hr r h).b1,(hr r h).b2⟩) (by simp;omega)
 obtain⟨hM1,hM2,hM3⟩:=mV hr
 have e3:=dC (all:=(ss.zip rs).map λp=>D.tup [.int p.1,au p.2]) (h:=jh 2 (bG (hName 0) (bG (hName 1) jf))) (fe:=M2 (ak 0) (M2 (ak 2) (M2 (ak 1) (M1 (mC (.int 1)) ie) oIx) oDiv) eG) (δb:=cu ["number","point"] [some (.lst (rs.map au)),some (.tup (ss.map .int)),some (.int (fJ rs))] [2]) (F:=λp:Int×List Int=>D.tup [.int p.1,au p.2]) (f:=λp=>.int (p.1*(fJ rs).fdiv (bu p.2))) (μ:=μ) (ss.zip rs) λp hp=>by
  obtain⟨s,r⟩:=p
  have hm:=List.of_mem_zip hp
  have hrr:=hr r hm.2
  have ed:=jF (x:=fJ rs) (y:=bu r) (b:=6) μ (by have:=hrr.b1;omega) (nH 64 (by have:=hrr.b1;have:=hrr.b2;omega) (by decide)) (by decide)
  have em:=cg (x:=s) (y:=(fJ rs).fdiv (bu r)) (a:=3000) (b:=1+6*rs.length) μ (hs s hm.1) (pF hM3 (by have:=hrr.b1;omega)) (by omega)
  refine⟨[some (.int s),some (au r),some (.int (fJ rs))],by simp[cu],?_⟩
  simp[pH hrr hd,ed,em]
 have ez:=mD (F:=D.int) (G:=au) ss rs
 have e3':(ss.zip rs).map (λp=>D.int (p.1*(fJ rs).fdiv (bu p.2)))=(wts (fJ rs) rs ss).map D.int:=by unfold wts;simp
 rw[e3']at e3
 have hz1:rs.length<=1000:=by omega
 have hz2:(ss.zip rs).length<=1000:=by simp;omega
 have e2':φ [.lst ((rs.map bu).map D.int)] μ=some (.int (fJ rs),μ):=e2
 generalize (rs.map bu).map D.int=bD at *
 generalize (wts (fJ rs) rs ss).map D.int=wD at *
 unfold dY
 simp only[List.length_zip]at hz2
 simp[hz1,hz2,e1,e2',ez,e3]
theorem any_ints(μ:Mu):∀ns:List Int,zH ((ns.map D.int).map thE) μ=some (ns.any (λn=>n != 0),μ)
 | []=>rfl
 |n::ns=>by
  have ih:=any_ints μ ns
  rw[Zj,Zj]
  unfold zH
  show((wZ (D.int n)).bind λk=>if k=true then some (true,μ)else zH ((ns.map D.int).map thE) μ)=_
  cases h:(n != 0)with
  |true=>simp[wZ,h]
  |false=>
   rw[List.map_map]at ih
   simp[wZ,h,ih]
def zW(d1:Nat)(ps:List (List Int))(ns:List Int):List Int:=(List.range d1).map λi=>dot (wts (fJ ps) ps ns) (col ps i)
def lU(d1:Nat)(ps:List (List Int))(ns:List Int):Bool:=ns.length==ps.length&&(ns.any (λn=>n != 0)&& !(zW d1 ps ns).any (λn=>n != 0))
def Ij(d1:Nat)(ps:List (List Int)):D->Bool
 | .tup ds=>ds.all isInt&&lU d1 ps (ds.map intOf)
 |_=>false
theorem yL{d1:Nat}{ps:List (List Int)}{ds:List D}:Ij d1 ps (.tup ds)=(ds.all isInt&&lU d1 ps (ds.map intOf)):=rfl
theorem vq{d1:Nat}{ps:List (List Int)}{ns:List Int}:Ij d1 ps (.tup (ns.map .int))=lU d1 ps ns:=by
 rw[yL,ints_map,Gs]
 rfl
def smT:D->Prop
 | .tup ds=>∀i,D.int i∈ds->Sm 2000 i
 |_=>True
def MN(φ:FF):Prop:=∀(d:Nat)(ps:List (List Int))(t:D)(μ:Mu),Geo d ps->nc t->smT t->φ [HF ps,t] μ=some (.bl (Ij (d+1) ps t),μ)
theorem Nm{φ1 φ2 φ3:FF}(h1:Ir φ1)(h2:Dh φ2)(h3:vJ φ3):MN (trunc (aG 2 (dF φ1 φ2 φ3))):=λd ps t μ G hn hs=>by
 apply bC
 have e1:=h1 t μ hn
 have hd2:=G.d2
 cases hb:uV t with
 |false=>
  rw[hb]at e1
  have eV:Ij (d+1) ps t=false:=by
   cases t with
   |tup ds=>
    have hb:ds.all isInt=false:=hb
    rw[yL,hb];rfl
   |_=>rfl
  rw[eV]
  simp[dF,e1]
 |true=>
  rw[hb]at e1
  cases t with
  |tup ds=>
   have hd:=ints_of hb
   generalize ds.map intOf=ns at hd
   subst hd
   rw[vq]
   have elen:dN (HF ps) μ=some (.int ps.length,μ):=by simp[HF]
   have hsn:∀n∈ns,Sm 2000 n:=λn hn'=>hs n (Zq.mpr ⟨n,hn',rfl⟩)
   by_cases hl:ns.length=ps.length
   .have hlb:((ns.length:Int)==(ps.length:Int))=true:=by simp[hl]
    have ea:=any_ints μ ns
    have hl60:=G.len
    obtain⟨M1',M2',M3'⟩:=mV G.rows
    have e2:=h2 (d+1) ps ns μ (by omega) G.rows (by omega) (by omega) (λs h=>bZ (hsn s h) (by decide))
    have hw:∀w∈wts (fJ ps) ps ns,Sm 9000 w:=λw hw=>by
     obtain⟨⟨s,r⟩,hx,rfl⟩:=Zq.mp hw
     have hm:=List.of_mem_zip hx
     exact bZ (fL (hsn s hm.1) (pF M3' (show 0<bu r by have:=(G.rows r hm.2).b1;omega))) (by omega)
    have e3:=h3 (d+1) ps (wts (fJ ps) ps ns) μ (by omega) (by omega) G.ne G.rows hl60 hw
    have e3':φ3 [.lst (ps.map au),.lst ((wts (fJ ps) ps ns).map .int)] μ=some (.lst ((zW (d+1) ps ns).map .int),μ):=e3
    have eb:=any_ints μ (zW (d+1) ps ns)
    have eV:lU (d+1) ps ns=(ns.any (λn=>n != 0)&& !(zW (d+1) ps ns).any (λn=>n != 0)):=by unfold lU;simp[hl]
    rw[eV]
    generalize hVV:(zW (d+1) ps ns).any (λn=>n != 0)=VV at *
    generalize (zW (d+1) ps ns).map D.int=vD at *
    generalize (wts (fJ ps) ps ns).map D.int=wD at *
    generalize hAA:ns.any (λn=>n != 0)=AA at *
    have hnl:(ns.map D.int).length=ns.length:=by simp
    generalize ns.map D.int=nD at *
    cases AA with
    |false=>simp[dF,e1,hnl,elen,hlb,ea]
    |true=>simp[dF,e1,hnl,elen,hlb,ea,HF,e2,e3',eb]
   .have hlb:((ns.length:Int)==(ps.length:Int))=false:=by
     have:(ns.length:Int)≠ps.length:=by omega
     simpa using this
    have eV:lU (d+1) ps ns=false:=by
     have:(ns.length==ps.length)=false:=by simpa using hl
     unfold lU;rw[this];rfl
    rw[eV]
    simp[dF,e1,elen,hlb]
  |_=>cases hb
theorem xP{M:Int}{i:Nat}:∀(ps:List (List Int))(ns:List Int),((ns.zip ps).map λp=>p.1*p.2.getD i 0*M.fdiv (bu p.2)).sum=dot (wts M ps ns) (col ps i)
 | [],ns=>by simp[dot,wts,col]
 |p::ps,[]=>by simp[dot,wts,col]
 |p::ps,n::ns=>by
  have ih:=xP (M:=M) (i:=i) ps ns
  have e2:wts M (p::ps) (n::ns)=n*M.fdiv (bu p)::wts M ps ns:=by simp[wts]
  have e3:col (p::ps) i=p.getD i 0::col ps i:=by simp[col]
  rw[e2,e3,Ip,List.zip_cons_cons,Zj,List.sum_cons,ih]
  congr 1
  simp only
  rw[Int.mul_assoc,Int.mul_assoc,Int.mul_comm (M.fdiv _)]
theorem szl{n:Nat}(h:n<=1000):n<=sizeLine:=Zl h (by decide)
def qW(n:Nat)(φ:FF):Prop:=∀(rs:List (List Int))(μ:Mu),rs.length=n->(∀r∈rs,r.length=n/\∀x∈r,Sm 14 x)->∃v,φ [.lst (rs.map au)] μ=some (.int v,μ)/\Sm (20*n+2) v
theorem mX:∀qs:List (List Int),eU (qs.map au)=true/\iR (qs.map au)<=1
 | []=>⟨by simp[eU],by simp[iR]⟩
 |q::qs=>by
  obtain⟨a,b⟩:=mX qs
  refine⟨?_,?_⟩
  .rw[Zj,eU,a];unfold au;rw[cI,mU];rfl
  .rw[Zj,iR];unfold au at *;rw[gq,oZ];omega
theorem det0(φ:FF):qW 0 (trunc (aG 5 (gB φ))):=λrs μ hl _=>by
 have:rs=[]:=List.eq_nil_of_length_eq_zero hl
 subst this
 refine⟨1,bC ?_,by unfold Sm;decide⟩
 have e:=qm (ps:=[]) (μ:=μ) (by rw[eU]) (by rw[iR];decide)
 simp[gB,e]
theorem iz{r:List Int}{k:Nat}(h:k<r.length):dh k ((r.drop k).map D.int)= .tup [.int (k:Int),.int (r.getD k 0)]::dh (k+1) ((r.drop (k+1)).map D.int):=by
 rw[List.drop_eq_getElem_cons h,Zj]
 have:r.getD k 0=r[k]:=by simp[List.getD,h]
 rw[this]
 rfl
theorem BX{r:List Int}{k:Int}{μ:Mu}(h0:0<=k)(h1:k<r.length):oSl (au r) none (some k) μ=some (au (r.take k.toNat),μ)/\oSl (au r) (some (k+1)) none μ=some (au (r.drop (k.toNat+1)),μ):=by
 have e1:=Nb (ds:=r.map D.int) (i:=k) (μ:=μ) h0 (by simpa using h1)
 have e2:=Dm (ds:=r.map D.int) (i:=k+1) (μ:=μ) (by omega) (by simp;omega)
 rw[show(k+1).toNat=k.toNat+1 by omega]at e2
 rw[<-List.map_take]at e1
 rw[<-List.map_drop]at e2
 exact⟨e1,e2⟩
theorem Hc{n:Nat}{φ:FF}(hn:n<=4)(hφ:qW n φ):qW (n+1) (trunc (aG 5 (gB φ))):=λrs μ hl hr=>by
 suffices h:Ok (aG 5 (gB φ) [.lst (rs.map au)] μ) (λq=>∃v,q=(.int v,μ)/\Sm (20*(n+1)+2) v) by
  obtain⟨q,e,v,h1,h2⟩:=h
  have h1:q=(.int v,μ):=h1
  rw[h1]at e
  exact⟨v,dJ e,h2⟩
 apply mJ
 cases rs with
 |nil=>simp at hl
 |cons r0 rest=>
  have hrl:rest.length=n:=by simpa using hl
  obtain⟨h0l,h0s⟩:=hr r0 (by simp)
  obtain⟨pu,pd⟩:=mX (r0::rest)
  have e0:=qm (μ:=μ) pu (by omega)
  have e0':oEq (.lst ((r0::rest).map au)) (.lst []) μ=some (.bl false,μ):=e0
  have a0:atI ((r0::rest).map au) 0=some (au r0):=by unfold atI ixN;simp
  have s1:=tG (ds:=(r0::rest).map au) (i:=1) (μ:=μ) (by decide)
  have s1':oSl (.lst ((r0::rest).map au)) (some 1) none μ=some (.lst (rest.map au),μ):=s1
  have efz:bO (au r0)=some (r0.map .int):=rfl
  generalize (r0::rest).map au=RS at *
  unfold gB
  simp[e0',a0,efz]
  refine fD (λits δ μ'=>∃(k:Nat)(f:Int)(o2 o3 o4:Option D),its=dh k ((r0.drop k).map D.int)/\μ'=μ/\k<=r0.length/\f.natAbs<=k*2 ^ (20*n+17)/\δ=[some (.lst RS),some (.int f),o2,o3,o4]) ?_ ?_ _ _ _ ⟨0,0,none,none,none,rfl,rfl,by omega,by simp,rfl⟩
  .rintro it its δ μ' ⟨k,f,o2,o3,o4,hi,rfl,hkl,hf,rfl⟩
   have hk:k<r0.length:=by
    by_cases h:k<r0.length
    .exact h
    .rw[List.drop_of_length_le (by omega)]at hi;cases hi
   rw[iz hk]at hi
   cases hi
   have hx:Sm 14 (r0.getD k 0):=by
    have:r0.getD k 0=r0[k]:=by simp[List.getD,hk]
    rw[this];exact h0s _ (List.getElem_mem hk)
   obtain⟨j0,j1⟩:=bM (x:=(k:Int)) (m:=2) (by decide)
   obtain⟨sg,hsg,esg⟩:=pD (ds:=[D.int 1,.int (-1)]) j0 j1
   have hsg:∃z:Int,sg= .int z/\z.natAbs<=1:=by
    simp only[Zi,List.not_mem_nil,or_false]at hsg
    rcases hsg with rfl|rfl<;>exact⟨_,rfl,by decide⟩
   obtain⟨sg,rfl,sg1⟩:=hsg
   have el:=dC (all:=rest.map au) (h:=hName 0) (fe:=M2 (mSl (ak 0) (fNo) (fAt (ak 1))) (mSl (ak 0) (fAt (M2 (ak 1) (mC (.int 1)) bW)) (fNo)) bW) (δb:=[none,some (.int (k:Int))]) (F:=au) (f:=λr=>au (r.take k++r.drop (k+1))) (μ:=μ') rest λr hrm=>by
    have hrl':=(hr r (by simp[hrm])).1
    obtain⟨c1,c2⟩:=BX (r:=r) (k:=(k:Int)) (μ:=μ') (by omega) (by omega)
    rw[show((k:Int)).toNat=k by omega]at c1 c2
    refine⟨_,rfl,?_⟩
    have ea:bW (au (r.take k)) (au (r.drop (k+1))) μ'=some (au (r.take k++r.drop (k+1)),μ'):=by
     show(if((r.take k).map D.int).length+((r.drop (k+1)).map D.int).length<=sizeLine then some (D.tup ((r.take k).map D.int++(r.drop (k+1)).map D.int),μ')else none)=_
     rw[if_pos (Zl (by simp;omega:_<=1000) (by decide)),<-List.map_append]
     rfl
    generalize au (r.take k)=A at *
    generalize au (r.drop (k+1))=B at *
    generalize (k:Int)=kk at *
    simp[c1,c2,ea]
   have el':rest.map (λr=>au (r.take k++r.drop (k+1)))=(rest.map λr=>r.take k++r.drop (k+1)).map au:=by simp
   rw[el']at el
   obtain⟨v,ev,hv⟩:=hφ (rest.map λr=>r.take k++r.drop (k+1)) μ' (by simp[hrl]) λr hr'=>by
    obtain⟨q,hq,rfl⟩:=Zq.mp hr'
    obtain⟨ql,qs⟩:=hr q (by simp[hq])
    refine⟨by simp;omega,λx hx'=>?_⟩
    rcases Zm.mp hx' with z|z
    .exact qs x (List.mem_of_mem_take z)
    .exact qs x (List.mem_of_mem_drop z)
   generalize (rest.map λr=>r.take k++r.drop (k+1)).map au=QS at *
   have hrz:(rest.map au).length<=1000:=by simp;omega
   generalize rest.map au=RT at *
   generalize r0.getD k 0=x at *
   have m1:=cg (x:=sg) (y:=x) μ' (show Sm 1 sg by unfold Sm;omega) hx (by decide)
   have m2:=cg (x:=sg*x) (y:=v) μ' (fL (show Sm 1 sg by unfold Sm;omega) hx) hv (by omega)
   have hb:(sg*x*v).natAbs<=2 ^ (20*n+17):=by
    have:=fL (fL (show Sm 1 sg by unfold Sm;omega) hx) hv
    unfold Sm at this
    rw[show 1+14+(20*n+2)=20*n+17 by omega]at this
    omega
   have hfin:(f+sg*x*v).natAbs<=(k+1)*2 ^ (20*n+17):=by
    rw[Nat.succ_mul]
    have:=Int.natAbs_add_le f (sg*x*v)
    omega
   generalize hkk:(k:Int)=kk at *
   simp[s1',hrz,cu,el,esg,m1,ev,m2]
   exact⟨k+1,rfl,by omega,by simpa using hfin⟩
  .rintro δ μ' ⟨k,f,o2,o3,o4,hi,rfl,hkl,hf,rfl⟩
   have hk:¬k<r0.length:=λh=>by rw[iz h]at hi;cases hi
   simp
   have hb:f.natAbs<2 ^ (20*(n+1)+2):=by
    have h1:k*2 ^ (20*n+17)<=5*2 ^ (20*n+17):=Nat.mul_le_mul_right _ (by omega)
    have h2:5*2 ^ (20*n+17)<2 ^ 5*2 ^ (20*n+17):=Nat.mul_lt_mul_of_pos_right (by decide) (Nat.two_pow_pos _)
    rw[<-Nat.pow_add,show 5+(20*n+17)=20*(n+1)+2 by omega]at h2
    omega
   exact hb
theorem xr:∀(k n:Nat),n<k->n<=5->qW n (Em k λφ=>trunc (aG 5 (gB φ)))
 |0,n,h,_=>by omega
 |k+1,0,_,_=>det0 _
 |k+1,n+1,h,h5=>Hc (by omega) (xr k n (by omega) (by omega))
def JH:D->D
 | .tup [_,x]=>x
 |_=>.non
def Ea:D->Int
 | .tup [.int j,_]=>j
 |_=>0
theorem lz{ps:List (List Int)}{k:Nat}(h:k<ps.length):dh k ((ps.drop k).map au)= .tup [.int (k:Int),au (ps.getD k [])]::dh (k+1) ((ps.drop (k+1)).map au):=by
 rw[List.drop_eq_getElem_cons h,Zj]
 have:ps.getD k []=ps[k]:=by simp[List.getD,h]
 rw[this]
 rfl
def G0(r:List Int)(c:Nat):Int:=r.getD c 0
abbrev Kp:=Nat×List Int
def KR(ks:List Kp)(i:Nat):List Int:=(ks.getD i (0,[])).2
def KC(ks:List Kp)(i:Nat):Nat:=(ks.getD i (0,[])).1
def di(n:Nat)(f:Nat->Int):Int:=((List.range n).map f).sum
theorem bL{n:Nat}{f:Nat->Int}:di (n+1) f=di n f+f n:=by unfold di;rw[List.range_succ];simp
theorem cN{f:Nat->Int}:di 0 f=0:=rfl
theorem dI{n:Nat}{f g:Nat->Int}(h:∀i<n,f i=g i):di n f=di n g:=by
 unfold di
 congr 1
 exact List.map_congr_left λi hi=>h i (List.mem_range.mp hi)
theorem pJ(p q:Int)(f g:Nat->Int):∀n:Nat,di n (λi=>p*f i-q*g i)=p*di n f-q*di n g
 |0=>by simp[cN]
 |n+1=>by rw[bL,bL,bL,pJ p q f g n];grind
theorem lO(p:Int)(f:Nat->Int)(n:Nat):di n (λi=>p*f i)=p*di n f:=by
 have:=pJ p 0 f f n
 simpa using this
structure rH(L:List (List Int))(w n:Nat)(ks:List Kp)(a j:Nat)(r:List Int):Prop where
 len:r.length=w+n
 rel:∀c<w,G0 r c=di n λk=>G0 r (w+k)*G0 (L.getD k []) c
 own:G0 r (w+a)≠0
 up:∀k,a<k->k<n->G0 r (w+k)=0
 zer:∀i<j,G0 r (KC ks i)=0
 spn:∃(γ α:Int)(β:Nat->Int),γ≠0/\α≠0/\∀c<w,γ*G0 r c=α*G0 (L.getD a []) c+di j λi=>β i*G0 (KR ks i) c
def Kept(L:List (List Int))(w n:Nat)(ks:List Kp):Prop:=∀i<ks.length,rH L w n ks i i (KR ks i)/\KC ks i<w/\G0 (KR ks i) (KC ks i)≠0
def iQ(r R:List Int)(c:Nat):List Int:=(r.zip R).map λp=>p.1*G0 R c-p.2*G0 r c
theorem KZ{r R:List Int}{c k m:Nat}(h1:r.length=m)(h2:R.length=m)(hk:k<m):G0 (iQ r R c) k=G0 r k*G0 R c-G0 R k*G0 r c:=by
 unfold iQ G0
 simp[List.getD,h1,h2,hk]
theorem GZ{v:List Int}{x:Int}(hx:x∈v)(h0:x≠0):∃g:Int,0<g/\g=(aW 0 v:Nat)/\∀k,G0 v k=g*G0 (jl v) k:=by
 have hp:aW 0 v≠0:=gk (.inr ⟨x,hx,h0⟩)
 refine⟨(aW 0 v:Nat),by omega,rfl,λk=>?_⟩
 unfold G0 jl
 by_cases hk:k<v.length
 .obtain⟨q,e⟩:=(gw v 0).1 v[k] (List.getElem_mem hk)
  simp only[List.getD,List.getElem?_map,List.getElem?_eq_getElem hk,Option.map_some,Option.getD_some]
  rw[Int.mul_fdiv_cancel' ((gw v 0).1 _ (List.getElem_mem hk))]
 .simp[List.getD,List.getElem?_eq_none (Nat.le_of_not_lt hk)]
theorem Ba{L:List (List Int)}{w n:Nat}{ks:List Kp}{j:Nat}{r:List Int}(hK:Kept L w n ks)(hn:ks.length<n)(hj:j<ks.length)(h:rH L w n ks ks.length j r):rH L w n ks ks.length (j+1) (jl (iQ r (KR ks j) (KC ks j)))/\∃x∈iQ r (KR ks j) (KC ks j),x≠0:=by
 obtain⟨hR,hc,hp⟩:=hK j hj
 have hat:∀k<w+n,G0 (iQ r (KR ks j) (KC ks j)) k=G0 r k*G0 (KR ks j) (KC ks j)-G0 (KR ks j) k*G0 r (KC ks j):=λk hk=>KZ h.len hR.len hk
 have hvl:(iQ r (KR ks j) (KC ks j)).length=w+n:=by unfold iQ;simp[h.len,hR.len]
 generalize iQ r (KR ks j) (KC ks j)=v at *
 generalize hR':KR ks j=R at *
 generalize hC':KC ks j=c at *
 generalize hpp:G0 R c=p at *
 generalize hqq:G0 r c=q at *
 have hown:G0 v (w+ks.length)≠0:=by
  rw[hat _ (by omega),hR.up ks.length (by omega) hn,Int.zero_mul,Int.sub_zero]
  exact Int.mul_ne_zero h.own hp
 have hx:∃x∈v,x≠0:=⟨G0 v (w+ks.length),by unfold G0;simp only[List.getD,List.getElem?_eq_getElem (show w+ks.length<v.length by omega),Option.getD_some];exact List.getElem_mem _,hown⟩
 refine⟨?_,hx⟩
 obtain⟨x,hx1,hx2⟩:=hx
 obtain⟨g,g0,_,hg⟩:=GZ hx1 hx2
 have hll:(jl v).length=w+n:=by unfold jl;simpa using hvl
 generalize jl v=r' at *
 have hr':∀k<w+n,g*G0 r' k=p*G0 r k-q*G0 R k:=λk hk=>by rw[<-hg,hat k hk];grind
 have cancel:∀x:Int,g*x=0->x=0:=λx e=>by
  rcases Int.mul_eq_zero.mp e with z|z
  .omega
  .exact z
 refine⟨hll,λd hd=>?_,λz=>hown ?_,λk k1 k2=>?_,λi hi=>?_,?_⟩
 .have e1:=h.rel d hd
  have e2:=hR.rel d hd
  have e3:=hr' d (by omega)
  have e4:di n (λk=>g*(G0 r' (w+k)*G0 (L.getD k []) d))=di n λk=>p*(G0 r (w+k)*G0 (L.getD k []) d)-q*(G0 R (w+k)*G0 (L.getD k []) d):=dI λk hk=>by
   have:=hr' (w+k) (by omega)
   grind
  rw[pJ,lO,<-e1,<-e2,<-e3]at e4
  have:=cancel (di n (λk=>G0 r' (w+k)*G0 (L.getD k []) d)-G0 r' d) (by grind)
  omega
 .have z:G0 r' (w+ks.length)=0:=z
  rw[hg,z,Int.mul_zero]
 .apply cancel
  rw[hr' _ (by omega),h.up k k1 k2,hR.up k (by omega) k2];simp
 .apply cancel
  have hci:KC ks i<w:=(hK i (by omega)).2.1
  rw[hr' _ (by omega)]
  rcases Nat.lt_or_ge i j with w1|w1
  .rw[h.zer i w1,hR.zer i w1];simp
  .have:i=j:=by omega
   subst this
   rw[hC',hqq,hpp];grind
 .obtain⟨γ,α,β,h1,h2,h3⟩:=h.spn
  refine⟨γ*g,p*α,λi=>if i=j then - (q*γ)else p*β i,Int.mul_ne_zero h1 (by omega),Int.mul_ne_zero hp h2,λd hd=>?_⟩
  rw[bL]
  simp only[if_true]
  have e:di j (λi=>(if i=j then - (q*γ)else p*β i)*G0 (KR ks i) d)=p*di j λi=>β i*G0 (KR ks i) d:=by
   rw[<-lO]
   exact dI λi hi=>by rw[if_neg (by omega)];grind
  rw[e,hR']
  have e3:=hr' d (by omega)
  have e4:=h3 d hd
  grind
def iZ(w n:Nat)(L:List (List Int))(a:Nat):List Int:=L.getD a []++(List.range n).map λk=>if k=a then 1 else 0
theorem Ar{L:List (List Int)}{w n:Nat}{ks:List Kp}{a:Nat}(hL:∀l∈L,l.length=w)(hn:L.length=n)(ha:a<n):rH L w n ks a 0 (iZ w n L a):=by
 have hlen:(L.getD a []).length=w:=by
  simp only[List.getD,List.getElem?_eq_getElem (show a<L.length by omega),Option.getD_some]
  exact hL _ (List.getElem_mem _)
 have e1:∀c<w,G0 (iZ w n L a) c=G0 (L.getD a []) c:=λc hc=>by
  unfold iZ G0
  simp only[List.getD]at hlen ⊢
  rw[Zs (by omega)]
 have e2:∀k<n,G0 (iZ w n L a) (w+k)=if k=a then 1 else 0:=λk hk=>by
  unfold iZ G0
  generalize L.getD a []=l at *
  simp only[List.getD]
  rw[List.getElem?_append_right (by omega),hlen]
  simp[hk]
 refine⟨by unfold iZ;rw[List.length_append,hlen];simp,λc hc=>?_,by rw[e2 a ha];simp,λk k1 k2=>by rw[e2 k k2,if_neg (by omega)],λi hi=>by omega,1,1,λ_=>0,by decide,by decide,λc hc=>by rw[e1 c hc,cN];simp⟩
 rw[e1 c hc]
 have:∀m,m<=n->di m (λk=>G0 (iZ w n L a) (w+k)*G0 (L.getD k []) c)=if a<m then G0 (L.getD a []) c else 0:=λm=>by
  induction m with
  |zero=>intro _;rfl
  |succ m ih=>
   intro hm
   rw[bL,ih (by omega),e2 m (by omega)]
   by_cases h1:m=a
   .subst h1;simp
   .by_cases h2:a<m
    .simp[h1,h2];omega
    .simp[h1,h2];omega
 rw[this n (Zg _),if_pos ha]
theorem oK{ks:List Kp}{x:Kp}{i:Nat}(h:i<ks.length):KR (ks++[x]) i=KR ks i/\KC (ks++[x]) i=KC ks i:=by
 unfold KR KC
 simp only[List.getD,Zs h,and_self]
theorem rH.snoc{L:List (List Int)}{w n:Nat}{ks:List Kp}{x:Kp}{a j:Nat}{r:List Int}(h:rH L w n ks a j r)(hj:j<=ks.length):rH L w n (ks++[x]) a j r:=by
 refine⟨h.len,h.rel,h.own,h.up,λi hi=>by rw[(oK (by omega)).2];exact h.zer i hi,?_⟩
 obtain⟨γ,α,β,h1,h2,h3⟩:=h.spn
 refine⟨γ,α,β,h1,h2,λc hc=>?_⟩
 rw[h3 c hc]
 congr 1
 exact dI λi hi=>by rw[(oK (by omega)).1]
theorem Kept.snoc{L:List (List Int)}{w n:Nat}{ks:List Kp}{r:List Int}{c:Nat}(hK:Kept L w n ks)(h:rH L w n ks ks.length ks.length r)(hc:c<w)(hr:G0 r c≠0):Kept L w n (ks++[(c,r)]):=λi hi=>by
 rw[List.length_append,List.length_singleton]at hi
 rcases Nat.lt_or_ge i ks.length with w1|w1
 .rw[(oK w1).1,(oK w1).2]
  obtain⟨a,b,d⟩:=hK i w1
  exact⟨a.snoc (by omega),b,d⟩
 .have:i=ks.length:=by omega
  subst this
  have e1:KR (ks++[(c,r)]) ks.length=r:=by unfold KR;simp[List.getD]
  have e2:KC (ks++[(c,r)]) ks.length=c:=by unfold KC;simp[List.getD]
  rw[e1,e2]
  exact⟨h.snoc (Zg _),hc,hr⟩
def D2(a b c d:Int):Int:=a*d-b*c
def D3(a b c d e f g h i:Int):Int:=a*D2 e f h i-b*D2 d f g i+c*D2 d e g h
def D4(a b c d e f g h i j k l m n o p:Int):Int:=a*D3 f g h j k l n o p-b*D3 e g h i k l m o p+c*D3 e f h i j l m n p-d*D3 e f g i j k m n o
theorem Tp{a b c d e f g h i j k l m n o p m' n' o' p' s t v u q:Int}(h1:q*m'=u*m+s*a+t*e+v*i)(h2:q*n'=u*n+s*b+t*f+v*j)(h3:q*o'=u*o+s*c+t*g+v*k)(h4:q*p'=u*p+s*d+t*h+v*l):q*D4 a b c d e f g h i j k l m' n' o' p'=u*D4 a b c d e f g h i j k l m n o p:=by
 have e1:q*D4 a b c d e f g h i j k l m' n' o' p'=D4 a b c d e f g h i j k l (q*m') (q*n') (q*o') (q*p'):=by unfold D4 D3 D2;grind
 rw[e1,h1,h2,h3,h4];unfold D4 D3 D2;grind
theorem Sd{a b c d e f g h i j k l m n o p i' j' k' l' s t u q:Int}(h1:q*i'=u*i+s*a+t*e)(h2:q*j'=u*j+s*b+t*f)(h3:q*k'=u*k+s*c+t*g)(h4:q*l'=u*l+s*d+t*h):q*D4 a b c d e f g h i' j' k' l' m n o p=u*D4 a b c d e f g h i j k l m n o p:=by
 have e1:q*D4 a b c d e f g h i' j' k' l' m n o p=D4 a b c d e f g h (q*i') (q*j') (q*k') (q*l') m n o p:=by unfold D4 D3 D2;grind
 rw[e1,h1,h2,h3,h4];unfold D4 D3 D2;grind
theorem Rz{a b c d e f g h i j k l m n o p e' f' g' h' s u q:Int}(h1:q*e'=u*e+s*a)(h2:q*f'=u*f+s*b)(h3:q*g'=u*g+s*c)(h4:q*h'=u*h+s*d):q*D4 a b c d e' f' g' h' i j k l m n o p=u*D4 a b c d e f g h i j k l m n o p:=by
 have e1:q*D4 a b c d e' f' g' h' i j k l m n o p=D4 a b c d (q*e') (q*f') (q*g') (q*h') i j k l m n o p:=by unfold D4 D3 D2;grind
 rw[e1,h1,h2,h3,h4];unfold D4 D3 D2;grind
theorem TV{a b c d e f g h i j k l m n o p a' b' c' d' u q:Int}(h1:q*a'=u*a)(h2:q*b'=u*b)(h3:q*c'=u*c)(h4:q*d'=u*d):q*D4 a' b' c' d' e f g h i j k l m n o p=u*D4 a b c d e f g h i j k l m n o p:=by
 have e1:q*D4 a' b' c' d' e f g h i j k l m n o p=D4 (q*a') (q*b') (q*c') (q*d') e f g h i j k l m n o p:=by unfold D4 D3 D2;grind
 rw[e1,h1,h2,h3,h4];unfold D4 D3 D2;grind
theorem TQ{a b c e f g i j k i' j' k' s t u q:Int}(h1:q*i'=u*i+s*a+t*e)(h2:q*j'=u*j+s*b+t*f)(h3:q*k'=u*k+s*c+t*g):q*D3 a b c e f g i' j' k'=u*D3 a b c e f g i j k:=by
 have e1:q*D3 a b c e f g i' j' k'=D3 a b c e f g (q*i') (q*j') (q*k'):=by unfold D3 D2;grind
 rw[e1,h1,h2,h3];unfold D3 D2;grind
theorem Ul{a b c e f g i j k e' f' g' s u q:Int}(h1:q*e'=u*e+s*a)(h2:q*f'=u*f+s*b)(h3:q*g'=u*g+s*c):q*D3 a b c e' f' g' i j k=u*D3 a b c e f g i j k:=by
 have e1:q*D3 a b c e' f' g' i j k=D3 a b c (q*e') (q*f') (q*g') i j k:=by unfold D3 D2;grind
 rw[e1,h1,h2,h3];unfold D3 D2;grind
theorem Ry{a b c e f g i j k a' b' c' u q:Int}(h1:q*a'=u*a)(h2:q*b'=u*b)(h3:q*c'=u*c):q*D3 a' b' c' e f g i j k=u*D3 a b c e f g i j k:=by
 have e1:q*D3 a' b' c' e f g i j k=D3 (q*a') (q*b') (q*c') e f g i j k:=by unfold D3 D2;grind
 rw[e1,h1,h2,h3];unfold D3 D2;grind
def dtX(X:Nat->Nat->Int):List Nat->Int
 | []=>1
 | [a]=>X 0 a
 | [a,b]=>D2 (X 0 a) (X 0 b) (X 1 a) (X 1 b)
 | [a,b,c]=>D3 (X 0 a) (X 0 b) (X 0 c) (X 1 a) (X 1 b) (X 1 c) (X 2 a) (X 2 b) (X 2 c)
 | [a,b,c,d]=>D4 (X 0 a) (X 0 b) (X 0 c) (X 0 d) (X 1 a) (X 1 b) (X 1 c) (X 1 d) (X 2 a) (X 2 b) (X 2 c) (X 2 d) (X 3 a) (X 3 b) (X 3 c) (X 3 d)
 |_=>0
theorem iK{X:Nat->Nat->Int}:∀{l:List Nat},5<=l.length->dtX X l=0
 | [],h=>by simp at h
 | [_],h=>by simp at h
 | [_,_],h=>by simp at h
 | [_,_,_],h=>by simp at h
 | [_,_,_,_],h=>by simp at h
 |_::_::_::_::_::_,_=>rfl
theorem LQ(X:Nat->Nat->Int)(a b:Nat):∀(pre post:List Nat),dtX X (pre++a::b::post)= - dtX X (pre++b::a::post)
 | [],[]=>by simp only[List.nil_append,dtX];unfold D2;grind
 | [],[_]=>by simp only[List.nil_append,dtX];unfold D3 D2;grind
 | [],[_,_]=>by simp only[List.nil_append,dtX];unfold D4 D3 D2;grind
 | [_],[]=>by simp only[List.cons_append,List.nil_append,dtX];unfold D3 D2;grind
 | [_],[_]=>by simp only[List.cons_append,List.nil_append,dtX];unfold D4 D3 D2;grind
 | [_,_],[]=>by simp only[List.cons_append,List.nil_append,dtX];unfold D4 D3 D2;grind
 | [],_::_::_::_=>by rw[iK (by simp),iK (by simp)];rfl
 | [_],_::_::_=>by rw[iK (by simp),iK (by simp)];rfl
 | [_,_],_::_=>by rw[iK (by simp),iK (by simp)];rfl
 |_::_::_::_,_=>by rw[iK (by simp;omega),iK (by simp;omega)];rfl
theorem Fz{X:Nat->Nat->Int}{l l':List Nat}(h:l.Perm l'):∀pre,dtX X (pre++l)=0↔dtX X (pre++l')=0:=by
 induction h with
 |nil=>exactλ_=>Iff.rfl
 |cons x _ ih=>exactλpre=>by have:=ih (pre++[x]);simpa using this
 |swap x y l=>exactλpre=>by rw[LQ X y x pre l];omega
 |trans _ _ ih1 ih2=>exactλpre=>(ih1 pre).trans (ih2 pre)
theorem Hs{L:List (List Int)}{w n:Nat}{ks:List Kp}(hK:Kept L w n ks)(hn:ks.length<=4):dtX (λi c=>G0 (L.getD i []) c) ((List.range ks.length).map (KC ks))≠0:=by
 have hc:∀i<ks.length,KC ks i<w:=λi hi=>(hK i hi).2.1
 have hy:∀i<ks.length,G0 (KR ks i) (KC ks i)≠0:=λi hi=>(hK i hi).2.2
 have hz:∀i<ks.length,∀j<i,G0 (KR ks i) (KC ks j)=0:=λi hi j hj=>(hK i hi).1.zer j hj
 have hs:∀i<ks.length,∃(γ α:Int)(β:Nat->Int),γ≠0/\α≠0/\∀c<w,γ*G0 (KR ks i) c=α*G0 (L.getD i []) c+di i λk=>β k*G0 (KR ks k) c:=λi hi=>(hK i hi).1.spn
 generalize KC ks=c at *
 generalize KR ks=R at *
 generalize ks.length=m at *
 generalize hX:(λi c=>G0 (L.getD i []) c)=X
 have hs:∀i<m,∃(γ α:Int)(β:Nat->Int),γ≠0/\α≠0/\∀c<w,γ*G0 (R i) c=α*X i c+di i λk=>β k*G0 (R k) c:=λi hi=>by rw[<-hX];exact hs i hi
 clear hX hK
 match m,hn with
 |0,_=>simp[dtX]
 |1,_=>
  obtain⟨γ,α,β,g0,a0,h0⟩:=hs 0 (by decide)
  have e:=h0 (c 0) (hc 0 (by decide))
  rw[cN]at e
  intro z
  have z:X 0 (c 0)=0:=z
  rw[z]at e
  exact Int.mul_ne_zero g0 (hy 0 (by decide)) (by rw[e];simp)
 |2,_=>
  obtain⟨γ0,α0,β0,g0,a0,h0⟩:=hs 0 (by decide)
  obtain⟨γ1,α1,β1,g1,a1,h1⟩:=hs 1 (by decide)
  have c0:=hc 0 (by decide)
  have c1:=hc 1 (by decide)
  simp only[bL,cN]at h0 h1
  have p00:=h0 _ c0;have p01:=h0 _ c1;have p10:=h1 _ c0;have p11:=h1 _ c1
  have y0:=hy 0 (by decide);have y1:=hy 1 (by decide)
  have z10:=hz 1 (by decide) 0 (by decide)
  intro z
  have z:D2 (X 0 (c 0)) (X 0 (c 1)) (X 1 (c 0)) (X 1 (c 1))=0:=z
  have e:γ0*γ1*(G0 (R 0) (c 0)*G0 (R 1) (c 1))=α0*α1*D2 (X 0 (c 0)) (X 0 (c 1)) (X 1 (c 0)) (X 1 (c 1)):=by
   have q1:γ1*D2 (G0 (R 0) (c 0)) (G0 (R 0) (c 1)) (G0 (R 1) (c 0)) (G0 (R 1) (c 1))=α1*D2 (G0 (R 0) (c 0)) (G0 (R 0) (c 1)) (X 1 (c 0)) (X 1 (c 1)):=by unfold D2;grind
   have q0:γ0*D2 (G0 (R 0) (c 0)) (G0 (R 0) (c 1)) (X 1 (c 0)) (X 1 (c 1))=α0*D2 (X 0 (c 0)) (X 0 (c 1)) (X 1 (c 0)) (X 1 (c 1)):=by unfold D2;grind
   have q2:D2 (G0 (R 0) (c 0)) (G0 (R 0) (c 1)) (G0 (R 1) (c 0)) (G0 (R 1) (c 1))=G0 (R 0) (c 0)*G0 (R 1) (c 1):=by unfold D2;rw[z10];simp
   rw[q2]at q1
   grind
  rw[z]at e
  exact Int.mul_ne_zero (Int.mul_ne_zero g0 g1) (Int.mul_ne_zero y0 y1) (by rw[e];simp)
 |3,_=>
  obtain⟨γ0,α0,β0,g0,a0,h0⟩:=hs 0 (by decide)
  obtain⟨γ1,α1,β1,g1,a1,h1⟩:=hs 1 (by decide)
  obtain⟨γ2,α2,β2,g2,a2,h2⟩:=hs 2 (by decide)
  have c0:=hc 0 (by decide)
  have c1:=hc 1 (by decide)
  have c2:=hc 2 (by decide)
  simp only[bL,cN,Int.zero_add,Int.add_zero,<-Int.add_assoc]at h0 h1 h2
  have y0:=hy 0 (by decide);have y1:=hy 1 (by decide);have y2:=hy 2 (by decide)
  have z10:=hz 1 (by decide) 0 (by decide)
  have z20:=hz 2 (by decide) 0 (by decide);have z21:=hz 2 (by decide) 1 (by decide)
  intro z
  have z:D3 (X 0 (c 0)) (X 0 (c 1)) (X 0 (c 2)) (X 1 (c 0)) (X 1 (c 1)) (X 1 (c 2)) (X 2 (c 0)) (X 2 (c 1)) (X 2 (c 2))=0:=z
  have q2:=TQ (h2 _ c0) (h2 _ c1) (h2 _ c2)
  have q1:=Ul (i:=X 2 (c 0)) (j:=X 2 (c 1)) (k:=X 2 (c 2)) (h1 _ c0) (h1 _ c1) (h1 _ c2)
  have q0:=Ry (e:=X 1 (c 0)) (f:=X 1 (c 1)) (g:=X 1 (c 2)) (i:=X 2 (c 0)) (j:=X 2 (c 1)) (k:=X 2 (c 2)) (h0 _ c0) (h0 _ c1) (h0 _ c2)
  have qd:D3 (G0 (R 0) (c 0)) (G0 (R 0) (c 1)) (G0 (R 0) (c 2)) (G0 (R 1) (c 0)) (G0 (R 1) (c 1)) (G0 (R 1) (c 2)) (G0 (R 2) (c 0)) (G0 (R 2) (c 1)) (G0 (R 2) (c 2))=G0 (R 0) (c 0)*(G0 (R 1) (c 1)*G0 (R 2) (c 2)):=by rw[z10,z20,z21];unfold D3 D2;grind
  rw[z,Int.mul_zero]at q0
  have q0:=(Int.mul_eq_zero.mp q0).resolve_left g0
  rw[q0,Int.mul_zero]at q1
  have q1:=(Int.mul_eq_zero.mp q1).resolve_left g1
  rw[q1,qd,Int.mul_zero]at q2
  exact Int.mul_ne_zero g2 (Int.mul_ne_zero y0 (Int.mul_ne_zero y1 y2)) q2
 |4,_=>
  obtain⟨γ0,α0,β0,g0,a0,h0⟩:=hs 0 (by decide)
  obtain⟨γ1,α1,β1,g1,a1,h1⟩:=hs 1 (by decide)
  obtain⟨γ2,α2,β2,g2,a2,h2⟩:=hs 2 (by decide)
  obtain⟨γ3,α3,β3,g3,a3,h3⟩:=hs 3 (by decide)
  have c0:=hc 0 (by decide)
  have c1:=hc 1 (by decide)
  have c2:=hc 2 (by decide)
  have c3:=hc 3 (by decide)
  simp only[bL,cN,Int.zero_add,Int.add_zero,<-Int.add_assoc]at h0 h1 h2 h3
  have y0:=hy 0 (by decide);have y1:=hy 1 (by decide);have y2:=hy 2 (by decide);have y3:=hy 3 (by decide)
  have z10:=hz 1 (by decide) 0 (by decide)
  have z20:=hz 2 (by decide) 0 (by decide);have z21:=hz 2 (by decide) 1 (by decide)
  have z30:=hz 3 (by decide) 0 (by decide);have z31:=hz 3 (by decide) 1 (by decide);have z32:=hz 3 (by decide) 2 (by decide)
  intro z
  have z:D4 (X 0 (c 0)) (X 0 (c 1)) (X 0 (c 2)) (X 0 (c 3)) (X 1 (c 0)) (X 1 (c 1)) (X 1 (c 2)) (X 1 (c 3)) (X 2 (c 0)) (X 2 (c 1)) (X 2 (c 2)) (X 2 (c 3)) (X 3 (c 0)) (X 3 (c 1)) (X 3 (c 2)) (X 3 (c 3))=0:=z
  have q3:=Tp (h3 _ c0) (h3 _ c1) (h3 _ c2) (h3 _ c3)
  have q2:=Sd (m:=X 3 (c 0)) (n:=X 3 (c 1)) (o:=X 3 (c 2)) (p:=X 3 (c 3)) (h2 _ c0) (h2 _ c1) (h2 _ c2) (h2 _ c3)
  have q1:=Rz (i:=X 2 (c 0)) (j:=X 2 (c 1)) (k:=X 2 (c 2)) (l:=X 2 (c 3)) (m:=X 3 (c 0)) (n:=X 3 (c 1)) (o:=X 3 (c 2)) (p:=X 3 (c 3)) (h1 _ c0) (h1 _ c1) (h1 _ c2) (h1 _ c3)
  have q0:=TV (e:=X 1 (c 0)) (f:=X 1 (c 1)) (g:=X 1 (c 2)) (h:=X 1 (c 3)) (i:=X 2 (c 0)) (j:=X 2 (c 1)) (k:=X 2 (c 2)) (l:=X 2 (c 3)) (m:=X 3 (c 0)) (n:=X 3 (c 1)) (o:=X 3 (c 2)) (p:=X 3 (c 3)) (h0 _ c0) (h0 _ c1) (h0 _ c2) (h0 _ c3)
  have qd:D4 (G0 (R 0) (c 0)) (G0 (R 0) (c 1)) (G0 (R 0) (c 2)) (G0 (R 0) (c 3)) (G0 (R 1) (c 0)) (G0 (R 1) (c 1)) (G0 (R 1) (c 2)) (G0 (R 1) (c 3)) (G0 (R 2) (c 0)) (G0 (R 2) (c 1)) (G0 (R 2) (c 2)) (G0 (R 2) (c 3)) (G0 (R 3) (c 0)) (G0 (R 3) (c 1)) (G0 (R 3) (c 2)) (G0 (R 3) (c 3))=G0 (R 0) (c 0)*(G0 (R 1) (c 1)*(G0 (R 2) (c 2)*G0 (R 3) (c 3))):=by rw[z10,z20,z21,z30,z31,z32];unfold D4 D3 D2;grind
  rw[z,Int.mul_zero]at q0
  have q0:=(Int.mul_eq_zero.mp q0).resolve_left g0
  rw[q0,Int.mul_zero]at q1
  have q1:=(Int.mul_eq_zero.mp q1).resolve_left g1
  rw[q1,Int.mul_zero]at q2
  have q2:=(Int.mul_eq_zero.mp q2).resolve_left g2
  rw[q2,qd,Int.mul_zero]at q3
  exact Int.mul_ne_zero g3 (Int.mul_ne_zero y0 (Int.mul_ne_zero y1 (Int.mul_ne_zero y2 y3))) q3
theorem dep2{a b c d x y:Int}(h1:x*a+y*c=0)(h2:x*b+y*d=0):x*D2 a b c d=0/\y*D2 a b c d=0:=by
 unfold D2;constructor<;>grind
theorem dep3{a b c d e f g h i x y z:Int}(h1:x*a+y*d+z*g=0)(h2:x*b+y*e+z*h=0)(h3:x*c+y*f+z*i=0):x*D3 a b c d e f g h i=0/\y*D3 a b c d e f g h i=0/\z*D3 a b c d e f g h i=0:=by
 refine⟨?_,?_,?_⟩
 .have:x*D3 a b c d e f g h i=(x*a+y*d+z*g)*D2 e f h i-(x*b+y*e+z*h)*D2 d f g i+(x*c+y*f+z*i)*D2 d e g h:=by unfold D3 D2;grind
  rw[this,h1,h2,h3];grind
 .have:y*D3 a b c d e f g h i= - (x*a+y*d+z*g)*D2 b c h i+(x*b+y*e+z*h)*D2 a c g i-(x*c+y*f+z*i)*D2 a b g h:=by unfold D3 D2;grind
  rw[this,h1,h2,h3];grind
 .have:z*D3 a b c d e f g h i=(x*a+y*d+z*g)*D2 b c e f-(x*b+y*e+z*h)*D2 a c d f+(x*c+y*f+z*i)*D2 a b d e:=by unfold D3 D2;grind
  rw[this,h1,h2,h3];grind
theorem dep4{a b c d e f g h i j k l m n o p x y z w:Int}(h1:x*a+y*e+z*i+w*m=0)(h2:x*b+y*f+z*j+w*n=0)(h3:x*c+y*g+z*k+w*o=0)(h4:x*d+y*h+z*l+w*p=0):x*D4 a b c d e f g h i j k l m n o p=0/\y*D4 a b c d e f g h i j k l m n o p=0/\z*D4 a b c d e f g h i j k l m n o p=0/\w*D4 a b c d e f g h i j k l m n o p=0:=by
 refine⟨?_,?_,?_,?_⟩
 .have:x*D4 a b c d e f g h i j k l m n o p=(x*a+y*e+z*i+w*m)*D3 f g h j k l n o p-(x*b+y*f+z*j+w*n)*D3 e g h i k l m o p+(x*c+y*g+z*k+w*o)*D3 e f h i j l m n p-(x*d+y*h+z*l+w*p)*D3 e f g i j k m n o:=by unfold D4 D3 D2;grind
  rw[this,h1,h2,h3,h4];grind
 .have:y*D4 a b c d e f g h i j k l m n o p= - (x*a+y*e+z*i+w*m)*D3 b c d j k l n o p+(x*b+y*f+z*j+w*n)*D3 a c d i k l m o p-(x*c+y*g+z*k+w*o)*D3 a b d i j l m n p+(x*d+y*h+z*l+w*p)*D3 a b c i j k m n o:=by unfold D4 D3 D2;grind
  rw[this,h1,h2,h3,h4];grind
 .have:z*D4 a b c d e f g h i j k l m n o p=(x*a+y*e+z*i+w*m)*D3 b c d f g h n o p-(x*b+y*f+z*j+w*n)*D3 a c d e g h m o p+(x*c+y*g+z*k+w*o)*D3 a b d e f h m n p-(x*d+y*h+z*l+w*p)*D3 a b c e f g m n o:=by unfold D4 D3 D2;grind
  rw[this,h1,h2,h3,h4];grind
 .have:w*D4 a b c d e f g h i j k l m n o p= - (x*a+y*e+z*i+w*m)*D3 b c d f g h j k l+(x*b+y*f+z*j+w*n)*D3 a c d e g h i k l-(x*c+y*g+z*k+w*o)*D3 a b d e f h i j l+(x*d+y*h+z*l+w*p)*D3 a b c e f g i j k:=by unfold D4 D3 D2;grind
  rw[this,h1,h2,h3,h4];grind
theorem CT{X:Nat->Nat->Int}{m:Nat->Int}{w a:Nat}:∀(cs:List Nat),a<cs.length->m a≠0->(∀c<w,di cs.length (λk=>m k*X k c)=0)->(∀c∈cs,c<w)->dtX X cs=0
 | [],ha,_,_,_=>by simp at ha
 | [c0],ha,h0,h,hc=>by
  have e:=h c0 (hc c0 (by simp))
  simp only[List.length_cons,List.length_nil,bL,cN]at e ha
  have:a=0:=by omega
  subst this
  have e:m 0*X 0 c0=0:=by simpa using e
  exact(Int.mul_eq_zero.mp e).resolve_left h0
 | [c0,c1],ha,h0,h,hc=>by
  have e0:=h c0 (hc c0 (by simp))
  have e1:=h c1 (hc c1 (by simp))
  simp only[List.length_cons,List.length_nil,bL,cN,Int.zero_add]at e0 e1 ha
  obtain⟨r0,r1⟩:=dep2 e0 e1
  rcases(show a=0∨a=1 by omega)with rfl|rfl
  .exact(Int.mul_eq_zero.mp r0).resolve_left h0
  .exact(Int.mul_eq_zero.mp r1).resolve_left h0
 | [c0,c1,c2],ha,h0,h,hc=>by
  have e0:=h c0 (hc c0 (by simp))
  have e1:=h c1 (hc c1 (by simp))
  have e2:=h c2 (hc c2 (by simp))
  simp only[List.length_cons,List.length_nil,bL,cN,Int.zero_add]at e0 e1 e2 ha
  obtain⟨r0,r1,r2⟩:=dep3 e0 e1 e2
  rcases(show a=0∨a=1∨a=2 by omega)with rfl|rfl|rfl
  .exact(Int.mul_eq_zero.mp r0).resolve_left h0
  .exact(Int.mul_eq_zero.mp r1).resolve_left h0
  .exact(Int.mul_eq_zero.mp r2).resolve_left h0
 | [c0,c1,c2,c3],ha,h0,h,hc=>by
  have e0:=h c0 (hc c0 (by simp))
  have e1:=h c1 (hc c1 (by simp))
  have e2:=h c2 (hc c2 (by simp))
  have e3:=h c3 (hc c3 (by simp))
  simp only[List.length_cons,List.length_nil,bL,cN,Int.zero_add]at e0 e1 e2 e3 ha
  obtain⟨r0,r1,r2,r3⟩:=dep4 e0 e1 e2 e3
  rcases(show a=0∨a=1∨a=2∨a=3 by omega)with rfl|rfl|rfl|rfl
  .exact(Int.mul_eq_zero.mp r0).resolve_left h0
  .exact(Int.mul_eq_zero.mp r1).resolve_left h0
  .exact(Int.mul_eq_zero.mp r2).resolve_left h0
  .exact(Int.mul_eq_zero.mp r3).resolve_left h0
 |_::_::_::_::_::_,_,_,_,_=>rfl
abbrev XL(L:List (List Int)):Nat->Nat->Int:=λi c=>G0 (L.getD i []) c
theorem Ao{L:List (List Int)}{w n:Nat}{ks:List Kp}(hK:Kept L w n ks)(hn:ks.length<=4):∃cs:List Nat,cs.length=ks.length/\(∀c∈cs,c<w)/\cs.Pairwise (· < ·)/\dtX (XL L) cs≠0:=by
 have hd:=Hs hK hn
 have hnd:((List.range ks.length).map (KC ks)).Nodup:=by
  refine List.pairwise_map.mpr (List.Pairwise.imp_of_mem (R:=(· < ·)) ?_ List.pairwise_lt_range)
  intro i j hi hj hij e
  have hi:=List.mem_range.mp hi
  have hj:=List.mem_range.mp hj
  have h1:=(hK j hj).1.zer i hij
  have h2:=(hK j hj).2.2
  rw[e]at h1
  exact h2 h1
 generalize hcs:(List.range ks.length).map (KC ks)=cs at *
 have hperm:=List.mergeSort_perm cs (λa b=>decide (a<=b))
 have hsort:(cs.mergeSort (λa b=>decide (a<=b))).Pairwise (λa b=>decide (a<=b)=true):=List.pairwise_mergeSort (by intro a b c h1 h2;simp at *;omega) (by intro a b;simp;omega) cs
 refine⟨cs.mergeSort (λa b=>decide (a<=b)),?_,λc hc=>?_,?_,λz=>hd ((Fz hperm.symm []).mpr z)⟩
 .rw[hperm.length_eq,<-hcs];simp
 .have:=hperm.mem_iff.mp hc
  rw[<-hcs]at this
  obtain⟨i,hi,rfl⟩:=Zq.mp this
  exact(hK i (List.mem_range.mp hi)).2.1
 .have hnd':=hperm.nodup_iff.mpr hnd
  have:=List.Pairwise.and hsort hnd'
  exact this.imp λh=>by have:=of_decide_eq_true h.1;have:=h.2;omega
theorem Bp{L:List (List Int)}{w n a j:Nat}{ks:List Kp}{r:List Int}(h:rH L w n ks a j r)(ha:a<n)(h0:∀c<w,G0 r c=0){cs:List Nat}(hl:cs.length=n)(hc:∀c∈cs,c<w):dtX (XL L) cs=0:=by
 refine CT (m:=λk=>G0 r (w+k)) (w:=w) (a:=a) cs (by omega) h.own (λc hcw=>?_) hc
 rw[hl,<-h.rel c hcw,h0 c hcw]
def sgI(i:Nat):Int:=if i % 2=0 then 1 else -1
def fV:Nat->List (List Int)->Int
 |0,_=>1
 |_+1,[]=>1
 |n+1,r::rs=>di r.length λi=>sgI i*G0 r i*fV n (rs.map λr=>r.take i++r.drop (i+1))
def uC(n:Nat)(φ:FF):Prop:=∀(rs:List (List Int))(μ:Mu),rs.length=n->(∀r∈rs,r.length=n/\∀x∈r,Sm 14 x)->φ [.lst (rs.map au)] μ=some (.int (fV n rs),μ)
theorem Ky(φ:FF):uC 0 (trunc (aG 5 (gB φ))):=λrs μ hl _=>by
 have:rs=[]:=List.eq_nil_of_length_eq_zero hl
 subst this
 refine bC ?_
 have e:=qm (ps:=[]) (μ:=μ) (by rw[eU]) (by rw[iR];decide)
 simp[gB,e,fV]
theorem Mv(k:Nat):atI [D.int 1,.int (-1)] ((k:Int).fmod 2)=some (.int (sgI k)):=by
 unfold sgI
 rcases Nat.mod_two_eq_zero_or_one k with h|h
 .have:(k:Int).fmod 2=0:=by rw[Int.fmod_eq_emod_of_nonneg _ (by decide)];omega
  rw[this,if_pos h];rfl
 .have:(k:Int).fmod 2=1:=by rw[Int.fmod_eq_emod_of_nonneg _ (by decide)];omega
  rw[this,if_neg (by omega)];rfl
theorem DW{n:Nat}{φ:FF}(hn:n<=4)(hB:qW n φ)(hφ:uC n φ):uC (n+1) (trunc (aG 5 (gB φ))):=λrs μ hl hr=>by
 apply bC
 cases rs with
 |nil=>simp at hl
 |cons r0 rest=>
  have hrl:rest.length=n:=by simpa using hl
  obtain⟨h0l,h0s⟩:=hr r0 (by simp)
  obtain⟨pu,pd⟩:=mX (r0::rest)
  have e0:=qm (μ:=μ) pu (by omega)
  have e0':oEq (.lst ((r0::rest).map au)) (.lst []) μ=some (.bl false,μ):=e0
  have a0:atI ((r0::rest).map au) 0=some (au r0):=by unfold atI ixN;simp
  have s1:=tG (ds:=(r0::rest).map au) (i:=1) (μ:=μ) (by decide)
  have s1':oSl (.lst ((r0::rest).map au)) (some 1) none μ=some (.lst (rest.map au),μ):=s1
  have efz:bO (au r0)=some (r0.map .int):=rfl
  have hdl:fV (n+1) (r0::rest)=di r0.length λi=>sgI i*G0 r0 i*fV n (rest.map λr=>r.take i++r.drop (i+1)):=rfl
  rw[hdl]
  generalize hFF:(λi=>sgI i*G0 r0 i*fV n (rest.map λr=>r.take i++r.drop (i+1)))=FN
  generalize (r0::rest).map au=RS at *
  unfold gB
  simp[e0',a0,efz]
  refine fD (λits δ μ'=>∃(k:Nat)(o2 o3 o4:Option D),its=dh k ((r0.drop k).map D.int)/\μ'=μ/\k<=r0.length/\δ=[some (.lst RS),some (.int (di k FN)),o2,o3,o4]) ?_ ?_ _ _ _ ⟨0,none,none,none,rfl,rfl,by omega,rfl⟩
  .rintro it its δ μ' ⟨k,o2,o3,o4,hi,rfl,hkl,rfl⟩
   have hk:k<r0.length:=by
    by_cases h:k<r0.length
    .exact h
    .rw[List.drop_of_length_le (by omega)]at hi;cases hi
   rw[iz hk]at hi
   cases hi
   have hx:Sm 14 (r0.getD k 0):=by
    have:r0.getD k 0=r0[k]:=by simp[List.getD,hk]
    rw[this];exact h0s _ (List.getElem_mem hk)
   have esg:=Mv k
   have sg1:Sm 1 (sgI k):=by unfold Sm sgI;split<;>decide
   have el:=dC (all:=rest.map au) (h:=hName 0) (fe:=M2 (mSl (ak 0) (fNo) (fAt (ak 1))) (mSl (ak 0) (fAt (M2 (ak 1) (mC (.int 1)) bW)) (fNo)) bW) (δb:=[none,some (.int (k:Int))]) (F:=au) (f:=λr=>au (r.take k++r.drop (k+1))) (μ:=μ') rest λr hrm=>by
    have hrl':=(hr r (by simp[hrm])).1
    obtain⟨c1,c2⟩:=BX (r:=r) (k:=(k:Int)) (μ:=μ') (by omega) (by omega)
    rw[show((k:Int)).toNat=k by omega]at c1 c2
    refine⟨_,rfl,?_⟩
    have ea:bW (au (r.take k)) (au (r.drop (k+1))) μ'=some (au (r.take k++r.drop (k+1)),μ'):=by
     show(if((r.take k).map D.int).length+((r.drop (k+1)).map D.int).length<=sizeLine then some (D.tup ((r.take k).map D.int++(r.drop (k+1)).map D.int),μ')else none)=_
     rw[if_pos (Zl (by simp;omega:_<=1000) (by decide)),<-List.map_append]
     rfl
    generalize au (r.take k)=A at *
    generalize au (r.drop (k+1))=B at *
    generalize (k:Int)=kk at *
    simp[c1,c2,ea]
   have el':rest.map (λr=>au (r.take k++r.drop (k+1)))=(rest.map λr=>r.take k++r.drop (k+1)).map au:=by simp
   rw[el']at el
   have hsq:∀r∈rest.map λr=>r.take k++r.drop (k+1),r.length=n/\∀x∈r,Sm 14 x:=λr hr'=>by
    obtain⟨q,hq,rfl⟩:=Zq.mp hr'
    obtain⟨ql,qs⟩:=hr q (by simp[hq])
    refine⟨by simp;omega,λx hx'=>?_⟩
    rcases Zm.mp hx' with z|z
    .exact qs x (List.mem_of_mem_take z)
    .exact qs x (List.mem_of_mem_drop z)
   obtain⟨v,ev,hv⟩:=hB (rest.map λr=>r.take k++r.drop (k+1)) μ' (by simp[hrl]) hsq
   have ev2:=hφ (rest.map λr=>r.take k++r.drop (k+1)) μ' (by simp[hrl]) hsq
   have hvd:v=fV n (rest.map λr=>r.take k++r.drop (k+1)):=by
    rw[ev]at ev2
    injection ev2 with e;injection e with e _;injection e
   have hFk:FN k=sgI k*r0.getD k 0*v:=by rw[<-hFF,hvd];rfl
   have hsum:di (k+1) FN=di k FN+sgI k*r0.getD k 0*v:=by rw[bL,hFk]
   clear ev2 hvd hFk hsq
   generalize (rest.map λr=>r.take k++r.drop (k+1)).map au=QS at *
   have hrz:(rest.map au).length<=1000:=by simp;omega
   generalize rest.map au=RT at *
   generalize r0.getD k 0=x at *
   generalize sgI k=sg at *
   have m1:=cg (x:=sg) (y:=x) μ' sg1 hx (by decide)
   have m2:=cg (x:=sg*x) (y:=v) μ' (fL sg1 hx) hv (by omega)
   generalize hS:di k FN=S at *
   generalize hkk:(k:Int)=kk at *
   simp[s1',hrz,cu,el,esg,m1,ev,m2]
   exact⟨k+1,rfl,by omega,hsum.symm⟩
  .rintro δ μ' ⟨k,o2,o3,o4,hi,rfl,hkl,rfl⟩
   have hk:k=r0.length:=by
    rcases Nat.lt_or_ge k r0.length with w|w
    .rw[iz w]at hi;cases hi
    .omega
   subst hk
   simp
theorem vo:∀(k n:Nat),n<k->n<=5->uC n (Em k λφ=>trunc (aG 5 (gB φ)))
 |0,n,h,_=>by omega
 |k+1,0,_,_=>Ky _
 |k+1,n+1,h,h5=>DW (by omega) (xr k n (by omega) (by omega)) (vo k n (by omega) (by omega))
theorem TY(a:Int):fV 1 [[a]]=a:=by simp[fV,di,sgI,G0]
theorem zr(a b c d:Int):fV 2 [[a,b],[c,d]]=D2 a b c d:=by
 unfold D2
 simp[fV,di,sgI,G0,List.range,List.range.loop]
 grind
theorem uZ(a b c d e f g h i:Int):fV 3 [[a,b,c],[d,e,f],[g,h,i]]=D3 a b c d e f g h i:=by
 have e1:fV 3 [[a,b,c],[d,e,f],[g,h,i]]=a*fV 2 [[e,f],[h,i]]-b*fV 2 [[d,f],[g,i]]+c*fV 2 [[d,e],[g,h]]:=by
  show di 3 _=_
  simp only[bL,cN]
  simp only[sgI,G0,List.getD_cons_zero,List.getD_cons_succ,Zj,List.map_nil,List.take_zero,List.take_succ_cons,List.drop_succ_cons,List.drop_zero,List.nil_append,List.cons_append,Nat.zero_add]
  simp only[show(0 % 2=0)=True by simp,show((1:Nat) % 2=0)=False by simp,show((0+1:Nat) % 2=0)=False by simp,show((2:Nat) % 2=0)=True by simp,show((3:Nat) % 2=0)=False by simp,if_true,if_false]
  grind
 rw[e1,zr,zr,zr];rfl
theorem MP(a b c d e f g h i j k l m n o p:Int):fV 4 [[a,b,c,d],[e,f,g,h],[i,j,k,l],[m,n,o,p]]=D4 a b c d e f g h i j k l m n o p:=by
 have e1:fV 4 [[a,b,c,d],[e,f,g,h],[i,j,k,l],[m,n,o,p]]=a*fV 3 [[f,g,h],[j,k,l],[n,o,p]]-b*fV 3 [[e,g,h],[i,k,l],[m,o,p]]+c*fV 3 [[e,f,h],[i,j,l],[m,n,p]]-d*fV 3 [[e,f,g],[i,j,k],[m,n,o]]:=by
  show di 4 _=_
  simp only[bL,cN]
  simp only[sgI,G0,List.getD_cons_zero,List.getD_cons_succ,Zj,List.map_nil,List.take_zero,List.take_succ_cons,List.drop_succ_cons,List.drop_zero,List.nil_append,List.cons_append,Nat.zero_add]
  simp only[show(0 % 2=0)=True by simp,show((1:Nat) % 2=0)=False by simp,show((0+1:Nat) % 2=0)=False by simp,show((2:Nat) % 2=0)=True by simp,show((3:Nat) % 2=0)=False by simp,if_true,if_false]
  grind
 rw[e1,uZ,uZ,uZ,uZ];rfl
theorem Dl:∀(ps:List (List Int))(cs:List Nat),cs.length=ps.length->ps.length<=4->fV ps.length (ps.map λp=>cs.map λc=>G0 p c)=dtX (XL ps) cs
 | [],[],_,_=>rfl
 | [p],[a],_,_=>TY _
 | [p,q],[a,b],_,_=>zr _ _ _ _
 | [p,q,r],[a,b,c],_,_=>uZ _ _ _ _ _ _ _ _ _
 | [p,q,r,s],[a,b,c,d],_,_=>MP _ _ _ _ _ _ _ _ _ _ _ _ _ _ _ _
 |_::_::_::_::_::_,_,_,h=>by simp at h
def bt(j:Nat):Nat:=15*2 ^ j-1
theorem Jc(j:Nat):bt (j+1)=bt j+bt j+1:=by
 unfold bt
 have:=Nat.two_pow_pos j
 rw[Nat.pow_succ];omega
theorem Fx{j:Nat}(h:j<=4):bt j<=239:=by
 rcases(show j=0∨j=1∨j=2∨j=3∨j=4 by omega)with rfl|rfl|rfl|rfl|rfl<;>decide
def Sz(j:Nat)(r:List Int):Prop:=∀x∈r,Sm (bt j) x
def CQ(φ:FF):Prop:=∀(r R:List Int)(c m:Nat)(μ:Mu),r.length=m->R.length=m->m<=100->c<m->(∀x∈r,Sm 239 x)->(∀x∈R,Sm 239 x)->(∃x∈iQ r R c,x≠0)->φ [au r,au R,.int (c:Int)] μ=some (au (jl (iQ r R c)),μ)
theorem xX{a:Nat}{x y:Int}(hx:Sm a x)(hy:Sm a y):Sm (a+1) (x-y):=by
 have:x-y=x+(0-y):=by omega
 rw[this]
 exact GQ hx (by unfold Sm at *;omega)
theorem pB{r:List Int}{c:Nat}(h:c<r.length)(μ:Mu):oIx (au r) (.int (c:Int)) μ=some (.int (G0 r c),μ)/\G0 r c∈r:=by
 obtain⟨a,b⟩:=rR (ys:=r) (k:=(c:Int)) (by omega) (by omega)
 rw[show(c:Int).toNat=c by omega]at a b
 refine⟨?_,b⟩
 unfold au
 rw[xV]
 simp only[Mq,Option.bind_some,a,Option.map_some]
 rfl
theorem Gz{φ:FF}(hφ:wX φ):CQ (trunc (aG 3 (jr φ))):=λr R c m μ hr hR hm hc sr sR hx=>by
 apply bC
 obtain⟨a1,b1⟩:=pB (r:=r) (c:=c) (by omega) μ
 obtain⟨a2,b2⟩:=pB (r:=R) (c:=c) (by omega) μ
 have ec:=dC (all:=gV (r.map D.int) (R.map D.int)) (h:=jh 2 (bG (hName 0) (bG (hName 1) (jf)))) (fe:=M2 (M2 (ak 0) (M2 (ak 2) (ak 3) oIx) eG) (M2 (ak 1) (M2 (ak 4) (ak 3) oIx) eG) nA) (δb:=[none,none,some (au R),some (.int (c:Int)),some (au r)]) (F:=λp:Int×Int=>D.tup [.int p.1,.int p.2]) (f:=λp=>.int (p.1*G0 R c-p.2*G0 r c)) (μ:=μ) (r.zip R) λp hp=>by
  obtain⟨x,y⟩:=p
  have hmm:=List.of_mem_zip hp
  have m1:=cg (x:=x) (y:=G0 R c) μ (sr _ hmm.1) (sR _ b2) (by decide)
  have m2:=cg (x:=y) (y:=G0 r c) μ (sR _ hmm.2) (sr _ b1) (by decide)
  refine⟨[some (.int x),some (.int y),some (au R),some (.int (c:Int)),some (au r)],by simp,?_⟩
  dsimp only
  generalize x*G0 R c=u at *
  generalize y*G0 r c=v at *
  generalize G0 R c=g1 at *
  generalize G0 r c=g2 at *
  generalize au r=A at *
  generalize au R=B at *
  generalize (c:Int)=cc at *
  simp[a1,a2,m1,m2,-xV]
 have er:(r.zip R).map (λp=>D.int (p.1*G0 R c-p.2*G0 r c))=(iQ r R c).map D.int:=by unfold iQ;rw[List.map_map];rfl
 rw[er]at ec
 have ez:gV (r.map D.int) (R.map D.int)=(r.zip R).map λp=>.tup [.int p.1,.int p.2]:=mD r R
 rw[<-ez]at ec
 have hvl:(iQ r R c).length=m:=by unfold iQ;simp[hr,hR]
 have hvs:∀x∈iQ r R c,Sm 4000 x:=λx hx=>by
  obtain⟨p,hp,rfl⟩:=Zq.mp hx
  have hmm:=List.of_mem_zip hp
  exact bZ (xX (fL (sr _ hmm.1) (sR _ b2)) (fL (sR _ hmm.2) (sr _ b1))) (by decide)
 obtain⟨x,hx1,hx2⟩:=hx
 have el:=hφ (iQ r R c) μ (gk (.inr ⟨x,hx1,hx2⟩)) (by
  have h1:=Df (g:=0) hx1 hx2
  have h2:=bZ (hvs x hx1) (show 4000<=8000 by decide)
  unfold Sm at *;omega) (by omega)
 have er2:D.tup ((iQ r R c).map λn=>.int (n.fdiv (aW 0 (iQ r R c):Nat)))=au (jl (iQ r R c)):=by unfold au jl;rw[List.map_map];rfl
 rw[er2]at el
 have hz:(gV (r.map D.int) (R.map D.int)).length<=sizeLine:=szl (by rw[ez];simp[hr,hR];omega)
 have f1:bO (au r)=some (r.map D.int):=rfl
 have f2:bO (au R)=some (R.map D.int):=rfl
 generalize (iQ r R c).map D.int=V at *
 generalize au (jl (iQ r R c))=W at *
 generalize hZ:gV (r.map D.int) (R.map D.int)=Z at *
 generalize r.map D.int=RI at *
 generalize R.map D.int=SI at *
 generalize au r=A at *
 generalize au R=B at *
 generalize (c:Int)=cc at *
 unfold jr
 simp[f1,f2,hZ,hz,cu,ec,el]
def Cv(φ:FF):Prop:=∀(r:List Int)(μ:Mu),(∃c,c<r.length/\G0 r c≠0/\(∀i<c,G0 r i=0)/\φ [au r] μ=some (.int (c:Int),μ))∨((∀i<r.length,G0 r i=0)/\φ [au r] μ=some (.non,μ))
theorem Nt:Cv (trunc (aG 3 eN)):=λr μ=>by
 have hz:∀c,c<=r.length->(∀i<c,G0 r i=0)->(∃c',c<=c'/\c'<r.length/\G0 r c'≠0/\∀i<c',G0 r i=0)∨∀i<r.length,G0 r i=0:=λc hc h=>by
  by_cases hx:∃c',c'<r.length/\G0 r c'≠0
  .left
   have:∃c',c'<r.length/\G0 r c'≠0/\∀i<c',G0 r i=0:=by
    obtain⟨c',h1,h2⟩:=hx
    induction c' using Nat.strongRecOn with
    |_ c' ih=>
     by_cases hy:∃i<c',G0 r i≠0
     .obtain⟨i,hi,h3⟩:=hy
      exact ih i hi (by omega) h3
     .exact⟨c',h1,h2,λi hi=>Classical.byContradiction λz=>hy ⟨i,hi,z⟩⟩
   obtain⟨c',h1,h2,h3⟩:=this
   refine⟨c',?_,h1,h2,h3⟩
   rcases Nat.lt_or_ge c' c with w|w
   .exact absurd (h c' w) h2
   .exact w
  .right
   exactλi hi=>Classical.byContradiction λz=>hx ⟨i,hi,z⟩
 have efz:bO (au r)=some (r.map .int):=rfl
 have G0d:∀k,r.getD k 0=G0 r k:=λ_=>rfl
 rcases hz 0 (Nat.zero_le _) (λi hi=>by omega)with⟨c,_,c1,c2,c3⟩|h0
 .refine .inl ⟨c,c1,c2,c3,bC ?_⟩
  generalize au r=A at *
  unfold eN
  simp[efz]
  refine fD (λits δ μ'=>∃(k:Nat)(o1 o2:Option D),its=dh k ((r.drop k).map D.int)/\k<=c/\μ'=μ/\δ=[some A,o1,o2]) ?_ ?_ _ _ _ ⟨0,none,none,rfl,Nat.zero_le _,rfl,rfl⟩
  .rintro it its δ μ' ⟨k,o1,o2,hi,hk,rfl,rfl⟩
   rw[iz (show k<r.length by omega),G0d]at hi
   cases hi
   by_cases hkc:k=c
   .subst hkc
    have hb:(G0 r k==0)=false:=by rw[beq_eq_false_iff_ne];exact c2
    generalize G0 r k=g at *
    generalize (k:Int)=kk at *
    simp[hb]
   .have hb:=c3 k (by omega)
    have hkk:k+1<=c:=by omega
    rw[hb]
    generalize (k:Int)=kk at *
    simp
    exact⟨k+1,rfl,hkk⟩
  .rintro δ μ' ⟨k,o1,o2,hi,hk,rfl,rfl⟩
   rw[iz (show k<r.length by omega)]at hi
   cases hi
 .refine .inr ⟨h0,bC ?_⟩
  generalize au r=A at *
  unfold eN
  simp[efz]
  refine fD (λits δ μ'=>∃(k:Nat)(o1 o2:Option D),its=dh k ((r.drop k).map D.int)/\k<=r.length/\μ'=μ/\δ=[some A,o1,o2]) ?_ ?_ _ _ _ ⟨0,none,none,rfl,Nat.zero_le _,rfl,rfl⟩
  .rintro it its δ μ' ⟨k,o1,o2,hi,hk,rfl,rfl⟩
   have hkl:k<r.length:=by
    rcases Nat.lt_or_ge k r.length with w|w
    .exact w
    .rw[List.drop_of_length_le w]at hi;cases hi
   rw[iz hkl,G0d,h0 k hkl]at hi
   cases hi
   generalize (k:Int)=kk at *
   simp
   exact⟨k+1,rfl,hkl⟩
  .rintro δ μ' ⟨k,o1,o2,hi,hk,rfl,rfl⟩
   simp
theorem Dj{w:Nat}:∀(cs:List Nat)(s:Nat),cs.Pairwise (· < ·)->(∀c∈cs,s<=c/\c<w)->cs.length<=w-s
 | [],_,_,_=>Nat.zero_le _
 |c::cs,s,h,hc=>by
  have h:=List.pairwise_cons.mp h
  have c0:=hc c (by simp)
  have:=Dj cs (c+1) h.2 λx hx=>⟨h.1 x hx,(hc x (by simp[hx])).2⟩
  simp only[List.length_cons]
  omega
theorem yR{L:List (List Int)}{w n:Nat}{ks:List Kp}(hK:Kept L w n ks):ks.length<=w:=by
 have hnd:((List.range ks.length).map (KC ks)).Nodup:=by
  refine List.pairwise_map.mpr (List.Pairwise.imp_of_mem (R:=(· < ·)) ?_ List.pairwise_lt_range)
  intro i j hi hj hij e
  have hi:=List.mem_range.mp hi
  have hj:=List.mem_range.mp hj
  have h1:=(hK j hj).1.zer i hij
  have h2:=(hK j hj).2.2
  rw[e]at h1
  exact h2 h1
 generalize hcs:(List.range ks.length).map (KC ks)=cs at *
 have hperm:=List.mergeSort_perm cs (λa b=>decide (a<=b))
 have hsort:(cs.mergeSort (λa b=>decide (a<=b))).Pairwise (λa b=>decide (a<=b)=true):=List.pairwise_mergeSort (by intro a b c h1 h2;simp at *;omega) (by intro a b;simp;omega) cs
 have hnd':=hperm.nodup_iff.mpr hnd
 have hp:=(List.Pairwise.and hsort hnd').imp (S:=(· < ·)) λh=>by have:=of_decide_eq_true h.1;have:=h.2;omega
 have:=Dj (w:=w) _ 0 hp λc hc=>by
  have:=hperm.mem_iff.mp hc
  rw[<-hcs]at this
  obtain⟨i,hi,rfl⟩:=Zq.mp this
  exact⟨Nat.zero_le _,(hK i (List.mem_range.mp hi)).2.1⟩
 rw[hperm.length_eq,<-hcs]at this
 simpa using this
def kD(k:Kp):D:=.tup [.int (k.1:Int),au k.2]
def LT(L:List (List Int))(w:Nat)(t:D):Prop:=
 (t= .non/\L.length<=w/\∃cs:List Nat,cs.length=L.length/\(∀c∈cs,c<w)/\cs.Pairwise (· < ·)/\dtX (XL L) cs≠0)∨
 ∃m:List Int,t=au m/\m.length=L.length/\(∀x∈m,Sm 239 x)/\(∃a,a<L.length/\G0 m a≠0)/\(∀c<w,di L.length (λk=>G0 m k*G0 (L.getD k []) c)=0)/\∀cs:List Nat,cs.length=L.length->(∀c∈cs,c<w)->dtX (XL L) cs=0
structure Rp(L:List (List Int))(w:Nat):Prop where
 w1:1<=w
 w4:w<=4
 len:∀l∈L,l.length=w
 sm:∀l∈L,∀x∈l,Sm 14 x
 n:L.length<=60
def pg(φ:FF):Prop:=∀(L:List (List Int))(w:Nat)(μ:Mu),Rp L w->il μ->∃t,φ [.lst (L.map au)] μ=some (t,μ)/\LT L w t
theorem Qt{j m c:Nat}{r R:List Int}(hr:r.length=m)(hR:R.length=m)(hc:c<m)(sr:Sz j r)(sR:Sz j R){x:Int}(hx:x∈iQ r R c)(h0:x≠0):Sz (j+1) (jl (iQ r R c)):=λy hy=>by
 have hp:aW 0 (iQ r R c)≠0:=gk (.inr ⟨x,hx,h0⟩)
 obtain⟨z,hz,rfl⟩:=Zq.mp hy
 obtain⟨p,hp2,rfl⟩:=Zq.mp hz
 have hmm:=List.of_mem_zip hp2
 have b1:=(pB (r:=r) (c:=c) (by omega) []).2
 have b2:=(pB (r:=R) (c:=c) (by omega) []).2
 rw[Jc]
 exact pF (xX (fL (sr _ hmm.1) (sR _ b2)) (fL (sR _ hmm.2) (sr _ b1))) (by omega)
theorem qK{c:Nat}{all:List D}{h:GF}{b:SF}{QS:Post (Fl×En×Mu)}(I:List D->En->Mu->Prop)(hc:∀its δ μ,I its δ μ->μ[c]? =some (some all))
  (turn:∀d r δ μ,I (d::r) δ μ->OkI (h d δ μ) (Q:=⟨λδ1=>OkI (b δ1 μ) (Q:=⟨vB (I r) QS⟩)⟩)) (fin:∀δ μ,I [] δ μ->QS.run (.nx,δ,μ)):
  ∀(its:List D)(δ:En)(μ:Mu),I its δ μ->OkI (forL ⟨all,some c⟩ h b its δ μ) (Q:=QS)
 | [],δ,μ,hI=>by
  have ok:Src.ok ⟨all,some c⟩ μ:=λn e=>by cases e;exact hc _ _ _ hI
  unfold forL;rw[if_pos ok,CP];exact fin δ μ hI
 |d::r,δ,μ,hI=>by
  have ok:Src.ok ⟨all,some c⟩ μ:=λn e=>by cases e;exact hc _ _ _ hI
  unfold forL
  rw[if_pos ok,dU]
  refine(turn d r δ μ hI).mono λδ1 h1=>?_
  rw[xj]at h1 ⊢
  rw[dU]
  refine h1.mono λq h2=>?_
  rw[xj]at h2 ⊢
  obtain⟨fl,δ',μ'⟩:=q
  cases fl with
  |nx=>exact qK (all:=all) I hc turn fin r δ' μ' h2
  |ct=>exact qK (all:=all) I hc turn fin r δ' μ' h2
  |bk=>exact⟨_,rfl,h2⟩
  |rt d=>exact⟨_,rfl,h2⟩
def LI(L:List (List Int))(w:Nat)(μ:Mu)(its:List D)(δ:En)(μ':Mu):Prop:=∃(ks:List Kp)(o2 o3 o4 o5 o6 o7 o8 o9:Option D),its=dh ks.length ((L.drop ks.length).map au)/\ks.length<=L.length/\Kept L w L.length ks/\(∀i<ks.length,Sz i (KR ks i))/\μ'=μ++[some (ks.map kD)]/\δ=[some (.lst (L.map au)),some (.cell μ.length),o2,o3,o4,o5,o6,o7,o8,o9]
def LJ(L:List (List Int))(w:Nat)(μ:Mu)(ks:List Kp)(o2 o3 o4 o5 o9:Option D)(its:List D)(δ:En)(μ':Mu):Prop:=∃(j:Nat)(r:List Int)(o7 o8:Option D),its=(ks.map kD).drop j/\j<=ks.length/\rH L w L.length ks ks.length j r/\Sz j r/\μ'=μ++[some (ks.map kD)]/\δ=[some (.lst (L.map au)),some (.cell μ.length),o2,o3,o4,o5,some (au r),o7,o8,o9]
theorem Im{L:List (List Int)}{w:Nat}(hL:Rp L w){a:Nat}(ha:a<L.length):Sz 0 (iZ w L.length L a):=λx hx=>by
 unfold iZ at hx
 rcases Zm.mp hx with z|z
 .have hm:L.getD a []∈L:=by
   simp only[List.getD,List.getElem?_eq_getElem ha,Option.getD_some]
   exact List.getElem_mem _
  exact hL.sm _ hm x z
 .obtain⟨k,_,rfl⟩:=Zq.mp z
  by_cases h:k=a
  .rw[if_pos h];exact nH 2 (by decide) (by decide)
  .rw[if_neg h];exact nH 2 (by decide) (by decide)
theorem zO{φ1 φ2:FF}(h1:CQ φ1)(h2:Cv φ2):pg (trunc (aG 10 (fP φ1 φ2))):=λL w μ hL hm=>by
 have key:∃t,trunc (aG 10 (fP φ1 φ2)) [.lst (L.map au)] μ=some (t,μ)/\LT L w t:=by
  apply sH hm
  apply mJ
  have efz:bO (.lst (L.map au))=some (L.map au):=rfl
  unfold fP
  simp
  refine fD (LI L w μ) ?_ ?_ _ _ _ ⟨[],none,none,none,none,none,none,none,none,rfl,Nat.zero_le _,λi hi=>by simp at hi,λi hi=>by simp at hi,rfl,rfl⟩
  .rintro it its δ μ' ⟨ks,o2,o3,o4,o5,o6,o7,o8,o9,hi,hkl,hK,hSz,rfl,rfl⟩
   have ha:ks.length<L.length:=by
    rcases Nat.lt_or_ge ks.length L.length with w1|w1
    .exact w1
    .rw[List.drop_of_length_le w1]at hi;cases hi
   rw[lz ha]at hi
   obtain⟨rfl,rfl⟩:=List.cons.inj hi
   have hlm:L.getD ks.length []∈L:=by
    simp only[List.getD,List.getElem?_eq_getElem ha,Option.getD_some]
    exact List.getElem_mem _
   have hlw:=hL.len _ hlm
   have hw4:=hL.w4
   have hw1:=hL.w1
   have hn60:=hL.n
   have hkw:=yR hK
   obtain⟨nn,hnn⟩:∃nn:Int,nn=L.length:=⟨_,rfl⟩
   obtain⟨ww,hww⟩:∃ww:Int,ww=w:=⟨_,rfl⟩
   obtain⟨aa,haa⟩:∃aa:Int,aa=ks.length:=⟨_,rfl⟩
   have l1:∀μ,dN (au (L.getD ks.length [])) μ=some (.int ww,μ):=λμ=>by unfold au;rw[Gp,Zu,hlw,hww]
   have l2:∀μ,dN (.lst (L.map au)) μ=some (.int nn,μ):=λμ=>by rw[Av,Zu,hnn]
   have rr:=λμ=>zu (j:=nn) (μ:=μ) (by omega) (by omega)
   rw[show nn.toNat=L.length by omega]at rr
   have zI:(cU 0 L.length).length<=sizeLine:=szl (by rw[pM];omega)
   have ee:=λμ=>dC (all:=cU 0 L.length) (h:=hName 0) (fe:=mIf (toB (M2 (ak 0) (ak 1) oEq)) (mC (.int 1)) (mC (.int 0))) (δb:=[none,some (.int aa)]) (F:=λk:Nat=>D.int (0+(k:Int))) (f:=λk=>.int (if k=ks.length then 1 else 0)) (μ:=μ) (List.range L.length) λk _=>by
    refine⟨[some (.int (0+(k:Int))),some (.int aa)],by simp,?_⟩
    apply yC
    by_cases hka:k=ks.length
    .have hb:((0+(k:Int))==aa)=true:=by simp;omega
     generalize (0+(k:Int))=kk at *
     simp[hb,hka]
    .have hb:((0+(k:Int))==aa)=false:=by rw[beq_eq_false_iff_ne];omega
     generalize (0+(k:Int))=kk at *
     simp[hb,hka]
   have ee:∀μ,lcL ⟨cU 0 L.length,none⟩ (hName 0) bU (mIf (toB (M2 (ak 0) (ak 1) oEq)) (mC (.int 1)) (mC (.int 0))) [none,some (.int aa)] (cU 0 L.length) μ=some (((List.range L.length).map λk=>if k=ks.length then(1:Int)else 0).map D.int,μ):=λμ=>by
    refine(show lcL _ _ _ _ _ (cU 0 L.length) μ=_ from ee μ).trans ?_
    rw[List.map_map];rfl
   have est:∀μ,MC (jU (ak 3) (jU (ak 5) (aC))) oTup [some (.lst (L.map au)),some (.cell μ.length),some (.int aa),some (au (L.getD ks.length [])),some (.int ww),some (.lst (((List.range L.length).map λk=>if k=ks.length then(1:Int)else 0).map D.int)),o6,o7,o8,o9] (μ++[some (ks.map kD)])=some (au (iZ w L.length L ks.length),μ++[some (ks.map kD)]):=λμ=>by
    have hz:((L.getD ks.length []).map D.int).length+(((List.range L.length).map λk=>if k=ks.length then(1:Int)else 0).map D.int).length<=sizeLine:=szl (by simp only[Zu,List.length_range,hlw];omega)
    show(if((L.getD ks.length []).map D.int++(((List.range L.length).map λk=>if k=ks.length then(1:Int)else 0).map D.int++[])).length<=sizeLine then some (D.tup ((L.getD ks.length []).map D.int++(((List.range L.length).map λk=>if k=ks.length then(1:Int)else 0).map D.int++[])),μ++[some (ks.map kD)])else none)=_
    rw[List.append_nil,if_pos (by rw[List.length_append];exact hz),<-List.map_append]
    rfl
   have est:=est μ
   generalize hEL:D.lst (((List.range L.length).map λk=>if k=ks.length then(1:Int)else 0).map D.int)=EL at *
   have ee:∀μ,lcL ⟨cU 0 L.length,none⟩ (hName 0) bU (mIf (toB (M2 (ak 0) (ak 1) oEq)) (mC (.int 1)) (mC (.int 0))) [none,some (.int aa)] (cU 0 L.length) μ=some (((List.range L.length).map λk=>if k=ks.length then(1:Int)else 0).map D.int,μ):=ee
   have esrc:srcOf (.cell μ.length) (μ++[some (ks.map kD)])=some ⟨ks.map kD,some μ.length⟩:=by simp[srcOf]
   have hlive:∀X:List D,ju (μ++[some X]) μ.length=true:=λX=>by unfold ju;simp
   have inner:∀QS:Post (Fl×En×Mu),(∀r o7 o8,rH L w L.length ks ks.length ks.length r->Sz ks.length r->QS.run (.nx,[some (.lst (L.map au)),some (.cell μ.length),some (.int aa),some (au (L.getD ks.length [])),some (.int ww),some EL,some (au r),o7,o8,o9],μ++[some (ks.map kD)]))->OkI (forL ⟨ks.map kD,some μ.length⟩ (jh 2 (bG (hName 7) (bG (hName 8) (jf)))) (bh 6 (MC (ao (ak 6) (ao (ak 8) (ao (ak 7) (aC)))) φ1)) (ks.map kD) [some (.lst (L.map au)),some (.cell μ.length),some (.int aa),some (au (L.getD ks.length [])),some (.int ww),some EL,some (au (iZ w L.length L ks.length)),o7,o8,o9] (μ++[some (ks.map kD)])) (Q:=QS):=λQS hQ=>by
    refine qK (LJ L w μ ks (some (.int aa)) (some (au (L.getD ks.length []))) (some (.int ww)) (some EL) o9) (λits δ μ' ⟨_,_,_,_,_,_,_,_,e,_⟩=>by rw[e];simp) ?_ ?_ _ _ _ ⟨0,_,o7,o8,rfl,Nat.zero_le _,Ar hL.len rfl ha,Im hL ha,rfl,rfl⟩
    .rintro d rest δ μ' ⟨j,r,o7,o8,hi,hj,hS,hz,rfl,rfl⟩
     have hjl:j<ks.length:=by
      rcases Nat.lt_or_ge j ks.length with w1|w1
      .exact w1
      .rw[List.drop_of_length_le (by simpa using w1)]at hi;cases hi
     have hdr:(ks.map kD).drop j= .tup [.int (KC ks j:Int),au (KR ks j)]::(ks.map kD).drop (j+1):=by
      rw[List.drop_eq_getElem_cons (by simpa using hjl)]
      unfold KC KR kD
      simp[List.getD,hjl]
     rw[hdr]at hi
     obtain⟨rfl,rfl⟩:=List.cons.inj hi
     obtain⟨hS2,x,hx1,hx2⟩:=Ba hK ha hjl hS
     obtain⟨kR,kc,kp⟩:=hK j hjl
     have zR:=hSz j hjl
     have ec:=h1 r (KR ks j) (KC ks j) (w+L.length) (μ++[some (ks.map kD)]) hS.len kR.len (by omega) (by omega) (λx hx=>bZ (hz x hx) (Fx (by omega))) (λx hx=>bZ (zR x hx) (Fx (by omega))) ⟨x,hx1,hx2⟩
     have hz2:=Qt (c:=KC ks j) hS.len kR.len (by omega) hz zR hx1 hx2
     have hfin:LJ L w μ ks (some (.int aa)) (some (au (L.getD ks.length []))) (some (.int ww)) (some EL) o9 ((ks.map kD).drop (j+1)) [some (.lst (L.map au)),some (.cell μ.length),some (.int aa),some (au (L.getD ks.length [])),some (.int ww),some EL,some (au (jl (iQ r (KR ks j) (KC ks j)))),some (.int (KC ks j:Int)),some (au (KR ks j)),o9] (μ++[some (ks.map kD)]):=⟨j+1,_,_,_,rfl,hjl,hS2,hz2,rfl,rfl⟩
     generalize (ks.map kD).drop (j+1)=RST at *
     generalize au (jl (iQ r (KR ks j) (KC ks j)))=RN at *
     generalize au (KR ks j)=RK at *
     generalize (KC ks j:Int)=ck at *
     generalize au r=RR at *
     generalize μ++[some (ks.map kD)]=M at *
     simp[ec]
     exact hfin
    .rintro δ μ' ⟨j,r,o7,o8,hi,hj,hS,hz,rfl,rfl⟩
     have hje:j=ks.length:=by
      rcases Nat.lt_or_ge j ks.length with w1|w1
      .rw[List.drop_eq_getElem_cons (by simpa using w1)]at hi;cases hi
      .omega
     subst hje
     exact hQ r o7 o8 hS hz
   generalize hTL:(aP (bh 9 _) _)=TL
   generalize hITS:dh (ks.length+1) ((L.drop (ks.length+1)).map au)=ITS at *
   generalize hLR:au (L.getD ks.length [])=LR at *
   have hrow:∀(r:List Int)(o7 o8:Option D),rH L w L.length ks ks.length ks.length r->Sz ks.length r->OkI (TL [some (.lst (L.map au)),some (.cell μ.length),some (.int aa),some LR,some (.int ww),some EL,some (au r),o7,o8,o9] (μ++[some (ks.map kD)])) (Q:=⟨λq=>(q.1= .nx/\LI L w μ ITS q.2.1 q.2.2)∨(∃t,q.1= .rt t/\nc t/\LT L w t/\q.2.2=μ++[some (ks.map kD)])⟩):=λr o7 o8 hS hz=>by
    rw[<-hTL]
    have hlen:=hS.len
    have s1:=Nb (ds:=r.map D.int) (i:=ww) (μ:=μ++[some (ks.map kD)]) (by omega) (by rw[Zu];omega)
    have s2:=Dm (ds:=r.map D.int) (i:=ww) (μ:=μ++[some (ks.map kD)]) (by omega) (by rw[Zu];omega)
    rw[show ww.toNat=w by omega,<-List.map_take]at s1
    rw[show ww.toNat=w by omega,<-List.map_drop]at s2
    have s1:oSl (au r) none (some ww) (μ++[some (ks.map kD)])=some (au (r.take w),μ++[some (ks.map kD)]):=s1
    have s2:oSl (au r) (some ww) none (μ++[some (ks.map kD)])=some (au (r.drop w),μ++[some (ks.map kD)]):=s2
    have tk:∀c<w,G0 (r.take w) c=G0 r c:=λc hc=>by
     unfold G0
     simp[List.getD,List.getElem?_take,hc]
    have dk:∀k,G0 (r.drop w) k=G0 r (w+k):=λk=>by
     unfold G0
     simp[List.getD,List.getElem?_drop]
    have tl:(r.take w).length=w:=by rw[List.length_take];omega
    rcases h2 (r.take w) (μ++[some (ks.map kD)])with⟨c,c1,c2,_,ec⟩|⟨hzero,ec⟩
    .rw[tl]at c1
     rw[tk c c1]at c2
     have hK':=hK.snoc hS c1 c2
     have hlz:(ks.map kD).length<sizeLine:=Zc (show _<10 by rw[Zu];omega) (szl (by decide))
     have hmap:ks.map kD++[.tup [.int (c:Int),au r]]=(ks++[(c,r)]).map kD:=by simp[kD]
     have hfin:LI L w μ ITS [some (.lst (L.map au)),some (.cell μ.length),some (.int aa),some LR,some (.int ww),some EL,some (au r),o7,o8,some (.int (c:Int))] (μ++[some ((ks++[(c,r)]).map kD)]):=by
      rw[<-hITS]
      refine⟨ks++[(c,r)],_,_,_,_,_,_,_,_,by simp,by simp;omega,hK',λi hi=>?_,rfl,rfl⟩
      rw[List.length_append,List.length_singleton]at hi
      rcases Nat.lt_or_ge i ks.length with w1|w1
      .rw[(oK w1).1];exact hSz i w1
      .have:i=ks.length:=by omega
       subst this
       have:KR (ks++[(c,r)]) ks.length=r:=by unfold KR;simp[List.getD]
       rw[this];exact hz
     have hlz2:ks.length<sizeLine:=by simpa using hlz
     have hset:(μ++[some (ks.map kD)]).set μ.length (some (ks.map kD++[.tup [.int (c:Int),au r]]))=μ++[some ((ks++[(c,r)]).map kD)]:=by rw[hmap];simp[List.set_append]
     have hget:(μ++[some (ks.map kD)])[μ.length]? =some (some (ks.map kD)):=by simp
     have hl2:=hlive (ks.map kD)
     have z2:2<=sizeLine:=szl (by decide)
     generalize μ++[some ((ks++[(c,r)]).map kD)]=M2' at *
     generalize au (r.take w)=RT at *
     generalize au (r.drop w)=RD at *
     generalize au r=RR at *
     generalize (c:Int)=cc at *
     generalize hM:μ++[some (ks.map kD)]=M at *
     simp[s1,ec,gC,z2,jN,hget,hl2,hlz2,hset]
     exact hfin
    .rw[tl]at hzero
     have h0:∀c<w,G0 r c=0:=λc hc=>by rw[<-tk c hc];exact hzero c hc
     have hLT:LT L w (au (r.drop w)):=by
      refine .inr ⟨r.drop w,rfl,by rw[List.length_drop];omega,λx hx=>bZ (hz x (List.mem_of_mem_drop hx)) (Fx (by omega)),⟨ks.length,ha,by rw[dk];exact hS.own⟩,λc hc=>?_,λcs hcl hcs=>Bp hS ha h0 hcl hcs⟩
      have:=hS.rel c hc
      rw[h0 c hc]at this
      rw[this]
      exact dI λk _=>by rw[dk]
     have hnc:nc (au (r.drop w)):=lR.mpr jR
     generalize au (r.take w)=RT at *
     generalize au (r.drop w)=RD at *
     generalize au r=RR at *
     generalize hM:μ++[some (ks.map kD)]=M at *
     simp[s1,ec,gC,s2]
     exact⟨hnc,hLT⟩
   generalize hSR:au (iZ w L.length L ks.length)=SR at *
   have est':(MC (jU (ak 3) (jU (ak 5) (aC))) oTup) [some (.lst (L.map au)),some (.cell μ.length),some (.int aa),some LR,some (.int ww),some EL,o6,o7,o8,o9] (μ++[some (ks.map kD)])=some (SR,μ++[some (ks.map kD)]):=est
   generalize hMC:MC (jU (ak 3) (jU (ak 5) (aC))) oTup=MCC at *
   rw[<-haa]
   generalize L.map au=LD at *
   generalize hM:μ++[some (ks.map kD)]=M at *
   generalize cU 0 L.length=I at *
   generalize ((List.range L.length).map λk=>if k=ks.length then(1:Int)else 0).map D.int=ELL at *
   simp[l1,l2,rr,zI,cu,ee,hEL,est',esrc]
   refine inner _ λr o7' o8' hS hz=>?_
   show OkI (TL _ _) (Q:=_)
   refine(hrow r o7' o8' hS hz).mono λq hq=>?_
   obtain⟨fl,δ',μ''⟩:=q
   rcases hq with⟨h1',h2'⟩|⟨t,h1',h2',h3',h4'⟩
   .dsimp only at h1' h2'
    subst h1'
    exact h2'
   .dsimp only at h1' h4'
    subst h1' h4'
    exact⟨⟨_,hM.symm⟩,h2',h3'⟩
  .rintro δ μ' ⟨ks,o2,o3,o4,o5,o6,o7,o8,o9,hi,hkl,hK,hSz,rfl,rfl⟩
   have ha:ks.length=L.length:=by
    rcases Nat.lt_or_ge ks.length L.length with w1|w1
    .rw[lz w1]at hi;cases hi
    .omega
   have hkw:=yR hK
   have hw4:=hL.w4
   obtain⟨cs,c1,c2,c3,c4⟩:=Ao hK (by omega)
   simp
   exact⟨by simp[nc,cLt],.inl ⟨rfl,by omega,cs,by omega,c2,c3,c4⟩⟩
 exact key
theorem zy{f:Int->List Int->Int}(a:List Int)(b:List (List Int))(h:a.length=b.length):((a.zip b).map λp=>f p.1 p.2).sum=di b.length λk=>f (G0 a k) (b.getD k []):=by
 unfold di
 congr 1
 apply List.ext_getElem
 .simp[h]
 .intro i h1 h2
  have i1:i<a.length:=by simp at h1;omega
  have i2:i<b.length:=by omega
  simp[G0,List.getD,i1,i2]
theorem JX{d:Nat}{ps:List (List Int)}(G:Geo d ps){m t:List Int}{g s:Int}(hrel:∀c<d+1,di ps.length (λk=>G0 m k*G0 (ps.getD k []) c)=0)(hg:0<g)(ht:t.length=ps.length)(e:∀k<ps.length,g*G0 t k=s*(G0 m k*bu (ps.getD k []))):(zW (d+1) ps t).any (λn=>n != 0)=false:=by
 rw[List.any_eq_false]
 intro x hx
 obtain⟨i,hi,rfl⟩:=Zq.mp hx
 have hi:=List.mem_range.mp hi
 obtain⟨M1,M2,M3⟩:=mV G.rows
 have hd:=xP (M:=fJ ps) (i:=i) ps t
 rw[<-hd,zy (f:=λx r=>x*r.getD i 0*(fJ ps).fdiv (bu r)) t ps ht]
 generalize hM:fJ ps=M at *
 have key:g*di ps.length (λk=>G0 t k*(ps.getD k []).getD i 0*M.fdiv (bu (ps.getD k [])))=0:=by
  have h0:s*M*di ps.length (λk=>G0 m k*G0 (ps.getD k []) i)=0:=by rw[hrel i hi,Int.mul_zero]
  refine Eq.trans ?_ h0
  rw[<-lO,<-lO]
  refine dI λk hk=>?_
  have hm:ps.getD k []∈ps:=by
   simp only[List.getD,List.getElem?_eq_getElem hk,Option.getD_some]
   exact List.getElem_mem _
  have e:=e k hk
  generalize hr:ps.getD k []=r at *
  have hb:=(G.rows r hm).b1
  have hq:bu r*M.fdiv (bu r)=M:=by
   obtain⟨q,hq⟩:=M2 r hm
   rw[hq,Int.mul_fdiv_cancel_left _ (by omega)]
  show g*(G0 t k*G0 r i*M.fdiv (bu r))=s*M*(G0 m k*G0 r i)
  generalize M.fdiv (bu r)=q at *
  generalize bu r=b at *
  generalize G0 r i=p at *
  generalize G0 t k=x at *
  generalize G0 m k=y at *
  subst hq
  have:g*(x*p*q)=g*x*(p*q):=by grind
  rw[this,e]
  grind
 have:=(Int.mul_eq_zero.mp key).resolve_left (by omega)
 simpa using this
theorem JK{v:List Int}(h:aW 0 v≠0):aW 0 (jl v)=1:=by
 have e:v=(jl v).map (((aW 0 v:Nat):Int) * ·):=by
  unfold jl
  rw[List.map_map]
  conv=>lhs;rw[<-List.map_id v]
  refine List.map_congr_left λn hn=>?_
  obtain⟨q,hq⟩:=(gw v 0).1 n hn
  show n=(aW 0 v:Nat)*n.fdiv (aW 0 v:Nat)
  conv=>rhs;rw[hq]
  rw[Int.mul_fdiv_cancel_left _ (by omega),<-hq]
 have:=jE (aW 0 v:Nat) (jl v) 0
 rw[<-e,Nat.mul_zero,Int.natAbs_natCast]at this
 exact Nat.eq_of_mul_eq_mul_left (Nat.pos_of_ne_zero h) (by omega)
def Bm(v:List Int):Prop:=∃c,c<v.length/\0<G0 v c/\∀i<c,G0 v i=0
def TT(d:Nat)(ps:List (List Int))(t:D):Prop:=
 (t= .non/\ps.length<=d+1/\∃cs:List Nat,cs.length=ps.length/\(∀c∈cs,c<d+1)/\cs.Pairwise (· < ·)/\dtX (XL ps) cs≠0)∨
 ∃v:List Int,t=au v/\v.length=ps.length/\(∀x∈v,Sm 300 x)/\aW 0 v=1/\Bm v/\lU (d+1) ps v=true/\∀cs:List Nat,cs.length=ps.length->(∀c∈cs,c<d+1)->dtX (XL ps) cs=0
def wC(φ:FF):Prop:=(∀μ,il μ->φ [.lst []] μ=some (.non,μ))/\∀(d:Nat)(ps:List (List Int))(μ:Mu),Geo d ps->il μ->∃t,φ [.lst (ps.map au)] μ=some (t,μ)/\TT d ps t
theorem wJ{f:Int->Int}{v:List Int}{k:Nat}(h:k<v.length):G0 (v.map f) k=f (G0 v k):=by
 unfold G0
 simp[List.getD,h]
theorem FQ{v:List Int}{k:Nat}(h:k<v.length):G0 v k∈v:=by
 unfold G0
 simp[List.getD,h]
theorem yq{φ1 φ2 φ3:FF}(h1:pg φ1):∀μ,il μ->trunc (aG 4 (oU φ1 φ2 φ3)) [.lst []] μ=some (.non,μ):=λμ hm=>by
 obtain⟨t,e,hT⟩:=h1 [] 1 μ ⟨by decide,by decide,λl h=>by simp at h,λl h=>by simp at h,by simp⟩ hm
 have ht:t= .non:=by
  rcases hT with h|⟨m,_,_,_,⟨a,ha,_⟩,_⟩
  .exact h.1
  .simp at ha
 subst ht
 apply bC
 have e:φ1 [.lst []] μ=some (.non,μ):=e
 unfold oU
 simp[e,gC]
theorem zT{φ1 φ2 φ3:FF}(h1:pg φ1)(h2:wX φ2)(h3:Cv φ3):wC (trunc (aG 4 (oU φ1 φ2 φ3))):=⟨yq h1,λd ps μ G hm=>by
 have hd2:=G.d2
 have hd1:=G.d1
 have hl60:=G.len
 obtain⟨t,e,hT⟩:=h1 ps (d+1) μ ⟨by omega,by omega,λl h=>(G.rows l h).len,λl h x hx=>nH 10001 (by have:=(G.rows l h).sm x hx;omega) (by decide),hl60⟩ hm
 rcases hT with⟨rfl,hn⟩|⟨m,rfl,ml,ms,⟨a,ha,ha0⟩,hrel,hz⟩
 .refine⟨.non,bC ?_,.inl ⟨rfl,hn⟩⟩
  generalize D.lst (ps.map au)=A at *
  unfold oU
  simp[e,gC]
 .have hmem:∀k,k<ps.length->ps.getD k []∈ps:=λk hk=>by
   simp only[List.getD,List.getElem?_eq_getElem hk,Option.getD_some]
   exact List.getElem_mem _
  generalize hv:(m.zip ps).map (λp=>p.1*bu p.2)=v
  have vl:v.length=ps.length:=by rw[<-hv];simp[ml]
  have vk:∀k<ps.length,G0 v k=G0 m k*bu (ps.getD k []):=λk hk=>by
   have k1:k<m.length:=by omega
   rw[<-hv]
   have hz':(m.zip ps)[k]? =some (m[k],ps[k]):=by
    rw[List.getElem?_eq_getElem (show k<(m.zip ps).length by simp;omega)];simp
   simp only[G0,List.getD,List.getElem?_map,hz',Option.map_some,Option.getD_some,List.getElem?_eq_getElem k1,List.getElem?_eq_getElem hk]
  have vs:∀x∈v,Sm 246 x:=λx hx=>by
   rw[<-hv]at hx
   obtain⟨p,hp,rfl⟩:=Zq.mp hx
   have hmm:=List.of_mem_zip hp
   have hrow:=G.rows _ hmm.2
   have b1:=hrow.b1
   have b2:=hrow.b2
   exact bZ (fL (ms _ hmm.1) (nH (b:=6) 64 (by omega) (by decide))) (by decide)
  have va:G0 v a≠0:=by
   rw[vk a ha]
   exact Int.mul_ne_zero ha0 (by have:=(G.rows _ (hmem a ha)).b1;omega)
  have hva:=FQ (v:=v) (k:=a) (by omega)
  have hg0:aW 0 v≠0:=gk (.inr ⟨_,hva,va⟩)
  have e1:=dC (all:=(m.zip ps).map λp=>D.tup [.int p.1,au p.2]) (h:=jh 2 (bG (hName 0) (bG (hName 1) (jf)))) (fe:=M2 (ak 0) (M2 (ak 1) (M1 (mC (.int 1)) ie) oIx) eG) (δb:=[none,none]) (F:=λp:Int×List Int=>D.tup [.int p.1,au p.2]) (f:=λp=>.int (p.1*bu p.2)) (μ:=μ) (m.zip ps) λp hp=>by
   obtain⟨x,r⟩:=p
   have hmm:=List.of_mem_zip hp
   have hrow:=G.rows r hmm.2
   have hlast:=pH hrow (by omega)
   have b1:=hrow.b1
   have b2:=hrow.b2
   have em:=cg (x:=x) (y:=bu r) μ (ms _ hmm.1) (nH (b:=6) 64 (by omega) (by decide)) (by decide)
   refine⟨[some (.int x),some (au r)],by simp,?_⟩
   dsimp only
   simp[hlast,em]
  have e1':(m.zip ps).map (λp=>D.int (p.1*bu p.2))=v.map D.int:=by rw[<-hv,List.map_map];rfl
  rw[e1']at e1
  have ez:=mD (F:=D.int) (G:=au) m ps
  have e2:=h2 v μ hg0 (by
   have q1:=Df (g:=0) hva va
   have q2:=bZ (vs _ hva) (show 246<=8000 by decide)
   unfold Sm at *;omega) (by omega)
  have e2r:D.tup (v.map λn=>.int (n.fdiv (aW 0 v:Nat)))=au (jl v):=by unfold au jl;rw[List.map_map];rfl
  rw[e2r]at e2
  obtain⟨g,hg,hgg,hgk⟩:=GZ hva va
  have nl:(jl v).length=ps.length:=by rw[Hx,vl]
  have ns:∀x∈jl v,Sm 246 x:=λx hx=>by
   obtain⟨y,hy,rfl⟩:=Zq.mp hx
   exact pF (vs y hy) (by omega)
  have hg1:=JK hg0
  generalize jl v=n at *
  have na:G0 n a≠0:=λz=>va (by rw[hgk,z,Int.mul_zero])
  rcases h3 n μ with⟨c,c1,c2,c3,ec⟩|⟨hzero,_⟩
  .have hix:oIx (au n) (.int (c:Int)) μ=some (.int (G0 n c),μ):=(pB c1 μ).1
   obtain⟨s,hs⟩:∃s:Int,s=sgn (G0 n c):=⟨_,rfl⟩
   have hs1:=Hh (G0 n c)
   rw[<-hs]at hs1
   have hsp:0<s*G0 n c:=by
    rw[hs];unfold sgn
    split<;>omega
   have hgen:yc ((n.map D.int).map (thG (hName 0) (M2 (ak 1) (ak 0) eG) [none,some (.int s)])) μ=some ((n.map (s * ·)).map D.int,μ):=by
    have:=uL (μ:=μ) (th:=thG (hName 0) (M2 (ak 1) (ak 0) eG) [none,some (.int s)]) (f:=λd=>match d with| .int x=>.int (s*x)|_=>.non) (n.map D.int) λd hd=>by
     obtain⟨x,hx,rfl⟩:=Zq.mp hd
     have:=cg (x:=s) (y:=x) (a:=1) (b:=246) μ (by unfold Sm;rcases hs1 with h|h<;>rw[h]<;>decide) (ns x hx) (by decide)
     simp[thG,cu,this]
    rw[this,List.map_map,List.map_map]
    rfl
   refine⟨au (n.map (s * ·)),bC ?_,.inr ⟨n.map (s * ·),rfl,by simp[nl],λx hx=>?_,?_,⟨c,by simpa using c1,?_,λi hi=>?_⟩,?_,hz⟩⟩
   .have hzl:(m.zip ps).length<=sizeLine:=szl (by simp;omega)
    have hnl:(n.map D.int).length<=sizeLine:=szl (by simp;omega)
    have f1:bO (au m)=some (m.map D.int):=rfl
    have hN:gC (au m)=false:=rfl
    have f2:bO (.lst (ps.map au))=some (ps.map au):=rfl
    have f3:bO (au n)=some (n.map D.int):=rfl
    have hzl:((m.zip ps).map λp=>D.tup [.int p.1,au p.2]).length<=sizeLine:=by rw[Zu];exact hzl
    have hsrc:srcOf (au n) μ=some ⟨n.map D.int,none⟩:=rfl
    have hre:au (n.map (s * ·))= .tup ((n.map (s * ·)).map D.int):=rfl
    rw[hre]
    have hif:(if 0<G0 n c then(D.int 1)else D.int (-1))=D.int s:=by rw[hs];unfold sgn;split<;>rfl
    generalize (m.zip ps).map (λp=>D.tup [.int p.1,au p.2])=Z at *
    generalize (n.map (s * ·)).map D.int=OUT at *
    generalize v.map D.int=V at *
    generalize n.map D.int=N at *
    generalize m.map D.int=MM at *
    generalize au m=RM at *
    generalize au n=RN at *
    generalize ps.map au=PS at *
    generalize (c:Int)=cc at *
    generalize G0 n c=x at *
    unfold oU
    by_cases hp:0<x
    .have hs':s=1:=by rw[if_pos hp]at hif;cases hif;rfl
     subst hs'
     simp[e,hN,f1,f2,ez,hzl,cu,e1,e2,ec,hix,hp,hsrc,hnl,hgen]
    .have hs':s= -1:=by rw[if_neg hp]at hif;cases hif;rfl
     subst hs'
     simp[e,hN,f1,f2,ez,hzl,cu,e1,e2,ec,hix,hp,hsrc,hnl,hgen]
   .obtain⟨y,hy,rfl⟩:=Zq.mp hx
    exact bZ (Ff hs1 (ns y hy)) (by decide)
   .have:=jE s n 0
    have hsa:s.natAbs=1:=by rcases hs1 with h|h<;>rw[h]<;>rfl
    rw[hsa]at this
    simpa[hg1]using this
   .rw[wJ c1];exact hsp
   .rw[wJ (by omega),c3 i hi,Int.mul_zero]
   .have tl:(n.map (s * ·)).length=ps.length:=by simp[nl]
    have tz:=JX G (t:=n.map (s * ·)) (g:=g) (s:=s) hrel hg tl λk hk=>by
     rw[wJ (by omega),<-vk k hk,hgk k]
     grind
    unfold lU
    rw[tz,tl]
    have hany:(n.map (s * ·)).any (λn=>n != 0)=true:=List.any_eq_true.mpr ⟨s*G0 n c,Zq.mpr ⟨_,FQ c1,rfl⟩,by simpa[bne]using(show s*G0 n c≠0 by omega)⟩
    simp only[hany,Bool.not_false,Bool.and_true,beq_self_eq_true]
  .exact absurd (hzero a (by omega)) na⟩
def rC(y:List Int):Int:=(y.filter (λn=>n != 0)).headD 0
def nq(y:List Int):Int:=if rC y<0 then -1 else 1
def gD(y:List Int):List Int:=y.map λn=>n.fdiv (nq y*(aW 0 y:Nat))
def Hq(x y:List Int):Prop:=∀i j,G0 x i*G0 y j=G0 x j*G0 y i
theorem kE{x:List Int}{i:Nat}(h:x.length<=i):G0 x i=0:=by
 unfold G0
 simp[List.getD,h]
theorem rN{k:Int}{x:List Int}(i:Nat):G0 (x.map (k * ·)) i=k*G0 x i:=by
 by_cases h:i<x.length
 .exact wJ h
 .rw[kE (by simp;omega),kE (by omega),Int.mul_zero]
theorem xq{x y:List Int}(hl:x.length=y.length)(h:∀i<x.length,G0 x i=G0 y i):x=y:=by
 apply List.ext_getElem hl
 intro i h1 h2
 have:=h i h1
 unfold G0 at this
 simpa[List.getD,h1,h2]using this
theorem sO(k:Int)(x:List Int):aW 0 (x.map (k * ·))=k.natAbs*aW 0 x:=by
 have:=jE k x 0
 rwa[Nat.mul_zero]at this
theorem uG{x y:List Int}(hl:y.length=x.length)(hg:aW 0 x=1)(hf:Bm x)(hy:∃n∈y,n≠0)(hp:Hq x y):∃k:Int,k≠0/\y=x.map (k * ·):=by
 obtain⟨c,hc,c0,c1⟩:=hf
 have h1:y.map (G0 x c * ·)=x.map (G0 y c * ·):=xq (by simp[hl]) λi hi=>by
  rw[rN,rN,Int.mul_comm (G0 y c)]
  exact hp c i
 have h2:=congrArg (aW 0) h1
 rw[sO,sO,hg,Nat.mul_one]at h2
 have hg0:aW 0 y≠0:=gk (.inr hy)
 have key:∀k:Int,k≠0->G0 y c=k*G0 x c->∃k:Int,k≠0/\y=x.map (k * ·):=λk hk e=>by
  refine⟨k,hk,xq (by simp[hl]) λi hi=>?_⟩
  rw[rN]
  have:=hp i c
  rw[e]at this
  have e2:G0 x c*(G0 y i-k*G0 x i)=0:=by
   have:G0 x i*(k*G0 x c)=G0 x c*G0 y i:=this
   rw[Int.mul_sub,<-this]
   have:G0 x c*(k*G0 x i)=G0 x i*(k*G0 x c):=by grind
   rw[this,Int.sub_self]
  have:=(Int.mul_eq_zero.mp e2).resolve_left (by omega)
  omega
 have hx:((G0 x c).natAbs:Int)=G0 x c:=by omega
 rcases Int.natAbs_eq (G0 y c)with e|e
 .refine key (aW 0 y:Nat) (by omega) ?_
  rw[e,<-h2,Int.natCast_mul,hx,Int.mul_comm]
 .refine key (-(aW 0 y:Nat)) (by omega) ?_
  rw[e,<-h2,Int.natCast_mul,hx,Int.mul_comm,Int.neg_mul]
theorem oO{a:Int}{l:List Int}:rC (a::l)=if a=0 then rC l else a:=by
 unfold rC
 rw[List.filter_cons]
 by_cases h:a=0
 .rw[if_neg (by simp[h]),if_pos h]
 .rw[if_pos (by simpa using h),if_neg h];rfl
theorem yf{k:Int}(hk:k≠0):∀(x:List Int),rC (x.map (k * ·))=k*rC x
 | []=>by simp[rC]
 |a::l=>by
  rw[Zj,oO,oO,yf hk l]
  by_cases h:a=0
  .simp[h]
  .rw[if_neg h,if_neg (by simp[h,hk])]
theorem Cq:∀{x:List Int},Bm x->0<rC x
 | [],⟨c,h,_⟩=>by simp at h
 |a::l,⟨0,_,h,_⟩=>by
  have h:0<a:=h
  rw[oO,if_neg (by omega)];exact h
 |a::l,⟨c+1,h1,h2,h3⟩=>by
  have h0:a=0:=h3 0 (by omega)
  rw[oO,if_pos h0]
  exact Cq ⟨c,by simpa using h1,h2,λi hi=>h3 (i+1) (by omega)⟩
theorem vd{x:List Int}{k:Int}(hk:k≠0)(hg:aW 0 x=1)(hf:Bm x):gD (x.map (k * ·))=x:=by
 unfold gD
 rw[sO,hg,Nat.mul_one]
 have hp:=Cq hf
 have hs:nq (x.map (k * ·))*(k.natAbs:Int)=k:=by
  unfold nq
  rw[yf hk]
  by_cases h:0<k
  .have:¬k*rC x<0:=by have:=Int.mul_pos h hp;omega
   rw[if_neg this];omega
  .have:k*rC x<0:=Int.mul_neg_of_neg_of_pos (by omega) hp
   rw[if_pos this];omega
 rw[hs,List.map_map]
 conv=>rhs;rw[<-List.map_id x]
 exact List.map_congr_left λn _=>Int.mul_fdiv_cancel_left n hk
def Rel(d:Nat)(ps:List (List Int))(m:Nat->Int):Prop:=∀c<d+1,di ps.length (λk=>m k*G0 (ps.getD k []) c)=0
def wN(d:Nat)(ps:List (List Int))(k:Nat):Int:=sgI k*fV (d+1) (ps.eraseIdx k)
def dm(d:Nat)(ps:List (List Int)):List Int:=(List.range ps.length).map λk=>wN d ps k*bu (ps.getD k [])
theorem wj{f:Nat->Int}{j:Nat}:∀{n:Nat},j<=n->f j=0->di (n+1) f=di n (λk=>if k<j then f k else f (k+1))
 |0,h,h0=>by
  have:j=0:=by omega
  subst this
  rw[bL,cN,cN,h0,Int.add_zero]
 |n+1,h,h0=>by
  rw[bL]
  by_cases hj:j<=n
  .rw[wj hj h0,bL,if_neg (by omega:¬n<j)]
  .have:j=n+1:=by omega
   subst this
   rw[h0,Int.add_zero]
   exact dI λi hi=>by rw[if_pos (by omega)]
theorem Er{ps:List (List Int)}{j k:Nat}:(ps.eraseIdx j).getD k []=if k<j then ps.getD k []else ps.getD (k+1) []:=by
 simp only[List.getD,List.getElem?_eraseIdx]
 split<;>rfl
theorem Do{d:Nat}{ps:List (List Int)}(hd:d<=3)(hl:ps.length=d+2)(hr:∀p∈ps,p.length=d+1){m w:Nat->Int}(hm:Rel d ps m)(hw:Rel d ps w){j:Nat}(hj:j<d+2)(hdet:fV (d+1) (ps.eraseIdx j)≠0):∀i<d+2,m i*w j=m j*w i:=by
 have hv:Rel d ps λi=>w j*m i-m j*w i:=λc hc=>by
  have:=pJ (w j) (m j) (λk=>m k*G0 (ps.getD k []) c) (λk=>w k*G0 (ps.getD k []) c) ps.length
  rw[hm c hc,hw c hc,Int.mul_zero,Int.mul_zero,Int.sub_zero]at this
  rw[<-this]
  exact dI λk _=>by grind
 have hel:(ps.eraseIdx j).length=d+1:=by rw[List.length_eraseIdx,if_pos (by omega)];omega
 have hL:∀c<d+1,di (List.range (d+1)).length (λk=>(λk=>if k<j then w j*m k-m j*w k else w j*m (k+1)-m j*w (k+1)) k*XL (ps.eraseIdx j) k c)=0:=λc hc=>by
  have h:=hv c hc
  rw[hl,wj (j:=j) (by omega) (by show(w j*m j-m j*w j)*_=0;rw[Int.mul_comm (w j),Int.sub_self,Int.zero_mul])]at h
  rw[List.length_range,<-h]
  refine dI λk _=>?_
  show _*G0 ((ps.eraseIdx j).getD k []) c=_
  rw[Er]
  split<;>rename_i hh<;>simp only[hh,if_true,if_false]
 have hD:dtX (XL (ps.eraseIdx j)) (List.range (d+1))=fV (d+1) (ps.eraseIdx j):=by
  have:=Dl (ps.eraseIdx j) (List.range (d+1)) (by rw[List.length_range,hel]) (by omega)
  rw[<-this,hel]
  congr 1
  conv=>rhs;rw[<-List.map_id (ps.eraseIdx j)]
  refine List.map_congr_left λp hp=>?_
  have:=hr p (List.mem_of_mem_eraseIdx hp)
  exact xq (by simp[this]) λi hi=>by
   have hi:i<d+1:=by simpa using hi
   unfold G0
   simp[List.getD,hi]
 have hz:∀a<d+1,(if a<j then w j*m a-m j*w a else w j*m (a+1)-m j*w (a+1))=0:=λa ha=>by
  by_cases h0:(if a<j then w j*m a-m j*w a else w j*m (a+1)-m j*w (a+1))=0
  .exact h0
  .have:=CT (X:=XL (ps.eraseIdx j)) (m:=λk=>if k<j then w j*m k-m j*w k else w j*m (k+1)-m j*w (k+1)) (w:=d+1) (a:=a) (List.range (d+1)) (by rw[List.length_range];exact ha) h0 hL (λc hc=>List.mem_range.mp hc)
   rw[hD]at this
   exact absurd this hdet
 intro i hi
 rcases Nat.lt_trichotomy i j with h|h|h
 .have:=hz i (by omega)
  rw[if_pos h]at this
  have:w j*m i=m j*w i:=by omega
  rw[Int.mul_comm,this]
 .subst h;rfl
 .have:=hz (i-1) (by omega)
  rw[if_neg (by omega),show i-1+1=i by omega]at this
  have:w j*m i=m j*w i:=by omega
  rw[Int.mul_comm,this]
theorem Qp{p:List Int}(h:p.length=2):∃a b,p=[a,b]:=by
 match p,h with
 | [a,b],_=>exact⟨a,b,rfl⟩
theorem JZ{p:List Int}(h:p.length=3):∃a b c,p=[a,b,c]:=by
 match p,h with
 | [a,b,c],_=>exact⟨a,b,c,rfl⟩
theorem Gi{p:List Int}(h:p.length=4):∃a b c d,p=[a,b,c,d]:=by
 match p,h with
 | [a,b,c,d],_=>exact⟨a,b,c,d,rfl⟩
theorem Rw{d:Nat}{ps:List (List Int)}(hd:d<=3)(d1:1<=d)(hl:ps.length=d+2)(hr:∀p∈ps,p.length=d+1):Rel d ps (wN d ps):=by
 have h3:d=1∨d=2∨d=3:=by omega
 rcases h3 with rfl|rfl|rfl
 .match ps,hl with
  | [p,q,r],_=>
   obtain⟨a,b,rfl⟩:=Qp (hr p (by simp))
   obtain⟨c,e,rfl⟩:=Qp (hr q (by simp))
   obtain⟨f,g,rfl⟩:=Qp (hr r (by simp))
   intro k hk
   have hk:k=0∨k=1:=by omega
   rcases hk with rfl|rfl<;>simp[di,wN,sgI,G0,zr,D2,List.range_succ]<;>grind
 .match ps,hl with
  | [p,q,r,s],_=>
   obtain⟨a1,a2,a3,rfl⟩:=JZ (hr p (by simp))
   obtain⟨b1,b2,b3,rfl⟩:=JZ (hr q (by simp))
   obtain⟨c1,c2,c3,rfl⟩:=JZ (hr r (by simp))
   obtain⟨e1,e2,e3,rfl⟩:=JZ (hr s (by simp))
   intro k hk
   have hk:k=0∨k=1∨k=2:=by omega
   rcases hk with rfl|rfl|rfl<;>simp[di,wN,sgI,G0,uZ,D3,D2,List.range_succ]<;>grind
 .match ps,hl with
  | [p,q,r,s,t],_=>
   obtain⟨a1,a2,a3,a4,rfl⟩:=Gi (hr p (by simp))
   obtain⟨b1,b2,b3,b4,rfl⟩:=Gi (hr q (by simp))
   obtain⟨c1,c2,c3,c4,rfl⟩:=Gi (hr r (by simp))
   obtain⟨e1,e2,e3,e4,rfl⟩:=Gi (hr s (by simp))
   obtain⟨f1,f2,f3,f4,rfl⟩:=Gi (hr t (by simp))
   intro k hk
   have hk:k=0∨k=1∨k=2∨k=3:=by omega
   rcases hk with rfl|rfl|rfl|rfl<;>simp[di,wN,sgI,G0,MP,D4,D3,D2,List.range_succ]<;>grind
def mT(ps:List (List Int))(v:List Int)(k:Nat):Int:=G0 v k*(fJ ps).fdiv (bu (ps.getD k []))
theorem uK{d:Nat}{ps:List (List Int)}{v:List Int}(hl:v.length=ps.length):lU (d+1) ps v=true↔(∃n∈v,n≠0)/\Rel d ps (mT ps v):=by
 unfold lU
 rw[hl]
 simp only[beq_self_eq_true,Bool.true_and,Zo,Bool.not_eq_true',List.any_eq_true,bne_iff_ne]
 have e:∀i<d+1,dot (wts (fJ ps) ps v) (col ps i)=di ps.length (λk=>mT ps v k*G0 (ps.getD k []) i):=λi _=>by
  have hd:=xP (M:=fJ ps) (i:=i) ps v
  rw[<-hd,zy (f:=λx r=>x*r.getD i 0*(fJ ps).fdiv (bu r)) v ps hl]
  refine dI λk _=>?_
  show G0 v k*G0 (ps.getD k []) i*(fJ ps).fdiv (bu (ps.getD k []))=G0 v k*(fJ ps).fdiv (bu (ps.getD k []))*G0 (ps.getD k []) i
  rw[Int.mul_assoc,Int.mul_assoc,Int.mul_comm (G0 (ps.getD k []) i)]
 refine⟨λ⟨h1,h2⟩=>⟨h1,λc hc=>?_⟩,λ⟨h1,h2⟩=>⟨h1,?_⟩⟩
 .rw[<-e c hc]
  have:=List.any_eq_false.mp h2 (dot (wts (fJ ps) ps v) (col ps c)) (Zq.mpr ⟨c,List.mem_range.mpr hc,rfl⟩)
  simpa using this
 .rw[List.any_eq_false]
  intro x hx
  obtain⟨i,hi,rfl⟩:=Zq.mp hx
  rw[e i (List.mem_range.mp hi),h2 i (List.mem_range.mp hi)]
  simp
structure Pl(d:Nat)(ps:List (List Int)):Prop where
 geo:Geo d ps
 len:ps.length=d+2
 det:∀k<d+2,fV (d+1) (ps.eraseIdx k)≠0
theorem qH{d:Nat}{ps:List (List Int)}(G:Geo d ps){v:List Int}{k:Nat}(hk:k<ps.length):G0 v k*fJ ps=mT ps v k*bu (ps.getD k []):=by
 have hm:ps.getD k []∈ps:=by
  simp only[List.getD,List.getElem?_eq_getElem hk,Option.getD_some]
  exact List.getElem_mem _
 obtain⟨M1,M2,M3⟩:=mV G.rows
 have hb:=(G.rows _ hm).b1
 obtain⟨q,hq⟩:=M2 _ hm
 unfold mT
 rw[hq,Int.mul_fdiv_cancel_left _ (by omega)]
 grind
theorem Ga{d:Nat}{ps:List (List Int)}(P:Pl d ps){v t:List Int}(hv:v.length=ps.length)(ht:t.length=ps.length)(rv:Rel d ps (mT ps v))(rt:Rel d ps (mT ps t)):Hq v t:=λi j=>by
 have G:=P.geo
 have hd:=G.d2
 have hl:=P.len
 by_cases hi:i<d+2
 .by_cases hj:j<d+2
  .have e:=Do hd hl (λp hp=>(G.rows p hp).len) rv rt hj (P.det j hj) i hi
   have e1:=qH G (v:=v) (k:=i) (by omega)
   have e2:=qH G (v:=v) (k:=j) (by omega)
   have e3:=qH G (v:=t) (k:=i) (by omega)
   have e4:=qH G (v:=t) (k:=j) (by omega)
   have hM:0<fJ ps:=(mV G.rows).1
   have h0:fJ ps*fJ ps*(G0 v i*G0 t j-G0 v j*G0 t i)=0:=by
    generalize fJ ps=M at *
    generalize G0 v i=a at *
    generalize G0 v j=b at *
    generalize G0 t i=c at *
    generalize G0 t j=f at *
    generalize mT ps v i=m1 at *
    generalize mT ps v j=m2 at *
    generalize mT ps t i=m3 at *
    generalize mT ps t j=m4 at *
    generalize bu (ps.getD i [])=x at *
    generalize bu (ps.getD j [])=y at *
    have h1:M*M*(a*f)=(a*M)*(f*M):=by grind
    have h2:M*M*(b*c)=(b*M)*(c*M):=by grind
    rw[Int.mul_sub,h1,h2,e1,e2,e3,e4]
    have:m1*x*(m4*y)=(m1*m4)*(x*y):=by grind
    rw[this,e]
    grind
   have:=(Int.mul_eq_zero.mp h0).resolve_left (Int.ne_of_gt (Int.mul_pos hM hM))
   omega
  .rw[kE (x:=t) (i:=j) (by omega),kE (x:=v) (i:=j) (by omega)];simp
 .rw[kE (x:=t) (i:=i) (by omega),kE (x:=v) (i:=i) (by omega)];simp
theorem wG{d:Nat}{ps:List (List Int)}{k:Nat}(hk:k<ps.length):G0 (dm d ps) k=wN d ps k*bu (ps.getD k []):=by
 unfold G0 dm
 simp[List.getD,hk]
theorem Hz{d:Nat}{ps:List (List Int)}(P:Pl d ps){v:List Int}(hv:v.length=ps.length)(rv:Rel d ps (mT ps v)):Hq v (dm d ps):=λi j=>by
 have G:=P.geo
 have hd:=G.d2
 have hl:=P.len
 have hml:(dm d ps).length=ps.length:=by unfold dm;simp
 by_cases hi:i<d+2
 .by_cases hj:j<d+2
  .have e:=Do hd hl (λp hp=>(G.rows p hp).len) rv (Rw hd G.d1 hl λp hp=>(G.rows p hp).len) hj (P.det j hj) i hi
   have e1:=qH G (v:=v) (k:=i) (by omega)
   have e2:=qH G (v:=v) (k:=j) (by omega)
   have hM:0<fJ ps:=(mV G.rows).1
   rw[wG (by omega),wG (by omega)]
   have h0:fJ ps*(G0 v i*(wN d ps j*bu (ps.getD j []))-G0 v j*(wN d ps i*bu (ps.getD i [])))=0:=by
    generalize fJ ps=M at *
    generalize G0 v i=a at *
    generalize G0 v j=b at *
    generalize mT ps v i=m1 at *
    generalize mT ps v j=m2 at *
    generalize wN d ps i=w1 at *
    generalize wN d ps j=w2 at *
    generalize bu (ps.getD i [])=x at *
    generalize bu (ps.getD j [])=y at *
    have h1:M*(a*(w2*y)-b*(w1*x))=(a*M)*(w2*y)-(b*M)*(w1*x):=by grind
    rw[h1,e1,e2]
    have:m1*x*(w2*y)=(m1*w2)*(x*y):=by grind
    rw[this,e]
    grind
   have:=(Int.mul_eq_zero.mp h0).resolve_left (by omega)
   omega
  .rw[kE (x:=dm d ps) (i:=j) (by omega),kE (x:=v) (i:=j) (by omega)];simp
 .rw[kE (x:=dm d ps) (i:=i) (by omega),kE (x:=v) (i:=i) (by omega)];simp
theorem Aj{d:Nat}{ps:List (List Int)}(P:Pl d ps):∀n∈dm d ps,n≠0:=λn hn z=>by
 obtain⟨k,hk,rfl⟩:=Zq.mp hn
 have hk:=List.mem_range.mp hk
 have hm:ps.getD k []∈ps:=by
  simp only[List.getD,List.getElem?_eq_getElem hk,Option.getD_some]
  exact List.getElem_mem _
 have hb:=(P.geo.rows _ hm).b1
 have hd:=P.det k (by have:=P.len;omega)
 have hs:sgI k≠0:=by unfold sgI;split<;>decide
 rcases Int.mul_eq_zero.mp z with h|h
 .rcases Int.mul_eq_zero.mp h with h|h
  .exact hs h
  .exact hd h
 .omega
theorem NZ{d:Nat}{ps:List (List Int)}(P:Pl d ps){v:List Int}(hv:v.length=ps.length)(hg:aW 0 v=1)(hf:Bm v)(ht:lU (d+1) ps v=true):gD (dm d ps)=v/\∀n∈v,n≠0:=by
 have hml:(dm d ps).length=ps.length:=by unfold dm;simp
 have hl:=P.len
 have hne:∃n∈dm d ps,n≠0:=by
  cases e:dm d ps with
  |nil=>rw[e]at hml;simp at hml;omega
  |cons a b=>exact⟨a,by simp,Aj P a (by rw[e];simp)⟩
 obtain⟨k,hk,e⟩:=uG (by omega) hg hf hne (Hz P hv ((uK hv).mp ht).2)
 refine⟨by rw[e];exact vd hk hg hf,λn hn z=>?_⟩
 have:k*n∈dm d ps:=by rw[e];exact Zq.mpr ⟨n,hn,rfl⟩
 rw[z,Int.mul_zero]at this
 exact Aj P 0 this rfl
theorem Fw{t:List Int}(h0:∃n∈t,n≠0):∃k:Int,k≠0/\t=(gD t).map (k * ·):=by
 have hg:aW 0 t≠0:=gk (.inr h0)
 have hs:nq t=1∨nq t= -1:=by unfold nq;split<;>simp
 refine⟨nq t*(aW 0 t:Nat),λz=>?_,?_⟩
 .rcases Int.mul_eq_zero.mp z with h|h
  .rcases hs with h'|h'<;>omega
  .omega
 .unfold gD
  rw[List.map_map]
  conv=>lhs;rw[<-List.map_id t]
  refine List.map_congr_left λn hn=>?_
  obtain⟨q,hq⟩:=(gw t 0).1 n hn
  show n=nq t*(aW 0 t:Nat)*n.fdiv (nq t*(aW 0 t:Nat))
  have e:n=nq t*(aW 0 t:Nat)*(nq t*q):=by
   rcases hs with h'|h'<;>rw[h']<;>grind
  have hne:nq t*(aW 0 t:Nat)≠0:=λz=>by
   rcases Int.mul_eq_zero.mp z with h|h
   .rcases hs with h'|h'<;>omega
   .omega
  generalize nq t*(aW 0 t:Nat)=G at *
  generalize nq t*q=Q at *
  rw[e,Int.mul_fdiv_cancel_left _ hne]
theorem Gq{d:Nat}{ps:List (List Int)}(P:Pl d ps){v t:List Int}(hv:v.length=ps.length)(ht:t.length=ps.length)(hg:aW 0 v=1)(hf:Bm v)(hT:lU (d+1) ps v=true):
  lU (d+1) ps t=(t.any (λn=>n != 0)&&(gD t==v)):=by
 rw[Bool.eq_iff_iff,Zo,List.any_eq_true,uK ht]
 simp only[bne_iff_ne,beq_iff_eq]
 have rv:=((uK hv).mp hT).2
 refine⟨λ⟨h1,h2⟩=>⟨h1,?_⟩,λ⟨h1,h2⟩=>⟨h1,?_⟩⟩
 .obtain⟨k,hk,e⟩:=uG (by omega) hg hf h1 (Ga P hv ht rv h2)
  rw[e];exact vd hk hg hf
 .obtain⟨k,hk,e⟩:=Fw h1
  rw[h2]at e
  intro c hc
  have:=rv c hc
  have e2:∀i<ps.length,mT ps t i*G0 (ps.getD i []) c=k*(mT ps v i*G0 (ps.getD i []) c):=λi _=>by
   unfold mT
   rw[e,rN]
   grind
  rw[dI e2,lO,this,Int.mul_zero]
theorem wg(ns:List Int)(μ:Mu)(all:List D):lcL ⟨all,none⟩ (hName 0) (toB (M2 (ak 0) (mC (.int 0)) oNe)) (ak 0) [none] (ns.map D.int) μ=some ((ns.filter (λn=>n != 0)).map D.int,μ):=by
 rw[nY (p:=λd=>intOf d != 0) (f:=λd=>d) (ns.map D.int) λd hd=>by
  obtain⟨n,_,rfl⟩:=Zq.mp hd
  exact⟨[some (.int n)],by simp,by simp[intOf,bne],λ_=>by simp⟩]
 rw[List.filter_map,List.map_map]
 rfl
theorem Dn{φ:FF}(hφ:mq φ)(x:D)(all:List D):∀(ns:List Int)(g:Nat)(o:Option D)(μ:Mu),∃o',
  forL ⟨all,none⟩ (hName 2) (bh 1 (MC (ao (ak 1) (ao (ak 2) (aC))) φ)) (ns.map D.int) [some x,some (.int g),o] μ=some (.nx,[some x,some (.int (aW g ns:Nat)),o'],μ)
 | [],g,o,μ=>⟨o,by unfold forL;simp[bB,aW]⟩
 |n::ns,g,o,μ=>by
  obtain⟨o',e⟩:=Dn hφ x all ns (Int.gcd g n) (some (.int n)) μ
  refine⟨o',?_⟩
  rw[Zj]
  unfold forL
  have h2:aW g (n::ns)=aW (Int.gcd g n) ns:=rfl
  simp[bB,hφ g n,e,h2]
def iH(r:List Nat):Nat:=match r.getLast? with|some c=>c+1|none=>0
def uO(w:Nat)(r:List Nat):List (List Nat):=(List.range (w-iH r)).map λk=>r++[iH r+k]
def dq(w:Nat):Nat->List (List Nat)
 |0=>[[]]
 |j+1=>(dq w j).flatMap (uO w)
theorem Fe{r:List Nat}{w:Nat}(h:∀c∈r,c<w):iH r<=w:=by
 unfold iH
 cases e:r.getLast? with
 |none=>exact Nat.zero_le _
 |some c=>exact h c (List.mem_of_getLast? e)
theorem oM{w:Nat}:∀{j:Nat}{r:List Nat},r∈dq w j->r.length=j/\∀c∈r,c<w
 |0,r,h=>by
  have:r=[]:=by simpa[dq]using h
  subst this
  exact⟨rfl,λc h=>by cases h⟩
 |j+1,r,h=>by
  obtain⟨q,hq,hr⟩:=List.mem_flatMap.mp h
  obtain⟨k,hk,rfl⟩:=Zq.mp hr
  obtain⟨h1,h2⟩:=oM hq
  have hk:=List.mem_range.mp hk
  refine⟨by simp[h1],λc hc=>?_⟩
  rcases Zm.mp hc with z|z
  .exact h2 c z
  .rw[List.mem_singleton.mp z];omega
theorem tW{w:Nat}:∀(j:Nat)(cs:List Nat),cs.length=j->(∀c∈cs,c<w)->cs.Pairwise (· < ·)->cs∈dq w j
 |0,cs,h,_,_=>by
  rw[List.eq_nil_of_length_eq_zero h]
  simp[dq]
 |j+1,cs,h,hw,hp=>by
  rcases List.eq_nil_or_concat cs with rfl|⟨r,k,rfl⟩
  .simp at h
  .rw[List.concat_eq_append]at *
   obtain⟨p1,p2,p3⟩:=List.pairwise_append.mp hp
   have hr:=tW j r (by simpa using h) (λc hc=>hw c (by simp[hc])) p1
   refine List.mem_flatMap.mpr ⟨r,hr,Zq.mpr ?_⟩
   have hl:iH r<=k:=by
    unfold iH
    cases e:r.getLast? with
    |none=>exact Nat.zero_le _
    |some c=>exact p3 c (List.mem_of_getLast? e) k (by simp)
   have hk:=hw k (by simp)
   exact⟨k-iH r,List.mem_range.mpr (by omega),by rw[show iH r+(k-iH r)=k by omega]⟩
theorem yz{w:Nat}(hw:w<=8):∀j,(dq w j).length<=8 ^ j
 |0=>Zg _
 |j+1=>by
  have ih:=yz hw j
  have:∀L:List (List Nat),(L.flatMap (uO w)).length<=8*L.length:=λL=>by
   induction L with
   |nil=>simp
   |cons a L ih=>
    rw[List.flatMap_cons,List.length_append,List.length_cons]
    have:(uO w a).length<=8:=by unfold uO;simp;omega
    omega
  have:=this (dq w j)
  show((dq w j).flatMap (uO w)).length<=_
  rw[Nat.pow_succ];omega
theorem szl5{n:Nat}(h:n<=5000):n<=sizeLine:=Zl h (by decide)
def gb(r:List Nat):D:=au (r.map λc:Nat=>(c:Int))
def uA(φ:FF):Prop:=∀(w n:Nat)(μ:Mu),w<=8->n<=4->φ [.int (w:Int),.int (n:Int)] μ=some (.lst ((dq w n).map gb),μ)
@[simp] theorem w_lc2{own:List Str}{capI:List Nat}{fi1 fi2:IF}{h1 h2:GF}{t1 t2:TF}{fe:EF}{δ:En}{μ:Mu}:HR own capI fi1 h1 t1 fi2 h2 t2 fe δ μ=(fi1 δ μ).bind λr=>(uH r.1 h1 t1 fi2 h2 t2 fe (cu own δ capI) r.1.items r.2).bind λq=>if q.1.length<=sizeLine then some q else none:=rfl
theorem zE{α:Type}{all:List D}{fi2:IF}{h1 h2:GF}{fe:EF}{t2:TF}{δb:En}{F:α->D}{f:α->List D}{μ:Mu}:∀(l:List α),(∀x∈l,∃δ1 S2,h1 (F x) δb μ=some δ1/\fi2 δ1 μ=some (S2,μ)/\lcL S2 h2 t2 fe δ1 S2.items μ=some (f x,μ))->uH ⟨all,none⟩ h1 bU fi2 h2 t2 fe δb (l.map F) μ=some (l.flatMap f,μ)
 | [],_=>by simp only[List.map_nil];unfold uH;simp[bB]
 |d::r,hd=>by
  obtain⟨δ1,S2,e1,e2,e3⟩:=hd d (by simp)
  have h3:=zE (all:=all) r λx hx=>hd x (by simp[hx])
  rw[Zj]
  unfold uH
  simp[bB,bU,e1,e2,e3,h3]
theorem Bj{w:Nat}{r:List Nat}(hw:w<=8)(hr:∀c∈r,c<w)(hl:r.length<=4){μ:Mu}{ww:Int}(hww:ww=w):∃S2:Src,qO (ao (mIf (nu (ak 0)) (M2 (M2 (ak 0) (M1 (mC (.int 1)) ie) oIx) (mC (.int 1)) bW) (mC (.int 0))) (ao (ak 2) (aC))) [some (gb r),none,some (.int ww)] μ=some (S2,μ)/\
  lcL S2 (hName 1) bU (MC (jU (ak 0) (ao (ak 1) (aC))) oTup) [some (gb r),none,some (.int ww)] S2.items μ=some ((uO w r).map gb,μ):=by
 have hls:=Fe hr
 obtain⟨ss,hss⟩:∃ss:Int,ss=iH r:=⟨_,rfl⟩
 have r2':=rng2 (i:=ss) (j:=ww) (μ:=μ) (by omega) (by omega) (by omega) (by omega)
 rw[show(ww-ss).toNat=w-iH r by omega]at r2'
 refine⟨⟨cU ss (w-iH r),none⟩,?_,?_⟩
 .rcases List.eq_nil_or_concat r with rfl|⟨q,c,rfl⟩
  .have hs0:ss=0:=hss
   subst hs0
   have ht:rF (gb []) μ=some false:=rfl
   generalize gb []=NR at *
   apply yC
   simp[ht,r2']
  .rw[List.concat_eq_append]at *
   have hs1:ss=(c:Int)+1:=by rw[hss];unfold iH;simp
   have hix:oIx (gb (q++[c])) (.int (-1)) μ=some (.int (c:Int),μ):=by
    unfold gb au
    rw[xV]
    have:atI (((q++[c]).map λc:Nat=>(c:Int)).map D.int) (-1)=some (.int (c:Int)):=by
     rw[vG (by simp)]
     simp
    simp only[Mq,Option.bind_some,this,Option.map_some]
   have ht:rF (gb (q++[c])) μ=some true:=by unfold gb au;simp
   generalize gb (q++[c])=NR at *
   generalize (c:Int)=cc at *
   have hpl:bW (.int cc) (.int 1) μ=some (.int ss,μ):=by rw[hs1];rfl
   clear hs1
   apply yC
   simp[ht,hix,hpl,r2',-xV,-Sv]
 .have e:=dC (all:=cU ss (w-iH r)) (h:=hName 1) (fe:=MC (jU (ak 0) (ao (ak 1) (aC))) oTup) (δb:=[some (gb r),none,some (.int ww)]) (F:=λk:Nat=>D.int (ss+(k:Int))) (f:=λk=>gb (r++[iH r+k])) (μ:=μ) (List.range (w-iH r)) λk _=>by
   refine⟨[some (gb r),some (.int (ss+(k:Int))),some (.int ww)],by simp,?_⟩
   show(if((r.map λc:Nat=>(c:Int)).map D.int++[D.int (ss+(k:Int))]).length<=sizeLine then some (D.tup ((r.map λc:Nat=>(c:Int)).map D.int++[D.int (ss+(k:Int))]),μ)else none)=_
   rw[if_pos (szl (by simp;omega)),hss]
   unfold gb au
   simp
  refine(show lcL _ _ _ _ _ (cU ss (w-iH r)) μ=_ from e).trans ?_
  unfold uO
  rw[List.map_map]
  rfl
theorem zV:uA (trunc (aG 4 jt)):=λw n μ hw hn=>by
 apply bC
 obtain⟨ww,hww⟩:∃ww:Int,ww=w:=⟨_,rfl⟩
 obtain⟨nn,hnn⟩:∃nn:Int,nn=n:=⟨_,rfl⟩
 rw[<-hww,<-hnn]
 have rr:=λμ=>zu (j:=nn) (μ:=μ) (by omega) (by omega)
 rw[show nn.toNat=n by omega]at rr
 have z1:1<=sizeLine:=szl (by decide)
 unfold jt
 simp[rr,z1]
 refine fD (λits δ μ'=>∃(j:Nat)(o3:Option D),its=(cU 0 n).drop j/\j<=n/\μ'=μ/\δ=[some (.int ww),some (.int nn),some (.lst ((dq w j).map gb)),o3]) ?_ ?_ _ _ _ ⟨0,none,rfl,Nat.zero_le _,rfl,rfl⟩
 .rintro it its δ μ' ⟨j,o3,hi,hj,rfl,rfl⟩
  have hjn:j<n:=by
   rcases Nat.lt_or_ge j n with h|h
   .exact h
   .rw[Ks h]at hi;cases hi
  rw[zP hjn]at hi
  cases hi
  have hlen:=yz hw (j+1)
  have h4j:8 ^ (j+1)<=4096:=Nat.pow_le_pow_right (n:=8) (by decide) (show j+1<=4 by omega)
  have hin:=λr=>oM (w:=w) (j:=j) (r:=r)
  have hsucc:(dq w j).flatMap (λr=>(uO w r).map gb)=(dq w (j+1)).map gb:=by
   show _=((dq w j).flatMap (uO w)).map gb
   rw[List.map_flatMap]
  have e:=zE (all:=(dq w j).map gb) (fi2:=qO (ao (mIf (nu (ak 0)) (M2 (M2 (ak 0) (M1 (mC (.int 1)) ie) oIx) (mC (.int 1)) bW) (mC (.int 0))) (ao (ak 2) (aC)))) (h1:=hName 0) (h2:=hName 1) (fe:=MC (jU (ak 0) (ao (ak 1) (aC))) oTup) (t2:=bU) (δb:=[none,none,some (.int ww)]) (F:=gb) (f:=λr=>(uO w r).map gb) (μ:=μ') (dq w j) λr hr=>by
   obtain⟨r1,r2⟩:=hin r hr
   obtain⟨S2,e1,e2⟩:=Bj (μ:=μ') hw r2 (by omega) hww
   exact⟨_,S2,rfl,e1,e2⟩
  rw[hsucc]at e
  have zz:((dq w (j+1)).map gb).length<=sizeLine:=by
   rw[Zu]
   exact szl5 (by omega)
  have hsrc:srcOf (.lst ((dq w j).map gb)) μ'=some ⟨(dq w j).map gb,none⟩:=rfl
  generalize (dq w j).map gb=AL at *
  generalize hBL:(dq w (j+1)).map gb=BL at *
  generalize (0+(j:Int))=jj
  simp[hsrc,cu,e,zz]
  exact⟨j+1,rfl,by omega,by rw[hBL]⟩
 .rintro δ μ' ⟨j,o3,hi,hj,rfl,rfl⟩
  have hjn:j=n:=by
   rcases Nat.lt_or_ge j n with h|h
   .rw[zP h]at hi;cases hi
   .omega
  subst hjn
  simp
theorem zj{d:Nat}:∀(ps0:List D),(∀p∈ps0,Ds d p)->∃ps:List (List Int),ps0=ps.map au/\∀p∈ps,lH (d+1) p
 | [],_=>⟨[],rfl,by simp⟩
 |p::ps0,h=>by
  obtain⟨ps,e,hp⟩:=zj ps0 λq hq=>h q (by simp[hq])
  obtain⟨ns,b,rfl,h1,h2⟩:=h p (by simp)
  refine⟨(ns++[b])::ps,by rw[e];rfl,λq hq=>?_⟩
  rcases Zi.mp hq with z|z
  .rw[z];exact PtL.row h1
  .exact hp q z
theorem vZ{α:Type}{th:D->fZ}{F:α->D}{p:α->Bool}{μ:Mu}:∀(l:List α),(∀x∈l,th (F x) μ=some (.bl (p x),μ))->uI ((l.map F).map th) μ=some (l.all p,μ)
 | [],_=>rfl
 |d::ds,h=>by
  rw[Zj,Zj]
  unfold uI
  rw[h d (by simp)]
  have ih:=vZ ds λx hx=>h x (by simp[hx])
  rw[List.map_map]at ih
  cases hp:p d<;>simp[hp,wZ,ih]
abbrev Col:=List (List Int)
def chosen(cs:List Col)(ks:List Int):Col:=(cs.zip ks).map λp=>p.1.getD p.2.toNat []
def pick(ps:List (List Int))(ks:List Nat):List (List Int):=ks.map λk=>ps.getD k []
def CG(d:Nat)(L:List (List Int)):Prop:=d+1<L.length∨∀cs∈dq (d+1) L.length,dtX (XL L) cs=0
def Hj(d:Nat)(ps:List (List Int)):Prop:=∀ks∈dq ps.length (min ps.length (d+1)),¬CG d (pick ps ks)
open Classical in
noncomputable def vP(d:Nat)(L:List (List Int)):Bool:=decide (CG d L)
open Classical in
noncomputable def ud(d:Nat)(ps:List (List Int)):Bool:=(dq ps.length (min ps.length (d+1))).all λks=>!vP d (pick ps ks)
theorem By{d:Nat}{ps:List (List Int)}:ud d ps=true↔Hj d ps:=by
 unfold ud Hj vP
 rw[List.all_eq_true]
 exact⟨λh ks hk=>by simpa using h ks hk,λh ks hk=>by simpa using h ks hk⟩
def zq(φ:FF):Prop:=(∀μ,φ [.lst []] μ=some (.bl true,μ))/\∀(d:Nat)(ps:List (List Int))(μ:Mu),Geo d ps->ps.length<=8->il μ->φ [.lst (ps.map au)] μ=some (.bl (ud d ps),μ)
theorem getD_mem'{ps:List (List Int)}{k:Nat}(hk:k<ps.length):ps.getD k []∈ps:=by
 simp only[List.getD,List.getElem?_eq_getElem hk,Option.getD_some]
 exact List.getElem_mem _
theorem Hw{d:Nat}{ps:List (List Int)}(G:Geo d ps){ks:List Nat}(hk:∀k∈ks,k<ps.length)(h0:ks≠[])(hl:ks.length<=60):Geo d (pick ps ks) where
 d1:=G.d1
 d2:=G.d2
 rows:=λp hp=>by
  obtain⟨k,hkm,rfl⟩:=Zq.mp hp
  exact G.rows _ (getD_mem' (hk k hkm))
 len:=by unfold pick;rw[Zu];exact hl
 ne:=λz=>h0 (List.map_eq_nil_iff.mp z)
theorem KJ{ps:List (List Int)}{k:Nat}(hk:k<ps.length){μ:Mu}:oIx (.lst (ps.map au)) (.int (k:Int)) μ=some (au (ps.getD k []),μ):=by
 rw[xV]
 have:atI (ps.map au) (k:Int)=some (au (ps.getD k [])):=by
  unfold atI ixN
  simp[hk,List.getD]
 simp only[Sx,Option.bind_some,this,Option.map_some]
theorem pick_run{ps:List (List Int)}{ks:List Nat}(hk:∀k∈ks,k<ps.length){μ:Mu}{all:List D}{A:D}(hA:A= .lst (ps.map au)):lcL ⟨all,none⟩ (hName 0) bU (M2 (ak 1) (ak 0) oIx) [none,some A] ((ks.map λc:Nat=>(c:Int)).map D.int) μ=some ((pick ps ks).map au,μ):=by
 have e:=dC (all:=all) (h:=hName 0) (fe:=M2 (ak 1) (ak 0) oIx) (δb:=[none,some A]) (F:=λk:Nat=>D.int (k:Int)) (f:=λk=>au (ps.getD k [])) (μ:=μ) ks λk hkm=>by
  have hix:=KJ (μ:=μ) (hk k hkm)
  rw[<-hA]at hix
  refine⟨[some (.int (k:Int)),some A],by simp,?_⟩
  generalize (k:Int)=kk at *
  simp[hix,-xV]
 unfold pick
 rw[List.map_map,List.map_map]
 exact e
theorem JP{d:Nat}{L:List (List Int)}{t:D}(h:LT L (d+1) t):gC t= !vP d L:=by
 unfold vP
 rcases h with⟨rfl,hle,cs,c1,c2,c3,c4⟩|⟨m,rfl,ml,ms,ma,mr,mz⟩
 .have:¬CG d L:=λz=>by
   rcases z with z|z
   .omega
   .exact c4 (z cs (tW _ cs c1 c2 c3))
  simp[this,gC]
 .have:CG d L:=.inr λcs hc=>mz cs (oM hc).1 (oM hc).2
  simp[this]
  rfl
theorem Hd{φ1 φ2:FF}(h1:uA φ1)(h2:pg φ2):zq (trunc (aG 2 (gM φ1 φ2))):=by
 refine⟨λμ=>?_,λd ps μ G h8 hm=>?_⟩
 .apply bC
  unfold gM
  simp
 .apply bC
  obtain⟨r0,ps',hps⟩:=List.exists_cons_of_ne_nil G.ne
  have r0l:=(G.rows r0 (by rw[hps];simp)).len
  have hd2:=G.d2
  obtain⟨nn,hnn⟩:∃nn:Int,nn=ps.length:=⟨_,rfl⟩
  obtain⟨ww,hww⟩:∃ww:Int,ww=(d+1:Nat):=⟨_,rfl⟩
  have l1:∀μ,dN (.lst (ps.map au)) μ=some (.int nn,μ):=λμ=>by rw[Av,Zu,hnn]
  have l2:∀μ,dN (au r0) μ=some (.int ww,μ):=λμ=>by unfold au;rw[Gp,Zu,r0l,hww]
  have a0:atI (ps.map au) 0=some (au r0):=by rw[hps];unfold atI ixN;simp
  obtain⟨size,hsize⟩:∃size:Nat,size=min ps.length (d+1):=⟨_,rfl⟩
  have emin:∀μ,mK (.int nn) (.int ww) μ=some (.int (size:Int),μ):=λμ=>by
   rw[Mt,hsize,hnn,hww]
   congr 3
   omega
  have hlen0:0<ps.length:=List.length_pos_iff.mpr G.ne
  have er:=λμ=>h1 ps.length size μ h8 (by omega)
  rw[<-hnn]at er
  have hne:(ps.map au).isEmpty=false:=by rw[hps];rfl
  have ea:=vZ (th:=thG (hName 0) (M2 (MC (ao (mFz (lLC ["k"] [1] (gh (ak 0)) (hName 0) (bU) (M2 (ak 1) (ak 0) oIx))) (aC)) φ2) (mC .non) oIs) [none,some (.lst (ps.map au))]) (F:=gb) (p:=λks=>!vP d (pick ps ks)) (μ:=μ) (dq ps.length size) λks hks=>by
   obtain⟨k1,k2⟩:=oM hks
   have G':=Hw G k2 (λz=>by rw[z]at k1;simp at k1;omega) (by omega)
   obtain⟨t,et,hT⟩:=h2 (pick ps ks) (d+1) μ ⟨by omega,by omega,λl hl=>(G'.rows l hl).len,λl hl x hx=>nH 10001 (by have:=(G'.rows l hl).sm x hx;omega) (by decide),G'.len⟩ hm
   have ep:=pick_run (all:=(ks.map λc:Nat=>(c:Int)).map D.int) k2 (μ:=μ) (A:=.lst (ps.map au)) rfl
   have hsrc:srcOf (gb ks) μ=some ⟨(ks.map λc:Nat=>(c:Int)).map D.int,none⟩:=rfl
   have zc:((ks.map λc:Nat=>(c:Int)).map D.int).length<=sizeLine:=szl (by rw[Zu,Zu];omega)
   have hL:=JP hT
   rw[<-hL]
   apply yC
   generalize (ks.map λc:Nat=>(c:Int)).map D.int=CS at *
   generalize gb ks=NK at *
   generalize ps.map au=A at *
   generalize (pick ps ks).map au=PK at *
   unfold thG
   simp[hsrc,zc,cu,ep,et]
  have hpl:ud d ps=(dq ps.length size).all λks=>!vP d (pick ps ks):=by rw[hsize];rfl
  rw[<-hpl]at ea
  have hsrcR:∀μ,srcOf (.lst ((dq ps.length size).map gb)) μ=some ⟨(dq ps.length size).map gb,none⟩:=λμ=>rfl
  generalize (dq ps.length size).map gb=R at *
  generalize (size:Int)=sz at *
  generalize ps.map au=A at *
  generalize au r0=R0 at *
  unfold gM
  simp[l1,l2,a0,emin,er,hne,hsrcR,Qh,cu,ea]
theorem tQ{ns:List Int}(h:∃n∈ns,n≠0):∃f0 fr,ns.filter (λn=>n != 0)=f0::fr/\rC ns=f0:=by
 cases e:ns.filter (λn=>n != 0)with
 |nil=>
  obtain⟨n,hn,h0⟩:=h
  have:=List.filter_eq_nil_iff.mp e n hn
  simp[h0]at this
 |cons a b=>exact⟨a,b,rfl,by unfold rC;rw[e];rfl⟩
theorem Pj{b:Nat}{ns:List Int}(h:∃n∈ns,n≠0)(hs:∀n∈ns,Sm b n):Sm b (aW 0 ns:Nat):=by
 obtain⟨n,hn,h0⟩:=h
 have hd:=(gw ns 0).1 n hn
 have:=Int.natAbs_dvd_natAbs.mpr hd
 have:=Nat.le_of_dvd (by omega) this
 have h2:=hs n hn
 unfold Sm at *
 omega
def wA(φ:FF):Prop:=∀(ns:List Int)(μ:Mu),ns.length<=60->(∃n∈ns,n≠0)->(∀n∈ns,Sm 2000 n)->φ [au ns] μ=some (au (gD ns),μ)
theorem Hg{φ:FF}(hφ:mq φ):wA (trunc (aG 3 (cV φ))):=λns μ hl hne hs=>by
 apply bC
 have ef:=wg ns μ (ns.map D.int)
 obtain⟨f0,fr,hf,hf0⟩:=tQ hne
 rw[hf]at ef
 have hg:=Pj hne hs
 have hg0:aW 0 ns≠0:=gk (.inr hne)
 obtain⟨g,hgg⟩:∃g:Int,g=(aW 0 ns:Nat):=⟨_,rfl⟩
 rw[<-hgg]at hg
 have hq:∀k:Int,k≠0->Sm 2000 k->lcL ⟨ns.map D.int,none⟩ (hName 0) bU (M2 (ak 0) (ak 1) oDiv) [none,some (.int k)] (ns.map D.int) μ=some ((ns.map λn=>n.fdiv k).map D.int,μ):=λk hk hks=>by
  have:=dC (all:=ns.map D.int) (h:=hName 0) (fe:=M2 (ak 0) (ak 1) oDiv) (δb:=[none,some (.int k)]) (F:=D.int) (f:=λn=>D.int (n.fdiv k)) (μ:=μ) ns λn hn=>⟨[some (.int n),some (.int k)],by simp,by simp[jF (x:=n) μ hk hks (by decide)]⟩
  rw[List.map_map]
  exact this
 have src:∀μ,srcOf (au ns) μ=some ⟨ns.map .int,none⟩:=λ_=>rfl
 have zl:(ns.map D.int).length<=1000:=by simp;omega
 obtain⟨o',eg⟩:=Dn hφ (au ns) (ns.map D.int) ns 0 none μ
 rw[<-hgg,show((0:Nat):Int)=0 from rfl]at eg
 have at0:atI ((f0::fr).map D.int) 0=some (.int f0):=(rR (ys:=f0::fr) (k:=0) (by decide) (by simp)).1
 have rt:∀k,D.tup ((ns.map λn=>n.fdiv k).map .int)=au (ns.map λn=>n.fdiv k):=λ_=>rfl
 by_cases hneg:f0<0
 .have e1:gD ns=ns.map λn=>n.fdiv (0-g):=by unfold gD nq;rw[hf0,if_pos hneg,<-hgg];congr 1;funext n;congr 1;omega
  rw[e1]
  have hq':=hq (0-g) (by omega) (by unfold Sm at *;omega)
  have rt':=rt (0-g)
  generalize au (ns.map λn=>n.fdiv (0-g))=OUT at *
  generalize (ns.map λn=>n.fdiv (0-g)).map D.int=OD at *
  generalize (f0::fr).map D.int=FD at *
  generalize ns.map D.int=ND at *
  generalize au ns=R at *
  have hsub:nA (.int 0) (.int g) μ=some (.int (0-g),μ):=rfl
  generalize 0-g=gg at *
  unfold cV
  simp[src,eg,zl,cu,ef,at0,hneg,hq',rt',hsub,-Us]
 .have e1:gD ns=ns.map λn=>n.fdiv g:=by unfold gD nq;rw[hf0,if_neg hneg,<-hgg];congr 1;funext n;congr 1;omega
  rw[e1]
  have hq':=hq g (by omega) hg
  have rt':=rt g
  generalize au (ns.map λn=>n.fdiv g)=OUT at *
  generalize (ns.map λn=>n.fdiv g).map D.int=OD at *
  generalize (f0::fr).map D.int=FD at *
  generalize ns.map D.int=ND at *
  generalize au ns=R at *
  unfold cV
  simp[src,eg,zl,cu,ef,at0,hneg,hq',rt']
theorem tY(k:Nat):∀(ps:List (List Int))(s:Nat),s<=k->((dh s (ps.map au)).filter (λd=>Ea d != (k:Int))).map JH=(ps.eraseIdx (k-s)).map au
 | [],s,_=>rfl
 |p::ps,s,h=>by
  have e1:dh s ((p::ps).map au)= .tup [.int (s:Int),au p]::dh (s+1) (ps.map au):=rfl
  rw[e1,List.filter_cons]
  have ef:Ea (D.tup [.int (s:Int),au p])=(s:Int):=rfl
  rw[ef]
  by_cases hs:s=k
  .subst hs
   rw[if_neg (by simp),Nat.sub_self]
   have hall:∀(qs:List (List Int))(t:Nat),s<t->((dh t (qs.map au)).filter (λd=>Ea d != (s:Int))).map JH=qs.map au:=by
    intro qs
    induction qs with
    |nil=>intro t _;rfl
    |cons q qs ih=>
     intro t ht
     have e2:dh t ((q::qs).map au)= .tup [.int (t:Int),au q]::dh (t+1) (qs.map au):=rfl
     rw[e2,List.filter_cons]
     have ef:Ea (D.tup [.int (t:Int),au q])=(t:Int):=rfl
     rw[ef,if_pos (by simp;omega),Zj,ih (t+1) (by omega)]
     rfl
   rw[hall ps (s+1) (by omega)]
   rfl
  .rw[if_pos (by simp;omega),Zj,tY k ps (s+1) (by omega)]
   have:k-s=k-(s+1)+1:=by omega
   rw[this]
   rfl
theorem EY{n:Nat}(hn:n<=4){φ:FF}(hB:qW n φ)(hE:uC n φ){rs:List (List Int)}(hl:rs.length=n)(hr:∀r∈rs,r.length=n/\∀x∈r,Sm 14 x):Sm (20*n+2) (fV n rs):=by
 obtain⟨v,ev,hv⟩:=hB rs [] hl hr
 rw[hE rs [] hl hr]at ev
 cases ev
 exact hv
def FJ(φ:FF):Prop:=∀(d:Nat)(ps:List (List Int))(μ:Mu),il μ->1<=d->d<=3->ps.length=d+2->(∀p∈ps,lH (d+1) p)->φ [.lst (ps.map au)] μ=some (au (dm d ps),μ)/\∀n∈dm d ps,Sm 200 n
theorem KD{φ:FF}(hB:∀n,n<=4->qW n φ)(hE:∀n,n<=4->uC n φ):FJ (trunc (aG 5 (gn φ))):=λd ps μ hm d1 d3 hl hp=>by
 have sV:∀k<ps.length,Sm 200 (wN d ps k*bu (ps.getD k []))/\Sm 100 (fV (d+1) (ps.eraseIdx k)):=λk hk=>by
  have hr:lH (d+1) (ps.getD k []):=hp _ (getD_mem' hk)
  have b1:=hr.b1
  have b2:=hr.b2
  have h1:=EY (n:=d+1) (by omega) (hB _ (by omega)) (hE _ (by omega)) (rs:=ps.eraseIdx k) (by rw[List.length_eraseIdx,if_pos hk];omega) λr hr'=>by
   have:=hp r (List.mem_of_mem_eraseIdx hr')
   exact⟨this.len,λx hx=>nH 10001 (by have:=this.sm x hx;omega) (by decide)⟩
  have hs:Sm 1 (sgI k):=by unfold sgI Sm;split<;>decide
  exact⟨bZ (fL (fL hs h1) (nH (b:=6) 64 (by omega) (by decide))) (by omega),bZ h1 (by omega)⟩
 have hsm:∀n∈dm d ps,Sm 200 n:=λn hn=>by
  obtain⟨k,hk,rfl⟩:=Zq.mp hn
  exact(sV k (List.mem_range.mp hk)).1
 refine⟨?_,hsm⟩
 have key:∃t,trunc (aG 5 (gn φ)) [.lst (ps.map au)] μ=some (t,μ)/\t=au (dm d ps):=by
  apply sH hm
  apply mJ
  unfold gn
  simp
  refine fD (λits δ μ'=>∃(k:Nat)(o2 o3 o4:Option D),its=dh k ((ps.drop k).map au)/\μ'=μ++[some (((dm d ps).take k).map .int)]/\k<=ps.length/\δ=[some (.lst (ps.map au)),some (.cell μ.length),o2,o3,o4]) ?_ ?_ _ _ _ ⟨0,none,none,none,rfl,by simp,Nat.zero_le _,rfl⟩
  .rintro it its δ μ' ⟨k,o2,o3,o4,hi,rfl,hkl,rfl⟩
   have hk:k<ps.length:=by
    by_cases h:k<ps.length
    .exact h
    .rw[List.drop_of_length_le (by omega)]at hi;cases hi
   rw[lz hk]at hi
   cases hi
   have hr:lH (d+1) (ps.getD k []):=hp _ (getD_mem' hk)
   have hlast:=pH hr (by omega)
   have b1:=hr.b1
   have b2:=hr.b2
   have eq:=tY k ps 0 (Nat.zero_le _)
   rw[Nat.sub_zero]at eq
   have ef:=nY (all:=dh 0 (ps.map au)) (h:=jh 2 (bG (hName 0) (bG (hName 1) jf))) (tt:=toB (M2 (ak 0) (ak 2) oNe)) (fe:=ak 1) (δb:=[none,none,some (.int (k:Int))]) (p:=λd=>Ea d != (k:Int)) (f:=JH) (μ:=μ++[some (((dm d ps).take k).map .int)]) (dh 0 (ps.map au)) λx hx=>by
    obtain⟨i,hi',e⟩:=List.getElem_of_mem hx
    obtain⟨y,ey,_⟩:=qD (Zh.mpr ⟨hi',e⟩)
    subst ey
    generalize (k:Int)=kk
    refine⟨[some (.int ((0+i:Nat):Int)),some y,some (.int kk)],by simp,?_,λ_=>by simp[JH]⟩
    simp[Ea,bne]
   rw[eq]at ef
   have ev:=hE (d+1) (by omega) (ps.eraseIdx k) (μ++[some (((dm d ps).take k).map .int)]) (by rw[List.length_eraseIdx,if_pos hk];omega) λr hr'=>by
    have:=hp r (List.mem_of_mem_eraseIdx hr')
    exact⟨this.len,λx hx=>nH 10001 (by have:=this.sm x hx;omega) (by decide)⟩
   obtain⟨hs1,hs2⟩:=sV k hk
   have esg:=Mv k
   have hsg:Sm 1 (sgI k):=by unfold sgI Sm;split<;>decide
   have m1:=cg (x:=sgI k) (y:=fV (d+1) (ps.eraseIdx k)) (μ++[some (((dm d ps).take k).map .int)]) hsg hs2 (by decide)
   have m2:=cg (x:=sgI k*fV (d+1) (ps.eraseIdx k)) (y:=bu (ps.getD k [])) (μ++[some (((dm d ps).take k).map .int)]) (fL hsg hs2) (nH (b:=6) 64 (by omega) (by decide)) (by decide)
   have hml:(dm d ps).length=ps.length:=by unfold dm;simp
   have hz:((dm d ps).take k).length<sizeLine:=Zc (by rw[List.length_take];omega:((dm d ps).take k).length<1000) (by decide)
   have hez:(dh 0 (ps.map au)).length<=1000:=by rw[qG];simp;omega
   have hnext:((dm d ps).take k).map D.int++[.int (sgI k*fV (d+1) (ps.eraseIdx k)*bu (ps.getD k []))]=((dm d ps).take (k+1)).map D.int:=by
    rw[List.take_succ_eq_append_getElem (by omega),List.map_append]
    have:=wG (d:=d) hk
    unfold G0 at this
    simp[List.getD,hk,hml]at this
    simp[this,wN,List.getD,hk]
   generalize (ps.eraseIdx k).map au=QD at *
   generalize fV (d+1) (ps.eraseIdx k)=v at *
   generalize bu (ps.getD k [])=lb at *
   generalize sgI k=sg at *
   have hzl:(((dm d ps).take k).map D.int).length<sizeLine:=by rw[Zu];exact hz
   generalize ((dm d ps).take k).map D.int=AC at *
   generalize hkk:(k:Int)=kk at *
   generalize ps.getD k []=pk at *
   simp[hez,cu,ef,esg,ev,m1,hlast,m2,jN,ju,hzl]
   exact⟨k+1,rfl,by rw[hnext,List.map_take],by omega⟩
  .rintro δ μ' ⟨k,o2,o3,o4,hi,rfl,hkl,rfl⟩
   have hk:¬k<ps.length:=λh=>by rw[lz h]at hi;cases hi
   have hml:(dm d ps).length=ps.length:=by unfold dm;simp
   rw[List.take_of_length_le (by omega)]
   simp
   exact⟨lR.mpr jR,rfl⟩
 obtain⟨t,e,rfl⟩:=key
 exact e
theorem Ag:∀d,1<=d->d<=3->∀ks∈dq (d+2) (d+1),∃k,k<d+2/\ks=(List.range (d+2)).eraseIdx k:=λd d1 d3=>by
 have:d=1∨d=2∨d=3:=by omega
 rcases this with rfl|rfl|rfl<;>decide +kernel
theorem Br{ps:List (List Int)}{n k:Nat}(hl:ps.length=n):pick ps ((List.range n).eraseIdx k)=ps.eraseIdx k:=by
 have h:∀i:Nat,((List.range n)[i]?).map (λk=>ps.getD k [])=ps[i]? :=λi=>by
  by_cases h:i<n
  .rw[List.getElem?_range h]
   simp[List.getD,hl,h]
  .rw[List.getElem?_eq_none (by simpa using h),List.getElem?_eq_none (by omega)];rfl
 unfold pick
 apply List.ext_getElem?
 intro i
 rw[List.getElem?_map,List.getElem?_eraseIdx,List.getElem?_eraseIdx]
 split
 .exact h i
 .exact h (i+1)
theorem vQ{d:Nat}{qs:List (List Int)}(hd:d<=3)(hl:qs.length=d+1)(hr:∀q∈qs,q.length=d+1):dtX (XL qs) (List.range (d+1))=fV (d+1) qs:=by
 have:=Dl qs (List.range (d+1)) (by rw[List.length_range,hl]) (by omega)
 rw[<-this,hl]
 congr 1
 conv=>rhs;rw[<-List.map_id qs]
 refine List.map_congr_left λp hp=>?_
 have:=hr p hp
 exact xq (by simp[this]) λi hi=>by
  have hi:i<d+1:=by simpa using hi
  unfold G0
  simp[List.getD,hi]
theorem mW{d k:Nat}{ps:List (List Int)}(hl:ps.length=d+2)(hk:k<d+2):(ps.eraseIdx k).length=d+1:=by
 rw[List.length_eraseIdx,if_pos (by omega)];omega
theorem Am(d:Nat):List.range (d+1)∈dq (d+1) (d+1):=
 tW _ _ (by simp) (λc hc=>List.mem_range.mp hc) List.pairwise_lt_range
theorem BJ{d:Nat}{ps:List (List Int)}(P:Pl d ps):ud d ps=true:=by
 have G:=P.geo
 have hl:=P.len
 rw[By]
 intro ks hks
 rw[hl,show min (d+2) (d+1)=d+1 by omega]at hks
 obtain⟨k,hk,rfl⟩:=Ag d G.d1 G.d2 ks hks
 rw[Br hl]
 have hel:=mW hl hk
 rintro(h|h)
 .omega
 .have:=h (List.range (d+1)) (by rw[hel];exact Am d)
  rw[vQ G.d2 hel λq hq=>(G.rows q (List.mem_of_mem_eraseIdx hq)).len]at this
  exact P.det k hk this
theorem Ah{d:Nat}{ps:List (List Int)}(P:Pl d ps){k:Nat}(hk:k<d+2){t:D}(h:TT d (ps.eraseIdx k) t):t= .non:=by
 have G:=P.geo
 have hel:=mW P.len hk
 rcases h with h|⟨v,_,_,_,_,_,_,h⟩
 .exact h.1
 .have:=h (List.range (d+1)) (by rw[hel];simp) (λc hc=>List.mem_range.mp hc)
  rw[vQ G.d2 hel λq hq=>(G.rows q (List.mem_of_mem_eraseIdx hq)).len]at this
  exact absurd this (P.det k hk)
theorem Ho{d:Nat}{ps:List (List Int)}(P:Pl d ps){t:D}(h:TT d ps t):∃v:List Int,t=au v/\v.length=ps.length/\(∀x∈v,Sm 300 x)/\aW 0 v=1/\Bm v/\lU (d+1) ps v=true:=by
 rcases h with⟨_,h,_⟩|⟨v,h1,h2,h3,h4,h5,h6,_⟩
 .have:=P.len;omega
 .exact⟨v,h1,h2,h3,h4,h5,h6⟩
theorem Eg{d:Nat}{ps:List (List Int)}(P:Pl d ps){k:Nat}(hk:k<d+2):Geo d (ps.eraseIdx k) where
 d1:=P.geo.d1
 d2:=P.geo.d2
 rows:=λp hp=>P.geo.rows p (List.mem_of_mem_eraseIdx hp)
 len:=by rw[mW P.len hk];have:=P.geo.d2;omega
 ne:=λz=>by have:=mW P.len hk;rw[z]at this;simp at this
theorem Rm{d:Nat}{ps:List (List Int)}(G:Geo d ps)(hl:ps.length=d+2)(h:∀n∈dm d ps,n≠0):Pl d ps:=⟨G,hl,λk hk z=>by
 have:wN d ps k*bu (ps.getD k [])∈dm d ps:=Zq.mpr ⟨k,List.mem_range.mpr (by omega),rfl⟩
 refine h _ this ?_
 unfold wN
 rw[z,Int.mul_zero,Int.zero_mul]⟩
end LG
namespace Lk11
open PySem PySem.Spec PyProof.Rows L2 L3 LG
theorem Rk:mq fG:=λa b μ=>dJ (KH a b μ)
theorem Uj:mq aQ:=λa b μ=>dJ (Kc a b μ)
theorem RQ:tu cB:=λx k μ h0 h1=>by
 obtain⟨r,e,h⟩:=Oj x k μ h0 h1
 exact⟨r,dJ e,h⟩
theorem Cy:xU bY:=Fd
theorem Qd:xJ fW:=GR RQ
theorem low':Cu fU:=λns b μ h1 h2 h3 h4=>dJ (Qx Rk ns b μ h1 h2 h3 h4)
theorem Jv:CK fX:=FW RQ Ft low'
theorem Jz:tO bJ:=λns μ=>dJ (Bl Uj ns μ)
theorem Mz:wX bK:=λns μ h1 h2 h3=>dJ (Lq Jz ns μ h1 h2 h3)
theorem Hl:Cv bx:=Nt
theorem Mr:pg bI:=zO (Gz Mz) Hl
theorem Tf:wC jB:=zT Mr Mz Hl
theorem Gg:uA fO:=zV
theorem SN:∀n,n<=4->qW n dO:=λn hn=>xr 6 n (by omega) (by omega)
theorem det':∀n,n<=4->uC n dO:=λn hn=>vo 6 n (by omega) (by omega)
theorem Cd:FJ bH:=KD SN det'
theorem Mi:wA aU:=Hg Rk
theorem Ub(k l:Bool)(μ:Mu):gj [.bl k,.bl l] μ=some (.bl (k==l),μ):=Ka k l μ
theorem plain':zq cW:=Hd Gg Mr
theorem TJ(φ:FF)(a:Int)(μ:Mu):trunc (aG 2 (gY φ)) [.int a,.int a] μ=some (.bl true,μ):=by
 apply dJ
 unfold aG gY
 have h1:oNe (.bl false) (.bl false) μ=some (.bl false,μ):=by unfold oNe rsv;simp[cI,gq,eqD]
 have h2:oEq (.bl false) (.bl false) μ=some (.bl true,μ):=by unfold oEq rsv;simp[cI,gq,eqD]
 simp[aP,sIf,rB,toB,M2,M1,ak,je,HB,h1,bN,nu,rF,bF,pL,h2,wH]
theorem Tz:isSame cL:=λns μ h=>by
 have e:cL=trunc (aG 2 (gY (trunc (aG 2 (gY (Em 4 λφ=>trunc (aG 2 (gY φ)))))))):=rfl
 rw[e]
 exact dJ (JD (TJ _) ns μ h)
theorem num':MK dB:=QW
theorem Tg:Ir cY:=Bh num'
theorem Ue:MN cH:=Nm Tg (Hi (Li Uj)) (Bv Oq)
theorem vN:∀(ns:List Int),eU (ns.map D.int)=true/\iR (ns.map D.int)<=0
 | []=>⟨by simp[eU],by simp[iR]⟩
 |q::qs=>by
  obtain⟨a,b⟩:=vN qs
  exact⟨by simp[eU,cI,a],by simp[iR,gq];omega⟩
theorem Rv(v t:List Int)(μ:Mu)(h1:t.length<=60)(h2:∀n∈t,Sm 2000 n):bA [au v,au t] μ=some (.bl (t.any (λn=>n != 0)&&(gD t==v)),μ):=by
 apply bC
 have ef:=wg t μ (t.map D.int)
 have src:∀μ,srcOf (au t) μ=some ⟨t.map .int,none⟩:=λ_=>rfl
 have zl:(t.map D.int).length<=sizeLine:=szl (by simp;omega)
 have e0:∀μ,oLst [] μ=some (.lst [],μ):=λμ=>if_pos (szl (by simp))
 cases e:t.any (λn=>n != 0)with
 |false=>
  have hf:t.filter (λn=>n != 0)=[]:=List.filter_eq_nil_iff.mpr λn hn=>by
   have:=List.any_eq_false.mp e n hn
   simpa using this
  rw[hf]at ef
  have eqn:oEq (.lst []) (.lst []) μ=some (.bl true,μ):=qm (μ:=μ) (mX []).1 (by decide)
  have ef:lcL ⟨t.map D.int,none⟩ (hName 0) (toB (M2 (ak 0) (mC (.int 0)) oNe)) (ak 0) [none] (t.map D.int) μ=some ([],μ):=ef
  generalize t.map D.int=TD at *
  generalize au t=T at *
  unfold dX
  simp[src,zl,cu,ef,e0,eqn]
 |true=>
  have hne:∃n∈t,n≠0:=by
   obtain⟨n,hn,h⟩:=List.any_eq_true.mp e
   exact⟨n,hn,by simpa using h⟩
  obtain⟨f0,fr,hf,_⟩:=tQ hne
  rw[hf]at ef
  have el:=Mi t μ h1 hne h2
  have eqv:=Lk (gD t) v μ
  have eqn:oEq (.lst ((f0::fr).map D.int)) (.lst []) μ=some (.bl false,μ):=by
   obtain⟨pu,pd⟩:=vN (f0::fr)
   exact qm (μ:=μ) pu (by omega)
  generalize (f0::fr).map D.int=FD at *
  generalize t.map D.int=TD at *
  generalize au t=T at *
  generalize au v=V at *
  generalize au (gD t)=R at *
  generalize (gD t==v)=b at *
  unfold dX
  simp[src,zl,cu,ef,e0,eqn,el,eqv]
theorem Fg{f:EF}{δ:En}{μ:Mu}{F:List Int}{i y:Int}{j:Nat}(h:f δ (μ++[some (F.map .int)])=some (.int y,μ++[some (F.map .int)]))(h3:ak 3 δ (μ++[some (F.map .int)])=some (.cell μ.length,μ++[some (F.map .int)]))(hj:ak j δ (μ++[some (F.map .int)])=some (.int i,μ++[some (F.map .int)]))(i0:0<=i)(i1:i<F.length):
  BR f (ak 3) (ak j) δ (μ++[some (F.map .int)])=some (.nx,δ,μ++[some ((F.set i.toNat y).map .int)]):=by
 have hix:ixN (F.map D.int).length i=some i.toNat:=by unfold ixN;rw[if_pos i0,if_pos (by simp;omega)]
 unfold BR
 rw[h]
 simp only[Option.bind_some,h3,hj]
 unfold L3.Hf
 simp at hix
 simp[hix,List.map_set]
theorem Sw(v:List Int)(z:Int)(μ:Mu)(hm:il μ)(v0:v≠[])(vl:v.length<=60)(vs:∀x∈v,Sm 300 x):∃qs:List Int,fM [au v,.int z] μ=some (au qs,μ)/\qs.length=v.length/\∀x∈qs,Sm 2000 x:=by
 have key:∃t,fM [au v,.int z] μ=some (t,μ)/\∃qs:List Int,t=au qs/\qs.length=v.length/\∀x∈qs,Sm 2000 x:=by
  apply sH hm
  apply mJ
  have hl0:=List.length_pos_iff.mpr v0
  obtain⟨n,hn⟩:∃n:Int,n=v.length:=⟨_,rfl⟩
  have ep:∀μ,ue (.int 10) (.int 20) μ=some (.int 100000000000000000000,μ):=λμ=>by unfold ue;rfl
  have e6:∀(a b c d e f:D) μ,oLst [a,b,c,d,e,f] μ=some (.lst [a,b,c,d,e,f],μ):=λ_ _ _ _ _ _ μ=>if_pos (szl (by simp))
  have e3:∀(a b c:D) μ,oLst [a,b,c] μ=some (.lst [a,b,c],μ):=λ_ _ _ μ=>if_pos (szl (by simp))
  have m6:=λμ=>iI (x:=z) (y:=6) μ (by decide)
  obtain⟨i0,i1⟩:=bM (x:=z) (m:=6) (by decide)
  obtain⟨mo,hmo,emo⟩:=pD (ds:=[D.int 1,.int (-1),.int 2,.int 7,.int (-12),.int 100000000000000000000]) i0 i1
  have hmo:∃s:Int,mo= .int s/\Sm 70 s:=by
   simp only[Zi,List.not_mem_nil,or_false]at hmo
   rcases hmo with rfl|rfl|rfl|rfl|rfl|rfl<;>exact⟨_,rfl,by unfold Sm;decide⟩
  obtain⟨sz,rfl,ssz⟩:=hmo
  have el:=dC (all:=v.map D.int) (h:=hName 0) (fe:=M2 (ak 1) (ak 0) eG) (δb:=[none,some (.int sz)]) (F:=D.int) (f:=λx=>.int (sz*x)) (μ:=μ) v λx hx=>⟨_,rfl,by
   have:=cg (x:=sz) (y:=x) μ ssz (vs x hx) (by decide)
   simp[this]⟩
  have el':v.map (λx=>D.int (sz*x))=(v.map (sz * ·)).map D.int:=by simp
  rw[el']at el
  have hF:∀x∈v.map (sz * ·),Sm 400 x:=λx hx=>by
   obtain⟨y,hy,rfl⟩:=Zq.mp hx
   exact bZ (fL ssz (vs y hy)) (by decide)
  have hFl:(v.map (sz * ·)).length=v.length:=by simp
  generalize v.map (sz * ·)=F at *
  have v6:=λμ=>vV (i:=z) (j:=6) (μ:=μ) (by decide) (by decide)
  have v36:=λμ=>vV (i:=z) (j:=36) (μ:=μ) (by decide) (by decide)
  have v300:=λμ=>vV (i:=z) (j:=300) (μ:=μ) (by decide) (by decide)
  have v900:=λμ=>vV (i:=z) (j:=900) (μ:=μ) (by decide) (by decide)
  have mn:=λ(x:Int) μ=>iI (x:=x) (y:=n) μ (by omega)
  have m3:=λ(x:Int) μ=>iI (x:=x) (y:=3) μ (by decide)
  obtain⟨a0,a1⟩:=bM (x:=z.fdiv 6) (m:=n) (by omega)
  obtain⟨b0,b1⟩:=bM (x:=z.fdiv 36) (m:=n) (by omega)
  obtain⟨c0,c1⟩:=bM (x:=z.fdiv 900) (m:=3) (by decide)
  obtain⟨q0,q1⟩:=bM (x:=z.fdiv 300) (m:=3) (by decide)
  obtain⟨xo,hxo,exo⟩:=pD (ds:=[D.int 1,.int (-1),.int sz]) c0 c1
  have hxo:∃s:Int,xo= .int s/\Sm 70 s:=by
   simp only[Zi,List.not_mem_nil,or_false]at hxo
   rcases hxo with rfl|rfl|rfl
   .exact⟨_,rfl,by unfold Sm;decide⟩
   .exact⟨_,rfl,by unfold Sm;decide⟩
   .exact⟨_,rfl,ssz⟩
  obtain⟨ad,rfl,sad⟩:=hxo
  have src:∀μ,srcOf (au v) μ=some ⟨v.map .int,none⟩:=λ_=>rfl
  have zl:(v.map D.int).length<=sizeLine:=szl (by simp;omega)
  have lenC:∀(G:List Int),G.length=v.length->dN (.cell μ.length) (μ++[some (G.map .int)])=some (.int n,μ++[some (G.map .int)]):=λG hG=>by
   unfold dN
   simp[hG,hn]
  generalize au v=V at *
  generalize v.map D.int=VD at *
  generalize hi6:(z.fdiv 6).fmod n=i at *
  generalize hk36:(z.fdiv 36).fmod n=k at *
  generalize hq3:(z.fdiv 300).fmod 3=q at *
  have lenF:=lenC F hFl
  have ixC:∀(G:List Int)(i:Int),G.length=v.length->0<=i->i<n->oIx (.cell μ.length) (.int i) (μ++[some (G.map .int)])=some (.int (G.getD i.toNat 0),μ++[some (G.map .int)])/\G.getD i.toNat 0∈G:=λG i hG h0 h1=>by
   obtain⟨ai,hv⟩:=rR (ys:=G) (k:=i) h0 (by omega)
   refine⟨?_,hv⟩
   rw[xV]
   simp[ai]
  obtain⟨x1,mx1⟩:=ixC F i hFl a0 a1
  have p1:=Fg (f:=M2 (M2 (ak 3) (ak 4) oIx) (M2 (MC (ao (mC (.int 1)) (ao (M1 (mC (.int 1)) ie) (ao (ak 2) (aC)))) oLst) (M2 (M2 (ak 1) (mC (.int 900)) oDiv) (mC (.int 3)) oMod) oIx) bW) (δ:=[some V,some (.int z),some (.int sz),some (.cell μ.length),some (.int i),some (.int k)]) (μ:=μ) (F:=F) (i:=i) (y:=F.getD i.toNat 0+ad) (j:=4) (by simp[x1,e3,v900,m3,exo,-xV,-tE];simp[exo]) (by simp) (by simp) a0 (by omega)
  have s1:∀x∈F.set i.toNat (F.getD i.toNat 0+ad),Sm 401 x:=λx hx=>by
   rcases List.mem_or_eq_of_mem_set hx with w|w
   .exact bZ (hF x w) (by decide)
   .rw[w];exact GQ (hF _ mx1) (bZ sad (by decide))
  generalize hG1:F.set i.toNat (F.getD i.toNat 0+ad)=G at *
  have hGl:G.length=v.length:=by rw[<-hG1];simp[hFl]
  obtain⟨x2,mx2⟩:=ixC G k hGl b0 b1
  have p2:=Fg (f:=M2 (M2 (ak 3) (ak 5) oIx) (M2 (MC (ao (mC (.int 1)) (ao (M1 (mC (.int 1)) ie) (ao (ak 2) (aC)))) oLst) (M2 (M2 (ak 1) (mC (.int 900)) oDiv) (mC (.int 3)) oMod) oIx) nA) (δ:=[some V,some (.int z),some (.int sz),some (.cell μ.length),some (.int i),some (.int k)]) (μ:=μ) (F:=G) (i:=k) (y:=G.getD k.toNat 0-ad) (j:=5) (by simp[x2,e3,v900,m3,exo,-xV,-tE];simp[exo]) (by simp) (by simp) b0 (by omega)
  have s2:∀x∈G.set k.toNat (G.getD k.toNat 0-ad),Sm 402 x:=λx hx=>by
   rcases List.mem_or_eq_of_mem_set hx with w|w
   .exact bZ (s1 x w) (by decide)
   .rw[w];exact xX (s1 _ mx2) (bZ sad (by decide))
  generalize hG2:G.set k.toNat (G.getD k.toNat 0-ad)=G' at *
  have hGl':G'.length=v.length:=by rw[<-hG2];simp[hGl]
  have hq:q=0∨q=1∨q=2:=by omega
  have fin:∀X:List Int,X.length=v.length->(∀x∈X,Sm 402 x)->∃qs:List Int,D.tup (X.map .int)=au qs/\qs.length=v.length/\∀x∈qs,Sm 2000 x:=λX h1 h2=>⟨X,rfl,h1,λx hx=>bZ (h2 x hx) (by decide)⟩
  unfold mj
  rcases hq with rfl|rfl|rfl
  .simp[ep,e6,m6,emo,src,zl,cu,el,v6,v36,lenF,mn,v300,m3,hi6,hk36,hq3,-tE]
   exact⟨lR.mpr jR,fin F hFl λx hx=>bZ (hF x hx) (by decide)⟩
  .simp[ep,e6,m6,emo,src,zl,cu,el,v6,v36,lenF,mn,v300,m3,hi6,hk36,hq3,p1,-tE,-Mm]
   exact⟨lR.mpr jR,fin G hGl λx hx=>bZ (s1 x hx) (by decide)⟩
  .simp[ep,e6,m6,emo,src,zl,cu,el,v6,v36,lenF,mn,v300,m3,hi6,hk36,hq3,p1,p2,-tE,-Mm]
   exact⟨lR.mpr jR,fin G' hGl' s2⟩
 obtain⟨t,e,qs,rfl,h⟩:=key
 exact⟨qs,e,h⟩
theorem Qq{v:List Int}{μ:Mu}(h:∀n∈v,n≠0):oIn false (.int 0) (au v) μ=some (.bl false,μ):=by
 have e:inF (.int 0) (v.map D.int)=false:=by
  unfold inF
  rw[List.any_map,List.any_eq_false]
  intro n hn
  have:=h n hn
  show¬(n==0)=true
  simpa using this
 unfold oIn au
 simp[qT,e]
theorem Nk{d:Nat}{ps:List (List Int)}(P:Pl d ps){L:List Int}(hL:DlD L){junk:Mu}(hj:il junk):∃L',DlD L'/\gP [.cell 0,.lst (ps.map au)] (some (L.map .int)::junk)=some (.bl true,some (L'.map .int)::junk):=by
 have G:=P.geo
 have hl:=P.len
 have d1:=G.d1
 have d3:=G.d2
 suffices h:∃L',DlD L'/\aG 5 (jH bH aU cW jB cL bY fM bA cH gj) [.cell 0,.lst (ps.map au)] (some (L.map .int)::junk)=some (.bl true,some (L'.map .int)::junk) by
  obtain⟨L',h1,h2⟩:=h
  exact⟨L',h1,qt h2 (by simp)⟩
 obtain⟨t,et,hT⟩:=Tf.2 d ps (some (L.map .int)::junk) G hj.dr
 obtain⟨v,rfl,vl,vs,vg,vf,vt⟩:=Ho P hT
 obtain⟨hdue,vne⟩:=NZ P vl vg vf vt
 obtain⟨em,sm⟩:=Cd d ps (some (L.map .int)::junk) hj.dr d1 d3 hl G.rows
 have hml:(dm d ps).length=ps.length:=by unfold dm;simp
 have hmne:∃n∈dm d ps,n≠0:=by
  cases e:dm d ps with
  |nil=>rw[e]at hml;simp at hml;omega
  |cons a b=>exact⟨a,by simp,Aj P a (by rw[e];simp)⟩
 have el:=Mi (dm d ps) (some (L.map .int)::junk) (by omega) hmne λn hn=>bZ (sm n hn) (by decide)
 rw[hdue]at el
 have ep:=plain'.2 d ps (some (L.map .int)::junk) G (by omega) hj.dr
 rw[BJ P]at ep
 have es:cL [au v,au v] (some (L.map .int)::junk)=some (.bl true,some (L.map .int)::junk):=Tz v _ (by omega)
 have e0:=Qq (μ:=some (L.map .int)::junk) vne
 have eb:=λ(z:Int)(μ:Mu)(hm:il μ)=>Sw v z μ hm (λe=>by rw[e]at vl;simp at vl;omega) (by omega) vs
 have eh:=λ(qs:List Int)(hq:∀x∈qs,Sm 2000 x) (μ:Mu)=>Ue d ps (au qs) μ G (lR.mpr jR) (λi hi=>by
  obtain⟨x,hx,e⟩:=Zq.mp hi
  cases e
  exact hq _ hx)
 have emu:=λ(qs:List Int)(ql:qs.length=v.length)(hq:∀x∈qs,Sm 2000 x) (μ:Mu)=>Rv v qs μ (by omega) hq
 have key:=λ(qs:List Int)(ql:qs.length=v.length)=>Gq P vl (by omega:qs.length=ps.length) vg vf vt
 have ein:lu (.bl true) (.bl true) (some (L.map .int)::junk)=some (.bl false,some (L.map .int)::junk):=by unfold lu;rfl
 obtain⟨nn,hnn⟩:∃nn:Int,nn=ps.length:=⟨_,rfl⟩
 have l1:∀μ,dN (.lst (ps.map au)) μ=some (.int nn,μ):=λμ=>by rw[Av,Zu,hnn]
 have r10:=λμ=>zu (j:=10) (μ:=μ) (by decide) (by decide)
 have rn:=λμ=>zu (j:=nn) (μ:=μ) (by omega) (by omega)
 have hsl:∀k,k<d+2->∀μ,oSl (.lst (ps.map au)) none (some (k:Int)) μ=some (.lst ((ps.take k).map au),μ)/\oSl (.lst (ps.map au)) (some ((k:Int)+1)) none μ=some (.lst ((ps.drop (k+1)).map au),μ)/\bW (.lst ((ps.take k).map au)) (.lst ((ps.drop (k+1)).map au)) μ=some (.lst ((ps.eraseIdx k).map au),μ):=λk hk μ=>by
  refine⟨?_,?_,?_⟩
  .rw[Qf (by omega),List.map_take];rfl
  .rw[tG (by omega),List.map_drop];rfl
  .rw[Gb,if_pos (szl (by rw[Zu,Zu,List.length_take,List.length_drop];omega)),<-List.map_append,List.eraseIdx_eq_take_drop_succ]
 have htn:=λ(k:Nat)(hk:k<d+2)(μ:Mu)(hm:il μ)=>Tf.2 d (ps.eraseIdx k) μ (Eg P hk) hm
 have hit:∀t∈cU 0 nn.toNat,∃k:Nat,t= .int (k:Int)/\k<d+2:=λt ht=>by
  obtain⟨k,rfl,h0,h1⟩:=De ht
  exact⟨k.toNat,by rw[Int.toNat_of_nonneg (by omega)],by omega⟩
 have eF:∀(qs:List Int),D.tup (qs.map .int)=au qs:=λ_=>rfl
 have hpts:HF ps= .lst (ps.map au):=rfl
 rw[hpts]at eh
 generalize hA:D.lst (ps.map au)=A at *
 generalize hV:au v=V at *
 generalize au (dm d ps)=MV at *
 generalize cU 0 nn.toNat=RN at *
 have hw:∀(A B:SF)(QS:Post (Fl×En×Mu))(δ:En)(μ:Mu),True:=λ_ _ _ _ _=>trivial
 suffices h:Ok (aG 5 (jH bH aU cW jB cL bY fM bA cH gj) [.cell 0,A] (some (L.map .int)::junk)) (λq=>∃L',DlD L'/\q=(.bl true,some (L'.map .int)::junk)) by
  obtain⟨q,h1,L',h2,rfl⟩:=h
  exact⟨L',h2,h1⟩
 apply mJ
 unfold jH
 simp[em,el,ep,ein,et,es,e0,r10]
 refine fD (λits δ μ'=>∃L o3 o4,DlD L/\μ'=some (L.map .int)::junk/\δ=[some (.cell 0),some A,some V,o3,o4]) ?_ ?_ _ _ _ ⟨L,none,none,hL,rfl,rfl⟩
 .rintro it its δ μ' ⟨L,o3,o4,hL,rfl,rfl⟩
  obtain⟨z,L1,e1,hz,hL1⟩:=pQ Cy hL junk
  obtain⟨qs,f1,f2,f3⟩:=eb z (some (L1.map .int)::junk) hj.dr
  have g1:=eh qs f3 (some (L1.map .int)::junk)
  have g2:=emu qs f2 f3 (some (L1.map .int)::junk)
  rw[<-key qs f2]at g2
  have g3:Ij (d+1) ps (au qs)=lU (d+1) ps qs:=vq
  rw[g3]at g1
  generalize lU (d+1) ps qs=b at *
  generalize au qs=Q at *
  simp[e1,f1,g1,g2,Ub]
  exact⟨L1,hL1,rfl⟩
 .rintro δ μ' ⟨L,o3,o4,hL,rfl,rfl⟩
  simp[l1,rn]
  refine fD (λits δ μ'=>∃o3 o4,(∀t∈its,∃k:Nat,t= .int (k:Int)/\k<d+2)/\μ'=some (L.map .int)::junk/\δ=[some (.cell 0),some A,some V,o3,o4]) ?_ ?_ _ _ _ ⟨o3,o4,hit,rfl,rfl⟩
  .rintro it its δ μ' ⟨o3,o4,hi,rfl,rfl⟩
   obtain⟨k,rfl,hk⟩:=hi it (by simp)
   obtain⟨s1,s2,s3⟩:=hsl k hk (some (L.map .int)::junk)
   obtain⟨t,et,hT⟩:=htn k hk (some (L.map .int)::junk) hj.dr
   have:=Ah P hk hT
   subst this
   have hi':∀t∈its,∃k:Nat,t= .int (k:Int)/\k<d+2:=λt ht=>hi t (List.mem_cons_of_mem _ ht)
   generalize (k:Int)=kk at s1 s2 ⊢
   generalize (ps.take k).map au=T1 at *
   generalize (ps.drop (k+1)).map au=T2 at *
   generalize (ps.eraseIdx k).map au=T3 at *
   simp[s1,s2,s3,et,gC,-Gb]
   exact hi'
  .rintro δ μ' ⟨o3,o4,hi,rfl,rfl⟩
   simp
   exact⟨L,hL,rfl⟩
theorem Lr{v:List Int}{μ:Mu}:oIn true (.int 0) (au v) μ=some (.bl (!v.any (· ==0)),μ):=by
 have e:inF (.int 0) (v.map D.int)=v.any (· ==0):=by
  unfold inF
  rw[List.any_map]
  rfl
 unfold oIn au
 simp[qT,e]
theorem Gm(d kd:Int)(d1:1<=d)(d3:d<=3)(k0:0<=kd)(k4:kd<=4)(junk:Mu)(hj:il junk)(all:List D):∀(its:List Int)(L:List Int),DlD L->∃(ps:List D)(L':List Int),
  lcL ⟨all,none⟩ (hName 0) bU (MC (ao (MC (ao (ak 1) (aC)) bY) (ao (ak 2) (ao (ak 3) (ao (mC (.int 0)) (aC))))) fX) [none,some (.cell 0),some (.int d),some (.int kd)] (its.map .int) (some (L.map .int)::junk)=some (ps,some (L'.map .int)::junk)/\DlD L'/\ps.length=its.length/\∀p∈ps,Ds d.toNat p
 | [],L,hL=>⟨[],L,by unfold lcL;simp[bB],hL,rfl,λr h=>by cases h⟩
 |i::its,L,hL=>by
  obtain⟨x,L1,e1,hx,hL1⟩:=pQ Cy hL junk
  obtain⟨p,e2,hp⟩:=Jv x d kd 0 (some (L1.map .int)::junk) hj.dr hx d1 d3 k0 k4 (by decide) (by decide)
  obtain⟨ps,L',e,hL',hl,hq⟩:=Gm d kd d1 d3 k0 k4 junk hj all its L1 hL1
  refine⟨p::ps,L',?_,hL',by simp[hl],λq hq'=>?_⟩
  .rw[Zj]
   unfold lcL
   simp[bB,bU,e1,e2,e]
  .rcases Zi.mp hq' with z|z
   .rw[z];exact hp
   .exact hq q z
theorem Kg(ns:List Int)(h:ns.length<=63):∃μ',Ad [.ro (ns.map .int)] []=some (.bl true,μ'):=by
 apply LK
 obtain⟨L,eD,hL⟩:=HJ Qd ns h
 apply mJ
 obtain⟨nn,hnn⟩:∃nn:Int,nn=ns.length:=⟨_,rfl⟩
 have eD:fW [.ro (ns.map .int)] []=some (.cell 0,[some (L.map .int)]):=eD
 have elen:∀μ,dN (.ro (ns.map .int)) μ=some (.int nn,μ):=λμ=>by rw[hnn];simp
 have em2:∀μ,eG (.int 2) (.int nn) μ=some (.int (2*nn),μ):=λμ=>cg (x:=2) (y:=nn) μ (by unfold Sm;decide:Sm 2 2) (nH (b:=7) 128 (by omega) (by decide)) (by decide)
 obtain⟨tt,htt,ht2⟩:∃tt:Int,(∀μ,mK (.int 16) (.int (2*nn)) μ=some (.int tt,μ))/\0<=tt/\tt<=16:=by
  exact⟨min 16 (2*nn),λμ=>by rw[Mt],by omega,by omega⟩
 have rr:=λμ=>zu (j:=4+tt) (μ:=μ) (by omega) (by omega)
 have e4:∀μ,oLst [.int 0,.int 1,.int 2,.int 2] μ=some (.lst [.int 0,.int 1,.int 2,.int 2],μ):=λμ=>if_pos (szl (by simp))
 generalize hSC:D.ro (ns.map .int)=SC at *
 unfold qg
 simp[eD,elen,em2,htt,rr]
 refine fD (λits δ μ=>∃L o2 o3 o4 o5,DlD L/\μ=[some (L.map .int)]/\δ=[some SC,some (.cell 0),o2,o3,o4,o5]) ?_ ?_ _ _ _ ⟨L,none,none,none,none,hL,rfl,rfl⟩
 .rintro d2 rest δ μ ⟨L,o2,o3,o4,o5,hL,rfl,rfl⟩
  obtain⟨x,L1,e1,hx,hL1⟩:=pQ Cy hL []
  obtain⟨m0,m1⟩:=bM (x:=x) (m:=3) (by decide)
  obtain⟨d,hd⟩:∃d:Int,1+x.fmod 3=d:=⟨_,rfl⟩
  obtain⟨y,L2,e2,hy,hL2⟩:=pQ Cy hL1 []
  obtain⟨y0,y1⟩:=bM (x:=y) (m:=4) (by decide)
  obtain⟨mo,hmo,emo⟩:=pD (ds:=[D.int 0,.int 1,.int 2,.int 2]) y0 y1
  have hmo:∃z:Int,mo= .int z/\0<=z/\z<=4:=by
   simp only[Zi,List.not_mem_nil,or_false]at hmo
   rcases hmo with rfl|rfl|rfl|rfl<;>exact⟨_,rfl,by decide,by decide⟩
  obtain⟨kd,rfl,k0,k4⟩:=hmo
  have r1:=λμ=>zu (j:=d+2) (μ:=μ) (by omega) (by omega)
  have zR:(cU 0 (d+2).toNat).length<=sizeLine:=szl (by rw[pM];omega)
  have hjs:cU 0 (d+2).toNat=((List.range (d+2).toNat).map λ(k:Nat)=>(0+(k:Int))).map D.int:=by unfold cU;rw[List.map_map];rfl
  obtain⟨ms0,L3,e3,hL3,hl3,hp3⟩:=Gm d kd (by omega) (by omega) k0 k4 [] il.nil (cU 0 (d+2).toNat) ((List.range (d+2).toNat).map λ(k:Nat)=>(0+(k:Int))) L2 hL2
  rw[<-hjs]at e3
  obtain⟨ms,rfl,hq⟩:=zj ms0 hp3
  have hml:ms.length=d.toNat+2:=by
   have:ms.length=(d+2).toNat:=by simpa using hl3
   omega
  have G:Geo d.toNat ms:=⟨by omega,by omega,hq,by omega,λz=>by rw[z]at hml;simp at hml⟩
  obtain⟨em,_⟩:=Cd d.toNat ms [some (L3.map .int)] il.nil.dr (by omega) (by omega) hml hq
  have ein:=Lr (v:=dm d.toNat ms) (μ:=[some (L3.map .int)])
  by_cases hb:(dm d.toNat ms).any (· ==0)=true
  .rw[hb]at ein
   generalize au (dm d.toNat ms)=MV at *
   generalize ms.map au=A at *
   generalize cU 0 (d+2).toNat=RG at *
   simp[e1,hd,e2,e4,emo,r1,zR,cu,e3,em,ein,-tE]
   exact⟨L3,hL3,rfl⟩
  .have hb':(dm d.toNat ms).any (· ==0)=false:=Bool.not_eq_true _▸hb
   rw[hb']at ein
   have P:Pl d.toNat ms:=Rm G hml λn hn=>by
    have:=List.any_eq_false.mp hb' n hn
    simpa using this
   obtain⟨L4,hL4,er⟩:=Nk P hL3 il.nil
   generalize au (dm d.toNat ms)=MV at *
   generalize ms.map au=A at *
   generalize cU 0 (d+2).toNat=RG at *
   simp[e1,hd,e2,e4,emo,r1,zR,cu,e3,em,ein,er,-tE]
   exact⟨L4,hL4,rfl⟩
 .rintro δ μ ⟨L,o2,o3,o4,o5,hL,rfl,rfl⟩
  simp
end Lk11
def PySem.W.Fast.tw10840370096316233356:=0
def PySem.W.Fast.tw11003828410213686827:=0
def PySem.W.Fast.tw12076201706221207721:=0
def PySem.W.Fast.tw12129596202794970124:=0
def PySem.W.Fast.tw12279528515303960016:=0
def PySem.W.Fast.tw12497762443868457551:=0
def PySem.W.Fast.tw1263483049717833589:=0
def PySem.W.Fast.tw13000319078335723803:=0
def PySem.W.Fast.tw13124679279515264361:=0
def PySem.W.Fast.tw13167354680793734559:=0
def PySem.W.Fast.tw13230029661550814711:=0
def PySem.W.Fast.tw13329330690067892158:=0
def PySem.W.Fast.tw13540495069128507753:=0
def PySem.W.Fast.tw1364510184618579707:=0
def PySem.W.Fast.tw14599851346563290634:=0
def PySem.W.Fast.tw14877885919016441585:=0
def PySem.W.Fast.tw15377134864297199041:=0
def PySem.W.Fast.tw15905453477536948280:=0
def PySem.W.Fast.tw16199365549055515645:=0
def PySem.W.Fast.tw16854822808641129621:=0
def PySem.W.Fast.tw17149747258782647323:=0
def PySem.W.Fast.tw17835227320142904025:=0
def PySem.W.Fast.tw18409937151411402097:=0
def PySem.W.Fast.tw2511004747784623905:=0
def PySem.W.Fast.tw2547274372901198467:=0
def PySem.W.Fast.tw408227479092668295:=0
def PySem.W.Fast.tw4290600676986687799:=0
def PySem.W.Fast.tw4574432849210148937:=0
def PySem.W.Fast.tw4734188530151398607:=0
def PySem.W.Fast.tw4800996210795008476:=0
def PySem.W.Fast.tw5554732761386054684:=0
def PySem.W.Fast.tw577362385306334492:=0
def PySem.W.Fast.tw7194453424664408829:=0
def PySem.W.Fast.tw8822730055293350798:=0
def PySem.W.Fast.tw9028536681013211072:=0
def PySem.W.Fast.tw9548287744609042668:=0
def PySem.W.Fast.tw9577509129328343529:=0
open PySem PySem.W PyProof.Rows
set_option maxRecDepth 100000 in
set_option maxHeartbeats 0 in
theorem PySem.Challenge.cw_heapsmeet_k11_whole_one_tie_of_plain_poi_holds : PySem.Challenge.rw_heapsmeet_k11_whole_one_tie_of_plain_poi.Holds := by
 w_on; o_law; k_head; (case hw => w_witness2)
 k_fill
 refine L3.Gr (l := PySem.Challenge.rw_heapsmeet_k11_whole_one_tie_of_plain_poi) (n := 63) (k := 10) (x := "_law_script") (φ := Lk11.Ad) rfl (by decide) rfl ⟨rfl, by decide, by decide⟩ (λ w h Y => by first | exact PySem.W.kIn_of Y | exact PySem.W.km_in_of Y) ?F ?S
 case F =>
  intro w mg mb mean lo fa h KX G hmg
  apply Lk11.Oo KX G hmg <;> first | (apply L3.QL <;> first | k_is | rfl) | k_is | rfl
 case S => exact λ ns hl => Lk11.Kg ns hl
