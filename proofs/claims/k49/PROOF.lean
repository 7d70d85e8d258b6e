import PyProof.Rows.All
import Wide.All
import OpenK.AllK
import Wide.FinOn
import Lean
import PyProof.EqAt
import PyProof.EqKinds
import PyProof.TupleCall
import PySem.Challenge.RW_heapsmeet_k49_no_trails
set_option Elab.async false
abbrev Za:=@Option.bind_eq_some_iff
abbrev Zb:=@PySem.Heap.get?_push_of_some
abbrev Zc:=@Nat.lt_of_lt_of_le
abbrev Zd:=@List.size_toArray
abbrev Ze:=@PySem.Heap.lt_size
abbrev Zf:=@PySem.Heap.get?_push_size
abbrev Zg:=@Nat.le_refl
abbrev Zh:=@List.getElem?_eq_some_iff
abbrev Zi:=@List.mem_cons
abbrev Zj:=@List.map_cons
abbrev Zk:=@Nat.ne_of_lt
abbrev Zl:=@Nat.le_trans
abbrev Zm:=@List.mem_append
abbrev Zn:=@List.mem_append_right
abbrev Zo:=@Bool.and_eq_true
abbrev Zp:=@Option.map_eq_some_iff
abbrev Zq:=@List.mem_map
abbrev Zr:=@Bool.false_ne_true
abbrev Zs:=@List.getElem?_append_left
abbrev Zt:=@PySem.mem_of_lookup
abbrev Zu:=@List.length_map
set_option linter.all false
set_option maxRecDepth 100000
namespace L2
open PySem PySem.Spec PyProof.Rows
abbrev Key:=Sum Int Str
def Ag:Key->Value->Bool
 | .inl k,v=>Value.isInt k v
 | .inr x,v=>Value.isStrOf x v
def keyH(w:World):Key->Int
 | .inl k=>hashInt k
 | .inr x=>hashStr w x
theorem fM:∀{k:Key}{v:Value},Ag k v=true->(∃i t,k=Sum.inl i/\v=Value.int i t)∨(∃x t,k=Sum.inr x/\v=Value.str x t)
 | .inl i,v,h=>by
  obtain⟨t,e⟩:=Value.isInt_shape (k:=i) (v:=v) h
  exact .inl ⟨i,t,rfl,e⟩
 | .inr x,v,h=>by
  obtain⟨t,e⟩:=Value.isStrOf_shape (x:=x) (v:=v) h
  exact .inr ⟨x,t,rfl,e⟩
theorem Im(i:Int)(t:Tok):Ag (.inl i) (.int i t)=true:=by simp[Ag,Value.isInt]
theorem HQ(x:Str)(t:Tok):Ag (.inr x) (.str x t)=true:=by simp[Ag,Value.isStrOf]
theorem Uc(a b:Int):decide ((Sum.inl a:Key)=Sum.inl b)=(a==b):=by
 by_cases e:a=b
 .subst e;simp
 .have h:¬(Sum.inl a:Key)=Sum.inl b:=λq=>e (Sum.inl.inj q)
  rw[decide_eq_false h]
  exact(beq_eq_false_iff_ne.mpr e).symm
theorem Ua(a b:Str):decide ((Sum.inr a:Key)=Sum.inr b)=decide (a=b):=by
 by_cases e:a=b
 .subst e;simp
 .have h:¬(Sum.inr a:Key)=Sum.inr b:=λq=>e (Sum.inr.inj q)
  rw[decide_eq_false h,decide_eq_false e]
theorem Ul(a:Int)(b:Str):decide ((Sum.inl a:Key)=Sum.inr b)=false:=decide_eq_false (λq=>nomatch q)
theorem Vv(a:Str)(b:Int):decide ((Sum.inr a:Key)=Sum.inl b)=false:=decide_eq_false (λq=>nomatch q)
def jW(prog:Program)(w:World):PySem.KeyKind prog w Key where
 is:=Ag
 hash:=keyH w
 inj:=λv a b ha hb=>by
  rcases fM ha with⟨i,t,rfl,rfl⟩|⟨x,t,rfl,rfl⟩
  .rcases fM hb with⟨j,u,rfl,e⟩|⟨y,u,rfl,e⟩
   .injection e with e1 _;rw[e1]
   .exact nomatch e
  .rcases fM hb with⟨j,u,rfl,e⟩|⟨y,u,rfl,e⟩
   .exact nomatch e
   .injection e with e1 _;rw[e1]
 byValue:=λk v h=>by
  rcases fM h with⟨i,t,rfl,rfl⟩|⟨x,t,rfl,rfl⟩<;>rfl
 pyHash:=λhv h=>by
  rcases fM hv with⟨i,t,rfl,rfl⟩|⟨x,t,rfl,rfl⟩
  .exact wpAny_pyHash_int h
  .exact wpAny_pyHash_str h
 eqBool:=λhu hv h=>by
  rcases fM hu with⟨i,t,rfl,rfl⟩|⟨x,t,rfl,rfl⟩
  .rcases fM hv with⟨j,u,rfl,rfl⟩|⟨y,u,rfl,rfl⟩
   .rw[Uc]at h;exact wpAny_eqBool_int h
   .rw[Ul]at h;exact SeqAt.EqAt.int_str i t y u _ _ _ _ h
  .rcases fM hv with⟨j,u,rfl,rfl⟩|⟨y,u,rfl,rfl⟩
   .rw[Vv]at h;exact SeqAt.EqAt.str_int x t j u _ _ _ _ h
   .rw[Ua]at h;exact wpAny_eqBool_str h
 «strs»:=λk x t v h=>by
  rcases fM h with⟨i,u,rfl,e⟩|⟨y,u,rfl,e⟩
  .exact nomatch e
  .injection e with e1 _
   subst e1
   cases v<;>rfl
theorem CW(prog:Program)(w:World)(i:Int)(t:Tok):(jW prog w).is (.inl i) (.int i t)=true:=Im i t
theorem Du(prog:Program)(w:World)(x:Str)(t:Tok):(jW prog w).is (.inr x) (.str x t)=true:=HQ x t
inductive V where
 |non|bl (b:Bool)|int (i:Int)|str (x:Str)|byt (b:Array UInt8)|flt (b:UInt64)|ref (a:Addr)|ty (n:String)
 deriving DecidableEq
def RelV:V->Value->Prop
 | .non,u=>u=Value.none
 | .bl b,u=>u=Value.bool b
 | .int i,u=>∃t,u=Value.int i t
 | .str x,u=>∃t,u=Value.str x t
 | .byt b,u=>∃t,u=Value.bytes b t
 | .flt b,u=>∃t,u=Value.float b t
 | .ref a,u=>u=Value.ref a
 | .ty n,u=>u=Value.type n
abbrev Vals:List V->List Value->Prop:=Paired RelV
theorem Vals.length{xs:List V}{us:List Value}(r:Vals xs us):xs.length=us.length:=Paired.length r
theorem Vals.get:∀{xs:List V}{us:List Value}{i:Nat}{x:V},Vals xs us->xs[i]? =some x->∃u,us[i]? =some u/\RelV x u
 |_,_,_,_,.nil,e=>by simp at e
 |_,_,0,_,.cons r _,e=>by simp at e;subst e;exact⟨_,rfl,r⟩
 |_,_,i+1,x,.cons _ t,e=>by
  obtain⟨u,h1,h2⟩:=Vals.get (i:=i) (x:=x) t (by simpa using e)
  exact⟨u,by simpa using h1,h2⟩
theorem Vals.set{x:V}{u:Value}(r:RelV x u):∀{xs:List V}{us:List Value}(i:Nat),Vals xs us->Vals (xs.set i x) (us.set i u)
 |_,_,_,.nil=>.nil
 |_,_,0,.cons _ t=>.cons r t
 |_,_,i+1,.cons q t=>.cons q (Vals.set r i t)
theorem Vals.append:∀{xs ys:List V}{us ws:List Value},Vals xs us->Vals ys ws->Vals (xs++ys) (us++ws)
 |_,_,_,_,.nil,s=>s
 |_,_,_,_,.cons r t,s=>.cons r (Vals.append t s)
theorem Vals.take:∀{xs:List V}{us:List Value}(n:Nat),Vals xs us->Vals (xs.take n) (us.take n)
 |_,_,0,_=>.nil
 |_,_,_+1,.nil=>.nil
 |_,_,n+1,.cons r t=>.cons r (Vals.take n t)
theorem Vals.drop:∀{xs:List V}{us:List Value}(n:Nat),Vals xs us->Vals (xs.drop n) (us.drop n)
 |_,_,0,r=>r
 |_,_,_+1,.nil=>.nil
 |_,_,n+1,.cons _ t=>Vals.drop n t
theorem Vals.none_of:∀{xs:List V}{us:List Value}{i:Nat},Vals xs us->xs[i]? =none->us[i]? =none:=λ{xs us i} r e=>by
 have h1:=r.length
 have h2:xs.length<=i:=List.getElem?_eq_none_iff.mp e
 exact List.getElem?_eq_none_iff.mpr (by omega)
def Xy:Option V->Option Value->Prop
 |some v,some u=>RelV v u
 |none,none=>True
 |_,_=>False
def KV{κ:Type}:List (κ×V)->List (κ×Value)->Prop:=Paired λ(p:κ×V)(q:κ×Value)=>p.1=q.1/\RelV p.2 q.2
def kV:Key->V
 | .inl i=>.int i
 | .inr x=>.str x
inductive HO where
 |lst (xs:List V)
 |tup (xs:List V)
 |dK (kvs:List (Key×V))|dT (kvs:List (List Key×V))
 |set (S:Int->Bool) (n:Nat)
 |ins (C dx:Addr) (fs:List (Str×V))
 |own (x:Addr)
 |xd (fs:List (Str×V))
 |met (f x:Addr)
 |rng (lo hi:Int)
 |frz (o:Obj) (u:HO)
 |tbl (ps:Array Value)
 |ext (φ:Heap->Prop)
abbrev Hp:=Addr->Option HO
def upd(H:Hp)(a:Addr)(o:HO):Hp:=λb=>if b=a then some o else H b
theorem gV{H:Hp}{a:Addr}{o:HO}:upd H a o a=some o:=by unfold upd;rw[if_pos rfl]
theorem aX{H:Hp}{a b:Addr}{o:HO}(h:b≠a):upd H a o b=H b:=by unfold upd;rw[if_neg h]
theorem HH{H:Hp}{a b:Addr}{o u:HO}(h:H a=some o)(h':H b=some u)(d:o≠u):a≠b:=by
 intro e;subst e;rw[h]at h';exact d (Option.some.inj h')
theorem dz{H:Hp}{a b:Addr}{o:HO}(h:H a=some o)(h':H b=none):a≠b:=by
 intro e;subst e;rw[h]at h';cases h'
section
variable (P:Program) (w:World)
def jB(H:Hp)(h:Heap)(a:Addr):HO->Prop
 | .lst xs=>xs.length<=sizeLine/\∃(its:List Value)(n:Nat),Vals xs its/\h.get? a=some { cls:=.type "list",data:=.seq its.toArray n}
 | .tup xs=>xs.length<=sizeLine/\∃its:List Value,Vals xs its/\IsTup h a its.toArray
 | .dK kvs=>kvs.length<=sizeLine/\(a==sysModules)=false/\∃vs,KV kvs vs/\h.DictOf (jW P w) a vs
 | .dT kvs=>kvs.length<=sizeLine/\(a==sysModules)=false/\∃xs:List (List Key×Addr×Value),
   Paired (λ(p:List Key×V)(q:List Key×Addr×Value)=>p.1=q.1/\H q.2.1=some (.tup (p.1.map kV))/\RelV p.2 q.2.2) kvs xs/\
   ∃o es ep,h.get? a=some o/\o.ExactDict/\o.data= .dict es ep/\es.toList=xs.map (entryOfKey (tupleKind (jW P w)))/\(xs.map (·.1)).Nodup
 | .set S n=>h.SetOf (intKind P w) a S n
 | .ins C dx fs=>H dx=some (.own a)/\fs.length<=1000/\dx≠a/\h.get? a=some (PySem.W.instObj C dx)/\
   ∃mA,h.Ns1 dx mA/\(∀f,Xy (fs.lookup f) (mA f))/\PySem.Within mA (fs.map (·.1))
 | .own _=>∃o,h.get? a=some o
 | .xd fs=>∃mA,h.Ns1 a mA/\∀f,Xy (fs.lookup f) (mA f)
 | .rng lo hi=>∃t u v,h.get? a=some { cls:=.type "range",data:=.fields #[.int lo t,.int hi u,.int 1 v] }
 | .frz o u=>h.get? a=some o/\jB H h a u
 | .tbl ps=>h.get? a=some { cls:=.none,data:=.fields ps}
 | .met f x=>h.get? a=some (PySem.W.methodObj (.ref f) (.ref x))
 | .ext φ=>φ h/\(∃o,h.get? a=some o)/\∀h1 h2:Heap,φ h1->(∀o,h1.get? a=some o->h2.get? a=some o)->φ h2
def HOk(H:Hp)(h:Heap):Prop:=∀a o,H a=some o->jB P w H h a o
end
section
variable {P:Program} {w:World} {H H':Hp} {h h':Heap} {a:Addr} {o:HO}
theorem jB.lt(x:jB P w H h a o):a<h.objs.size:=by
 cases o with
 |lst xs=>obtain⟨_,_,_,_,e⟩:=x;exact Ze e
 |tup xs=>obtain⟨_,_,_,p⟩:=x;exact p.lt
 |dK kvs=>obtain⟨_,_,_,_,o,_,_,e,_⟩:=x;exact Ze e
 |dT kvs=>obtain⟨_,_,_,_,o,_,_,e,_⟩:=x;exact Ze e
 |set S n=>obtain⟨o,_,_,_,e,_⟩:=x;exact Ze e
 |ins C dx fs=>obtain⟨_,_,_,e,_⟩:=x;exact Ze e
 |own y=>obtain⟨_,e⟩:=x;exact Ze e
 |xd fs=>obtain⟨_,⟨_,_,_,e,_⟩,_⟩:=x;exact Ze e
 |rng lo hi=>obtain⟨_,_,_,e⟩:=x;exact Ze e
 |frz ob u=>obtain⟨e,_⟩:=x;exact Ze e
 |tbl ps=>exact Ze (show h.get? a=some _ from x)
 |met f y=>exact Ze (show h.get? a=some _ from x)
 |ext φ=>obtain⟨_,⟨_,e⟩,_⟩:=x;exact Ze e
theorem Paired.mapP{α β:Type}{F G:α->β->Prop}:∀{l₁:List α}{l₂:List β},Paired F l₁ l₂->(∀a b,F a b->G a b)->Paired G l₁ l₂
 |_,_,.nil,_=>.nil
 |_,_,.cons r t,f=>.cons (f _ _ r) (Paired.mapP t f)
theorem jB.stay(x:jB P w H h a o)(k:∀b u,(b=a∨H b=some (.own a))->h.get? b=some u->h'.get? b=some u)
  (ho:∀b,H b=some (.own a)->H' b=some (.own a)) (ht:∀b xs,H b=some (.tup xs)->H' b=some (.tup xs)):jB P w H' h' a o:=by
 induction o with
 |lst xs=>obtain⟨z,its,n,r,e⟩:=x;exact⟨z,its,n,r,k _ _ (.inl rfl) e⟩
 |tup xs=>obtain⟨z,its,r,ob,e,c⟩:=x;exact⟨z,its,r,ob,k _ _ (.inl rfl) e,c⟩
 |dK kvs=>obtain⟨z,y,vs,r,ob,es,ep,e,c⟩:=x;exact⟨z,y,vs,r,ob,es,ep,k _ _ (.inl rfl) e,c⟩
 |dT kvs=>
  obtain⟨z,y,xs,r,ob,es,ep,e,c⟩:=x
  exact⟨z,y,xs,Paired.mapP r λp q z=>⟨z.1,ht _ _ z.2.1,z.2.2⟩,ob,es,ep,k _ _ (.inl rfl) e,c⟩
 |set S n=>obtain⟨ob,es,ep,t,e,c⟩:=x;exact⟨ob,es,ep,t,k _ _ (.inl rfl) e,c⟩
 |ins C dx fs=>
  obtain⟨d,z,ne,e,mA,⟨od,es,ep,e2,c⟩,r⟩:=x
  exact⟨ho _ d,z,ne,k _ _ (.inl rfl) e,mA,⟨od,es,ep,k _ _ (.inr d) e2,c⟩,r⟩
 |own y=>obtain⟨ob,e⟩:=x;exact⟨ob,k _ _ (.inl rfl) e⟩
 |xd fs=>obtain⟨mA,⟨od,es,ep,e,c⟩,r⟩:=x;exact⟨mA,⟨od,es,ep,k _ _ (.inl rfl) e,c⟩,r⟩
 |rng lo hi=>obtain⟨t,u,v,e⟩:=x;exact⟨t,u,v,k _ _ (.inl rfl) e⟩
 |frz ob u ih=>obtain⟨e,q⟩:=x;exact⟨k _ _ (.inl rfl) e,ih q⟩
 |tbl ps=>
  have e:h.get? a=some { cls:=.none,data:=.fields ps}:=x
  show h'.get? a=some { cls:=.none,data:=.fields ps}
  exact k a _ (.inl rfl) e
 |met f y=>
  have e:h.get? a=some (PySem.W.methodObj (.ref f) (.ref y)):=x
  show h'.get? a=some (PySem.W.methodObj (.ref f) (.ref y))
  exact k a _ (.inl rfl) e
 |ext φ=>obtain⟨p,⟨o,e⟩,st⟩:=x;exact⟨st _ _ p λo q=>k _ _ (.inl rfl) q,⟨o,k _ _ (.inl rfl) e⟩,st⟩
theorem HOk.lt(x:HOk P w H h)(e:H a=some o):a<h.objs.size:=(x a o e).lt
theorem HOk.fresh(x:HOk P w H h)(e:h.objs.size<=a):H a=none:=by
 cases q:H a with
 |none=>rfl
 |some u=>exact absurd (Zc (x.lt q) e) (Nat.lt_irrefl _)
theorem HOk.kept(x:HOk P w H h)(k:∀b u,h.get? b=some u->h'.get? b=some u):HOk P w H h':=λa o e=>
 (x a o e).stay (λb u _ q=>k b u q) (λ_ q=>q) λ_ _ q=>q
theorem HOk.laid(x:HOk P w H h)(k:∀b u,h.get? b=some u->h'.get? b=some u)(hp:h.objs.size<=a)(new:jB P w (upd H a o) h' a o):HOk P w (upd H a o) h':=λb u e=>by
 have hn:=x.fresh hp
 by_cases hb:b=a
 .subst hb;rw[gV]at e;cases e;exact new
 .rw[aX hb]at e
  exact(x b u e).stay (λc v _ q=>k c v q) (λc q=>by rw[aX (dz q hn)];exact q) λc xs q=>by rw[aX (dz q hn)];exact q
end
def Rd(H:Hp)(a:Addr)(u:HO):Prop:=H a=some u∨∃o,H a=some (.frz o u)
theorem Rd.ok{P:Program}{w:World}{H:Hp}{h:Heap}{a:Addr}{u:HO}(r:Rd H a u)(x:HOk P w H h):jB P w H h a u:=by
 rcases r with r|⟨o,r⟩
 .exact x a u r
 .obtain⟨_,q⟩:=x a _ r
  exact q
def Mut:Option HO->Prop
 |some (.lst _)=>True
 |some (.dK _)=>True
 |some (.dT _)=>True
 |some (.set _ _)=>True
 |some (.ins _ _ _)=>True
 |some (.ext _)=>True
 |_=>False
section
variable {P:Program} {w:World} {H:Hp} {h h':Heap} {x e:Addr} {o':HO}
theorem HOk.write(ok:HOk P w H h)(mu:Mut (H x))(he:e=x∨H e=some (.own x))(k:∀b u,b≠e->h.get? b=some u->h'.get? b=some u)(heo:∃u,h'.get? e=some u)
  (new:jB P w (upd H x o') h' x o'):HOk P w (upd H x o') h':=λb u q=>by
 have nown:∀c y,H c=some (.own y)->c≠x:=λc y r z=>by subst z;rw[r]at mu;exact mu
 have ntup:∀c xs,H c=some (.tup xs)->c≠x:=λc xs r z=>by subst z;rw[r]at mu;exact mu
 by_cases hb:b=x
 .subst hb;rw[gV]at q;cases q;exact new
 .rw[aX hb]at q
  by_cases hbe:b=e
  .have q':H b=some (.own x):=by
    rcases he with z|z
    .exact absurd (hbe.trans z) hb
    .rw[hbe];exact z
   rw[q]at q';cases q'
   obtain⟨v,hv⟩:=heo
   exact⟨v,by rw[hbe];exact hv⟩
  .refine(ok b u q).stay (λc v hc r=>k c v ?_ r) (λc r=>by rw[aX (nown c b r)];exact r) λc xs r=>by rw[aX (ntup c xs r)];exact r
   rcases hc with rfl|hc
   .exact hbe
   .rintro rfl
    rcases he with z|z
    .exact nown c b hc z
    .rw[hc]at z;cases z;exact hb rfl
end
structure Un(fs ex:List Addr)(H H':Hp)(h h':Heap):Prop where
 keep:∀b o,h.get? b=some o->H b=none->b∉fs->b∉ex->h'.get? b=some o
 slot:∀b o,h.get? b=some o->H b=none->b∈fs->b∉ex->∃sl,h'.get? b=some { o with slots:=sl}
 free:∀b o,h.get? b=some o->H b=none->b∉ex->H' b=none
 there:∀b o,h.get? b=some o->b∉ex->∃o',h'.get? b=some o'
 tups:∀b xs,H b=some (.tup xs)->H' b=some (.tup xs)
 frzs:∀b o u,H b=some (.frz o u)->H' b=some (.frz o u)
 tbls:∀b ps,H b=some (.tbl ps)->∃more,H' b=some (.tbl (ps++more))
section
variable {fs fs' ex ex':List Addr} {H H1 H2:Hp} {h h1 h2 h':Heap} {a x e:Addr} {o:HO}
theorem Un.any(u:Un fs ex H H1 h h1){b:Addr}{ob:Obj}(q:h.get? b=some ob)(n:H b=none)(hx:b∉ex):∃sl,h1.get? b=some { ob with slots:=sl}:=by
 by_cases hb:b∈fs
 .exact u.slot b ob q n hb hx
 .exact⟨ob.slots,u.keep b ob q n hb hx⟩
theorem Un.kept(k:∀b u,h.get? b=some u->h'.get? b=some u):Un fs ex H H h h':=
 ⟨λb ob q _ _ _=>k b ob q,λb ob q _ _ _=>⟨ob.slots,k b ob q⟩,λ_ _ _ n _=>n,λb ob q _=>⟨ob,k b ob q⟩,λ_ _ q=>q,λ_ _ _ q=>q,λ_ ps q=>⟨#[],by rw[q];simp⟩⟩
theorem Un.refl:Un fs ex H H h h:=Un.kept λ_ _ q=>q
theorem Un.laid(k:∀b u,h.get? b=some u->h'.get? b=some u)(hp:h.objs.size<=a)(hn:H a=none):Un fs ex H (upd H a o) h h' where
 keep:=λb u q _ _ _=>k b u q
 slot:=λb u q _ _ _=>⟨u.slots,k b u q⟩
 free:=λb u q n _=>by rw[aX (Zk (Zc (Ze q) hp))];exact n
 there:=λb u q _=>⟨u,k b u q⟩
 tups:=λb xs q=>by rw[aX (dz q hn)];exact q
 frzs:=λb u xs q=>by rw[aX (dz q hn)];exact q
 tbls:=λb ps q=>⟨#[],by rw[aX (dz q hn),q];simp⟩
theorem Un.write(mu:Mut (H x))(he:e=x∨H e=some (.own x))(k:∀b u,b≠e->h.get? b=some u->h'.get? b=some u)(heo:∃u,h'.get? e=some u):Un fs ex H (upd H x o) h h':=by
 have hx:∀b,H b=none->b≠x:=λb n z=>by subst z;rw[n]at mu;exact mu
 have hb:∀b,H b=none->b≠e:=λb n z=>by
  subst z
  rcases he with r|r
  .exact hx b n r
  .rw[n]at r;cases r
 have hm:∀b u,H b=some u->¬Mut (some u)->b≠x:=λb u q nm z=>by subst z;rw[q]at mu;exact nm mu
 refine⟨λb u q n _ _=>k b u (hb b n) q,λb u q n _ _=>⟨u.slots,k b u (hb b n) q⟩,λb u q n _=>by rw[aX (hx b n)];exact n,λb u q _=>?_,
  λb xs q=>by rw[aX (hm b _ q λz=>z)];exact q,λb u xs q=>by rw[aX (hm b _ q λz=>z)];exact q,λb ps q=>⟨#[],by rw[aX (hm b _ q λz=>z),q];simp⟩⟩
 by_cases hbe:b=e
 .subst hbe;exact heo
 .exact⟨u,k b u hbe q⟩
end
def trk(h:Heap)(H:Hp):List Addr:=(List.range h.objs.size).filter λa=>(H a).isSome
def Bg(h:Heap)(H:Hp):Heap:=PySem.W.hideAll h (trk h H)
theorem Jk(h:Heap)(H:Hp):(Bg h H).objs.size=h.objs.size:=PySem.W.hideAll_size _ _
theorem Ob{h:Heap}{H:Hp}{b:Addr}{o:Obj}(e:h.get? b=some o)(n:H b=none):(Bg h H).get? b=some o:=
 PySem.W.hideAll_get _ e λhm=>by
  have q:(H b).isSome=true:=(List.mem_filter.mp hm).2
  rw[n]at q;simp at q
theorem Ox{h:Heap}{H:Hp}{b:Addr}{o:Obj}(e:(Bg h H).get? b=some o):h.get? b=some o/\H b=none:=by
 have e':h.get? b=some o:=PySem.W.of_hideAll (trk h H) e
 refine⟨e',?_⟩
 cases q:H b with
 |none=>rfl
 |some x=>
  have hm:b∈trk h H:=List.mem_filter.mpr ⟨List.mem_range.mpr (Ze e'),by simp[q]⟩
  have z:(Bg h H).get? b=none:=PySem.W.hideAll_none (trk h H) hm
  rw[z]at e;cases e
def Rj(g h:Heap)(L:Addr):List (Addr×Obj):=(List.range h.objs.size).filterMap λa=>if a=L∨(g.get? a).isSome=true then none else(h.get? a).map λo=>(a,o)
def rest(g h:Heap)(L d:Addr):List (Addr×Obj):=(Rj g h L).filter λp=>decide (p.1≠d)
structure Mod(K:PySem.W.Frag)(mg:Str->Option Value)(base:Heap):Prop where
 kin:K.In base
 glob:base.Ns mainGlobals mg
 blt:∃mb,base.Ns builtinsNs mb/\∀x:Str,x≠"__name__"->mb x=bootBuiltins x
 nolimit:base.NoLimit
 bmain:∃bm ob,mg "__builtins__"=some (.ref bm)/\bm≠builtinsNs/\base.get? bm=some ob/\ob.cls= .type "module"/\ob.dict=some builtinsNs/\ob.data= .plain
structure Cx where
 prog:Program
 w:World
 K:PySem.W.Frag
 mg:Str->Option Value
 base:Heap
 A:Around
 N:List Str
 s₀:Shared
 H₀:Hp
 env:Env
 outer:List Env
 stack:List Env
 ex:List Addr
 fn:Str->Bool
 calm:Bool
 pn:List (Addr×Obj)
 xe:Value->Shared->Prop
def frs(l:List Env):List Addr:=l.filterMap (·.frame)
abbrev Cx.fs(X:Cx):List Addr:=frs X.outer
def Vis(sc:Scope)(x:Str):Prop:=sc.names.lookup x=some .local∨sc.names.lookup x=some .cell∨sc.names.lookup x=some .free
def Loc(sc:Scope)(x:Str):Prop:=sc.names.lookup x=some .local∨sc.names.lookup x=some .cell
def Look(env:Env)(h:Heap)(m:Str->Option Value)(x:Str)(u:Value):Prop:=
 (env.kindOf x=some .local/\m x=some u)∨((env.kindOf x=some .cell∨env.kindOf x=some .free)/\∃c,env.cells.lookup x=some c/\h.IsCell c (some u))
structure Cx.Ok(X:Cx):Prop where
 mod:Mod X.K X.mg X.base
 kind:X.env.scope.kind= .function
 glob:X.env.globals=mainGlobals
 blt:X.env.builtins=builtinsNs
 above:X.s₀.heap.objs.size<=X.env.locals
 inj:∀x y c,X.env.cells.lookup x=some c->X.env.cells.lookup y=some c->x=y
 has:∀x,(X.env.kindOf x=some .cell∨X.env.kindOf x=some .free)->∃c,X.env.cells.lookup x=some c
 cab:∀x c,X.fn x=true->X.env.cells.lookup x=some c->X.s₀.heap.objs.size<=c
 hd:X.calm=true->X.A.handled=none
 frames:X.A.frames=some X.stack
 stk:X.stack=X.outer∨(X.stack=X.env::X.outer/\X.env.frame=some X.env.locals)
 exf:∀b∈X.ex,b≠X.env.locals/\∀x c,X.env.cells.lookup x=some c->c≠b
 bs:∀b o,X.base.get? b=some o->X.s₀.heap.get? b=some o/\X.H₀ b=none
 bsz:X.base.objs.size<=X.s₀.heap.objs.size
 noex:∀b o,X.base.get? b=some o->b∉X.ex
 exfs:∀b∈X.ex,b∉X.fs
 funs:X.s₀.heap.FunFrames X.base X.outer
 frf:∀b∈X.fs,X.H₀ b=none
structure GK(a b:Array GenState):Prop where
 bare:AllBare b
 kept:∀(k:Nat)(g:GenState),a[k]? =some g->b[k]? =some g
theorem GK.refl{a:Array GenState}(h:AllBare a):GK a a:=⟨h,λ_ _ e=>e⟩
theorem GK.trans{a b c:Array GenState}(x:GK a b)(y:GK b c):GK a c:=⟨y.bare,λk g e=>y.kept k g (x.kept k g e)⟩
theorem GK.again{a b:Array GenState}(x:GK a b):GK b b:=GK.refl x.bare
structure Inv(X:Cx)(pins:List (Addr×Obj))(σ:List (Option V))(H:Hp)(s:Shared):Prop where
 ok:X.Ok
 os:s.os=X.s₀.os
 bare:GK X.s₀.gens s.gens
 base:Un X.fs X.ex X.H₀ H X.s₀.heap s.heap
 loc:∃m,s.heap.Ns X.env.locals m/\∀(i:Nat)(x:Str)(v:V),X.N[i]? =some x->σ[i]? =some (some v)->Vis X.env.scope x->∃u,RelV v u/\Look X.env s.heap m x u
 cell:∀x c,X.env.cells.lookup x=some c->∃v,s.heap.IsCell c v
 free:H X.env.locals=none
 freeC:∀x c,X.env.cells.lookup x=some c->H c=none
 pin:∀p∈X.pn++pins,s.heap.get? p.1=some p.2/\H p.1=none/\p.1≠X.env.locals/\p.1∉X.fs/\∀v,p.2.data≠ .cell v
 hok:HOk X.prog X.w H s.heap
 len:σ.length=X.N.length
section
variable {X:Cx} {pins:List (Addr×Obj)} {σ:List (Option V)} {H H':Hp} {s:Shared} {h':Heap}
theorem Cx.Ok.nofr(ok:X.Ok){b:Addr}{o:Obj}(e:X.base.get? b=some o):b∉X.fs:=λhb=>by
 have:=(ok.funs.mem hb).1
 rw[e]at this;cases this
theorem Inv.bs(I:Inv X pins σ H s):∀b o,X.base.get? b=some o->s.heap.get? b=some o/\H b=none:=λb o e=>
 ⟨I.base.keep b o (I.ok.bs b o e).1 (I.ok.bs b o e).2 (I.ok.nofr e) (I.ok.noex b o e),I.base.free b o (I.ok.bs b o e).1 (I.ok.bs b o e).2 (I.ok.noex b o e)⟩
theorem Inv.bk(I:Inv X pins σ H s):∀b o,X.base.get? b=some o->s.heap.get? b=some o:=λb o e=>(I.bs b o e).1
theorem Inv.mod(I:Inv X pins σ H s):Mod X.K X.mg X.base:=I.ok.mod
theorem Inv.kIn(I:Inv X pins σ H s):X.K.In s.heap:=I.ok.mod.kin.keeps I.bk
theorem Inv.nolimit(I:Inv X pins σ H s):s.heap.NoLimit:=I.ok.mod.nolimit.keeps I.bk
theorem Inv.fr(I:Inv X pins σ H s):∃m,Fr X.base X.env.locals s.heap m:=
 let⟨m,hn,_⟩:=I.loc
 ⟨m,hn,I.bk,Zl I.ok.bsz I.ok.above⟩
theorem Inv.lt(I:Inv X pins σ H s):X.env.locals<s.heap.objs.size:=let⟨_,hn,_⟩:=I.loc;hn.lt
theorem Inv.sz(I:Inv X pins σ H s):X.s₀.heap.objs.size<=s.heap.objs.size:=Zl I.ok.above (Nat.le_of_lt I.lt)
theorem Inv.nofs(I:Inv X pins σ H s){a:Addr}(h:s.heap.objs.size<=a):a∉X.fs:=λhb=>by
 obtain⟨_,o,ho,_⟩:=I.ok.funs.mem hb
 exact absurd (Zc (Ze ho) (Zl I.sz h)) (Nat.lt_irrefl _)
theorem Inv.cne(I:Inv X pins σ H s):∀x c,X.env.cells.lookup x=some c->c≠X.env.locals:=λx c e z=>by
 obtain⟨v,o,ho,hd⟩:=I.cell x c e
 obtain⟨m,⟨o',es,ep,ho',hd',_⟩,_⟩:=I.loc
 rw[z,ho']at ho;cases ho;rw[hd']at hd;cases hd
theorem Inv.funs(I:Inv X pins σ H s):s.heap.FunFrames X.base X.outer:=by
 have all:∀(l:List Env),(∀b∈frs l,b∈X.fs)->X.s₀.heap.FunFrames X.base l->s.heap.FunFrames X.base l:=by
  intro l
  induction l with
  |nil=>intro _ _;trivial
  |cons env r ih=>
   intro hs hl
   obtain⟨hk,⟨L,o,hf,hn,ho,hd⟩,hr⟩:=hl
   have hL:L∈X.fs:=hs L (by unfold frs;rw[List.filterMap_cons,hf];exact List.mem_cons_self)
   obtain⟨sl,e⟩:=I.base.slot L o ho (I.ok.frf L hL) hL λz=>I.ok.exfs L z hL
   exact⟨hk,⟨L,_,hf,hn,e,hd⟩,ih (λb hb=>hs b (by unfold frs;rw[List.filterMap_cons,hf];exact List.mem_cons_of_mem _ hb)) hr⟩
 exact all X.outer (λ_ hb=>hb) I.ok.funs
theorem Inv.stack(I:Inv X pins σ H s):s.heap.FunFrames X.base X.stack:=by
 rcases I.ok.stk with e|⟨e,hf⟩
 .rw[e];exact I.funs
 .rw[e]
  obtain⟨m,hn,_⟩:=I.loc
  refine .cons (by rw[I.ok.kind];decide) hf hn ?_ I.funs
  exact Heap.get?_none_of_le (Zl I.ok.bsz I.ok.above)
theorem Inv.stkSub(I:Inv X pins σ H s):∀b∈frs X.stack,b∈X.env.locals::X.fs:=λb hb=>by
 rcases I.ok.stk with e|⟨e,hf⟩
 .rw[e]at hb;exact List.mem_cons_of_mem _ hb
 .rw[e]at hb
  unfold frs at hb
  rw[List.filterMap_cons,hf]at hb
  exact hb
theorem Inv.stkFree(I:Inv X pins σ H s):∀b∈frs X.stack,H b=none:=λb hb=>by
 rcases Zi.mp (I.stkSub b hb)with e|hb
 .rw[e];exact I.free
 .obtain⟨_,o,ho,_⟩:=I.ok.funs.mem hb
  exact I.base.free b o ho (I.ok.frf b hb) λz=>I.ok.exfs b z hb
theorem Inv.step{g':Array GenState}{t':Nat}{d':Drawn}{ch:List Addr}(I:Inv X pins σ H s)
  (hch:∀b∈ch,(b∈X.ex∨X.s₀.heap.objs.size<=b)/\b≠X.env.locals/\(∀x c,X.env.cells.lookup x=some c->c≠b)/\∀p∈X.pn++pins,p.1≠b)
  (keep:∀b o,b≠X.env.locals->b∉X.fs->b∉ch->s.heap.get? b=some o->H b=none->h'.get? b=some o)
  (slot:∀b o,b≠X.env.locals->b∈X.fs->b∉ch->s.heap.get? b=some o->H b=none->∃sl,h'.get? b=some { o with slots:=sl}) (free:∀b o,b∉ch->s.heap.get? b=some o->H b=none->H' b=none)
  (there:∀b o,b∉ch->s.heap.get? b=some o->∃o',h'.get? b=some o')
  (tups:∀b xs,H b=some (.tup xs)->H' b=some (.tup xs)) (frzs:∀b o u,H b=some (.frz o u)->H' b=some (.frz o u)) (tbls:∀b ps,H b=some (.tbl ps)->∃more,H' b=some (.tbl (ps++more)))
  (ns:∀m,s.heap.Ns X.env.locals m->h'.Ns X.env.locals m) (hok:HOk X.prog X.w H' h') (hg:GK s.gens g'):
  Inv X pins σ H' { s with heap:=h',gens:=g',drawn:=d',toks:=t'}:=by
 have neL:∀b o,X.s₀.heap.get? b=some o->b≠X.env.locals:=λb o e=>Zk (Zc (Ze e) I.ok.above)
 have neC:∀b o,X.s₀.heap.get? b=some o->b∉X.ex->b∉ch:=λb o e hx hb=>by
  rcases(hch b hb).1 with z|z
  .exact hx z
  .exact absurd (Zc (Ze e) z) (Nat.lt_irrefl _)
 have cellK:∀x c,X.env.cells.lookup x=some c->∀v,s.heap.IsCell c v->h'.IsCell c v:=λx c e v zq1=>by
  obtain⟨o,ho,hd⟩:=zq1
  have nch:c∉ch:=λz=>(hch c z).2.2.1 x c e rfl
  by_cases hc:c∈X.fs
  .obtain⟨sl,q⟩:=slot c o (I.cne x c e) hc nch ho (I.freeC x c e)
   exact⟨_,q,hd⟩
  .exact⟨o,keep c o (I.cne x c e) hc nch ho (I.freeC x c e),hd⟩
 refine⟨I.ok,I.os,I.bare.trans hg,⟨λb o e n hb hx=>?_,λb o e n hb hx=>?_,λb o e n hx=>?_,λb o e hx=>?_,λb xs e=>tups b xs (I.base.tups b xs e),λb o xs e=>frzs b o xs (I.base.frzs b o xs e),λb ps e=>?_⟩,?_,λx c e=>?_,?_,λx c e=>?_,λp hp=>?_,hok,I.len⟩
 .exact keep b o (neL b o e) hb (neC b o e hx) (I.base.keep b o e n hb hx) (I.base.free b o e n hx)
 .obtain⟨sl,e1⟩:=I.base.slot b o e n hb hx
  obtain⟨sl',e2⟩:=slot b _ (neL b o e) hb (neC b o e hx) e1 (I.base.free b o e n hx)
  exact⟨sl',e2⟩
 .obtain⟨o',e1⟩:=I.base.there b o e hx
  exact free b o' (neC b o e hx) e1 (I.base.free b o e n hx)
 .obtain⟨o',e1⟩:=I.base.there b o e hx
  exact there b o' (neC b o e hx) e1
 .obtain⟨m1,e1⟩:=I.base.tbls b ps e
  obtain⟨m2,e2⟩:=tbls b _ e1
  exact⟨m1++m2,by rw[e2,Array.append_assoc]⟩
 .obtain⟨m,hn,hl⟩:=I.loc
  refine⟨m,ns m hn,λi x v e1 e2 e3=>?_⟩
  obtain⟨u,r,l⟩:=hl i x v e1 e2 e3
  refine⟨u,r,?_⟩
  rcases l with l|⟨k,c,e,z⟩
  .exact .inl l
  .exact .inr ⟨k,c,e,cellK x c e _ z⟩
 .obtain⟨v,z⟩:=I.cell x c e
  exact⟨v,cellK x c e v z⟩
 .obtain⟨m,⟨o,_,_,ho,_⟩,_⟩:=I.loc
  exact free _ o (λz=>(hch _ z).2.1 rfl) ho I.free
 .obtain⟨v,o,ho,hd⟩:=I.cell x c e
  exact free c o (λz=>(hch c z).2.2.1 x c e rfl) ho (I.freeC x c e)
 .obtain⟨e,n,ne,nf,d⟩:=I.pin p hp
  have nch:p.1∉ch:=λz=>(hch p.1 z).2.2.2 p hp rfl
  exact⟨keep p.1 p.2 ne nf nch e n,free p.1 p.2 nch e n,ne,nf,d⟩
theorem Inv.un{t':Nat}(I:Inv X pins σ H s)(u:Un X.fs [] H H' s.heap h')(hok:HOk X.prog X.w H' h'):Inv X pins σ H' { s with heap:=h',toks:=t'}:=by
 obtain⟨m,⟨o,es,ep,ho,r⟩,_⟩:=id I.loc
 obtain⟨sl,hL⟩:=u.any ho I.free (by simp)
 exact I.step (g':=s.gens) (d':=s.drawn) (ch:=[]) (λ_ z=>nomatch z) (λb o _ hb _ e n=>u.keep b o e n hb (by simp)) (λb o _ hb _ e n=>u.slot b o e n hb (by simp)) (λb o _ e n=>u.free b o e n (by simp)) (λb o _ e=>u.there b o e (by simp)) u.tups u.frzs u.tbls (λm' hm=>by
  obtain⟨o',es',ep',ho',r'⟩:=hm
  rw[ho]at ho';cases ho'
  exact⟨_,es',ep',hL,r'⟩) hok I.bare.again
theorem Inv.call{g':Array GenState}{t':Nat}{d':Drawn}{ch:List Addr}(I:Inv X pins σ H s)(u:Un (frs X.stack) ch H H' s.heap h')(hok:HOk X.prog X.w H' h')(hg:GK s.gens g')
  (hch:∀b∈ch,(b∈X.ex∨X.s₀.heap.objs.size<=b)/\b≠X.env.locals/\(∀x c,X.env.cells.lookup x=some c->c≠b)/\∀p∈X.pn++pins,p.1≠b):
  Inv X pins σ H' { s with heap:=h',gens:=g',drawn:=d',toks:=t'}:=by
 obtain⟨m,⟨o,es,ep,ho,r⟩,_⟩:=id I.loc
 obtain⟨sl,hL⟩:=u.any ho I.free λz=>(hch _ z).2.1 rfl
 exact I.step (ch:=ch) hch (λb o hL hb hc e n=>u.keep b o e n (λz=>(Zi.mp (I.stkSub b z)).elim hL hb) hc) (λb o _ _ hc e n=>u.any e n hc) (λb o hc e n=>u.free b o e n hc) (λb o hc e=>u.there b o e hc) u.tups u.frzs u.tbls (λm' hm=>by
  obtain⟨o',es',ep',ho',r'⟩:=hm
  rw[ho]at ho';cases ho'
  exact⟨_,es',ep',hL,r'⟩) hok hg
theorem Inv.turned{t':Nat}{it:Addr}(I:Inv X pins σ H s)(k:∀b o,b≠it->s.heap.get? b=some o->h'.get? b=some o)(hn:H it=none)(hL:it≠X.env.locals)
  (h1:it∈X.ex∨X.s₀.heap.objs.size<=it) (h2:∀x c,X.env.cells.lookup x=some c->c≠it) (h3:∀p∈X.pn++pins,p.1≠it):Inv X pins σ H { s with heap:=h',toks:=t'}:=by
 have nit:∀b u,H b=some u->b≠it:=λb u e z=>by rw[z,hn]at e;cases e
 refine I.step (g':=s.gens) (d':=s.drawn) (ch:=[it]) (λb hb=>?_) (λb o _ _ hc e _=>k b o (λz=>hc (by simp[z])) e) (λb o _ _ hc e _=>⟨o.slots,k b o (λz=>hc (by simp[z])) e⟩) (λ_ _ _ _ n=>n)
  (λb o hc e=>⟨o,k b o (λz=>hc (by simp[z])) e⟩) (λ_ _ e=>e) (λ_ _ _ e=>e) (λb ps e=>⟨#[],by rw[e];simp⟩) (λm hm=>?_) (λb u e=>?_) I.bare.again
 .have e:b=it:=by simpa using hb
  subst e
  exact⟨h1,hL,h2,h3⟩
 .obtain⟨o,es,ep,ho,r⟩:=hm
  exact⟨o,es,ep,k _ o (Ne.symm hL) ho,r⟩
 .refine(I.hok b u e).stay (λc v hc q=>k c v ?_ q) (λ_ q=>q) λ_ _ q=>q
  rcases hc with z|z
  .rw[z];exact nit b u e
  .exact nit c _ z
theorem Inv.tok(I:Inv X pins σ H s)(t:Nat):Inv X pins σ H { s with toks:=t}:=I.un (h':=s.heap) (t':=t) Un.refl I.hok
theorem Inv.kept{t':Nat}(I:Inv X pins σ H s)(k:∀b u,s.heap.get? b=some u->h'.get? b=some u):Inv X pins σ H { s with heap:=h',toks:=t'}:=I.un (Un.kept k) (I.hok.kept k)
theorem Inv.laid{a:Addr}{o:HO}{t':Nat}(I:Inv X pins σ H s)(k:∀b u,s.heap.get? b=some u->h'.get? b=some u)(hp:s.heap.objs.size<=a)(new:jB X.prog X.w (upd H a o) h' a o):
  Inv X pins σ (upd H a o) { s with heap:=h',toks:=t'}:=I.un (Un.laid k hp (I.hok.fresh hp)) (I.hok.laid k hp new)
theorem Inv.write{x e:Addr}{o:HO}{t':Nat}(I:Inv X pins σ H s)(mu:Mut (H x))(he:e=x∨H e=some (.own x))(k:∀b u,b≠e->s.heap.get? b=some u->h'.get? b=some u)(heo:∃u,h'.get? e=some u)
  (new:jB X.prog X.w (upd H x o) h' x o):Inv X pins σ (upd H x o) { s with heap:=h',toks:=t'}:=I.un (Un.write mu he k heo) (I.hok.write mu he k heo new)
theorem Inv.weak{σ':List (Option V)}(I:Inv X pins σ H s)(hl:σ'.length=σ.length)(w:∀(i:Nat) v,σ'[i]? =some (some v)->σ[i]? =some (some v)):Inv X pins σ' H s:=
 ⟨I.ok,I.os,I.bare,I.base,let⟨m,hn,hl'⟩:=I.loc;⟨m,hn,λi x v e1 e2 e3=>hl' i x v e1 (w i v e2) e3⟩,I.cell,I.free,I.freeC,I.pin,I.hok,hl.trans I.len⟩
theorem Inv.pins_of{pins':List (Addr×Obj)}(I:Inv X pins σ H s)(h:∀p∈pins',s.heap.get? p.1=some p.2/\H p.1=none/\p.1≠X.env.locals/\p.1∉X.fs/\∀v,p.2.data≠ .cell v):Inv X pins' σ H s:=
 ⟨I.ok,I.os,I.bare,I.base,I.loc,I.cell,I.free,I.freeC,λp hp=>(Zm.mp hp).elim (λz=>I.pin p (List.mem_append_left _ z)) (h p),I.hok,I.len⟩
theorem Ew{N:List Str}(hN:N.Nodup){i j:Nat}{x:Str}(a:N[i]? =some x)(b:N[j]? =some x):i=j:=by
 obtain⟨h1,e1⟩:=Zh.mp a
 obtain⟨h2,e2⟩:=Zh.mp b
 exact(List.getElem_inj hN).mp (e1.trans e2.symm)
theorem Aj{M:Model}{A:Around}{E:Value->Shared->Prop}{i:Nat}{x:Str}{v:V}{u:Value}{Q:Unit->Shared->Prop}(I:Inv X pins σ H s)(hN:X.N.Nodup)(hi:X.N[i]? =some x)(hx:Loc X.env.scope x)(r:RelV v u)
  (h:∀s',Inv X pins (σ.set i (some v)) H s'->(∃a,Heap.SameBut a s.heap s'.heap/\(a=X.env.locals∨X.env.cells.lookup x=some a))->Q () s') (hf:X.fn x=true∨X.env.scope.names.lookup x=some .local:=by first|exact .inl rfl|exact .inr rfl|assumption):wpAny M A (storeName X.env x u) Q E s:=by
 obtain⟨m,hn,hl⟩:=id I.loc
 have hcls:(X.env.scope.kind== .class||(X.env.scope.kind== .module&&X.env.locals != X.env.globals))=false:=by rw[I.ok.kind];rfl
 have hiσ:i<σ.length:=by rw[I.len];exact(Zh.mp hi).1
 have cne:=I.cne
 have tracked:∀{a:Addr}{h':Heap},(∃o,s.heap.get? a=some o/\H a=none)->Heap.SameBut a s.heap h'->HOk X.prog X.w H h':=λ{a h'} ha hs b ob e=>by
  obtain⟨_,_,hfree⟩:=ha
  refine(I.hok b ob e).stay (λc w' hc q=>(hs.2 c ?_).trans q) (λ_ q=>q) λ_ _ q=>q
  rintro rfl
  rcases hc with rfl|hc
  .rw[hfree]at e;cases e
  .rw[hfree]at hc;cases hc
 rcases hx with hk|hk
 .refine wpAny_storeName_local hk hn (λh' hn' hs=>?_) hcls
  obtain⟨oL,_,_,hoL,_⟩:=id hn
  refine h _ ⟨I.ok,I.os,I.bare,⟨λb o e n hb hx=>?_,λb o e n hb hx=>?_,I.base.free,λb o e hx=>?_,I.base.tups,I.base.frzs,I.base.tbls⟩,⟨_,hn',λj y v' e1 e2 e3=>?_⟩,λy c e=>?_,I.free,I.freeC,λp hp=>?_,tracked ⟨oL,hoL,I.free⟩ hs,by simpa using I.len⟩ ⟨_,hs,.inl rfl⟩
  .exact(hs.2 b (Zk (Zc (Ze e) I.ok.above))).trans (I.base.keep b o e n hb hx)
  .obtain⟨sl,e1⟩:=I.base.slot b o e n hb hx
   exact⟨sl,(hs.2 b (Zk (Zc (Ze e) I.ok.above))).trans e1⟩
  .obtain⟨o',e1⟩:=I.base.there b o e hx
   exact⟨o',(hs.2 b (Zk (Zc (Ze e) I.ok.above))).trans e1⟩
  .by_cases hj:j=i
   .subst hj
    rw[hi]at e1;cases e1
    rw[List.getElem?_set_self hiσ]at e2
    cases e2
    exact⟨u,r,.inl ⟨hk,by simp⟩⟩
   .rw[List.getElem?_set_ne (Ne.symm hj)]at e2
    obtain⟨u',r',q⟩:=hl j y v' e1 e2 e3
    refine⟨u',r',?_⟩
    rcases q with⟨k,e⟩|⟨k,c,e,z⟩
    .refine .inl ⟨k,?_⟩
     have:y≠x:=λe=>hj (Ew hN e1 (e▸hi))
     simp[this,e]
    .exact .inr ⟨k,c,e,z.sameBut hs (cne y c e)⟩
  .obtain⟨w',z⟩:=I.cell y c e
   exact⟨w',z.sameBut hs (cne y c e)⟩
  .obtain⟨e,n,ne,nf,d⟩:=I.pin p hp
   exact⟨(hs.2 p.1 ne).trans e,n,ne,nf,d⟩
 .have hfn:X.fn x=true:=by
   rcases hf with z|z
   .exact z
   .rw[z]at hk;cases hk
  obtain⟨c,hc⟩:=I.ok.has x (.inl hk)
  obtain⟨w',z⟩:=I.cell x c hc
  refine wpAny_storeName_cell I.ok.kind hk hc z (λh' hc' hs=>?_)
  obtain⟨oc,hoc,hocd⟩:=id z
  refine h { s with heap:=h'} ⟨I.ok,I.os,I.bare,⟨λb o e n hb hx=>?_,λb o e n hb hx=>?_,I.base.free,λb o e hx=>?_,I.base.tups,I.base.frzs,I.base.tbls⟩,⟨m,hn.sameBut hs (Ne.symm (cne x c hc)),λj y v' e1 e2 e3=>?_⟩,λy c' e=>?_,I.free,I.freeC,λp hp=>?_,tracked ⟨oc,hoc,I.freeC x c hc⟩ hs,by simpa using I.len⟩ ⟨c,hs,.inr hc⟩
  .exact(hs.2 b (Zk (Zc (Ze e) (I.ok.cab x c hfn hc)))).trans (I.base.keep b o e n hb hx)
  .obtain⟨sl,e1⟩:=I.base.slot b o e n hb hx
   exact⟨sl,(hs.2 b (Zk (Zc (Ze e) (I.ok.cab x c hfn hc)))).trans e1⟩
  .obtain⟨o',e1⟩:=I.base.there b o e hx
   exact⟨o',(hs.2 b (Zk (Zc (Ze e) (I.ok.cab x c hfn hc)))).trans e1⟩
  .by_cases hj:j=i
   .subst hj
    rw[hi]at e1;cases e1
    rw[List.getElem?_set_self hiσ]at e2
    cases e2
    exact⟨u,r,.inr ⟨.inl hk,c,hc,hc'⟩⟩
   .rw[List.getElem?_set_ne (Ne.symm hj)]at e2
    obtain⟨u',r',q⟩:=hl j y v' e1 e2 e3
    refine⟨u',r',?_⟩
    rcases q with q|⟨k,c',e,z'⟩
    .exact .inl q
    .refine .inr ⟨k,c',e,z'.sameBut hs ?_⟩
     rintro rfl
     exact hj (Ew hN e1 (I.ok.inj _ _ _ e hc▸hi))
  .by_cases hcc:c'=c
   .subst hcc;exact⟨_,hc'⟩
   .obtain⟨w2,z2⟩:=I.cell y c' e
    exact⟨w2,z2.sameBut hs hcc⟩
  .obtain⟨e,n,ne,nf,d⟩:=I.pin p hp
   refine⟨(hs.2 p.1 ?_).trans e,n,ne,nf,d⟩
   intro q
   rw[q,hoc]at e
   have q':oc=p.2:=Option.some.inj e
   exact d w' (by rw[<-q'];exact hocd)
theorem tM{M:Model}{A:Around}{E:Value->Shared->Prop}{i:Nat}{x:Str}{v:V}{u:Value}{Q:Unit->Shared->Prop}(I:Inv X pins σ H s)(hN:X.N.Nodup)(hi:X.N[i]? =some x)(hx:Loc X.env.scope x)(r:RelV v u)
  (h:∀s',Inv X pins (σ.set i (some v)) H s'->Q () s') (hf:X.fn x=true∨X.env.scope.names.lookup x=some .local:=by first|exact .inl rfl|exact .inr rfl|assumption):wpAny M A (storeName X.env x u) Q E s:=
 Aj I hN hi hx r (λs' I' _=>h s' I') hf
theorem Inv.call'{s':Shared}{ch:List Addr}(I:Inv X pins σ H s)(ho:s'.os=s.os)(u:Un (frs X.stack) ch H H' s.heap s'.heap)(hok:HOk X.prog X.w H' s'.heap)(hg:GK s.gens s'.gens)
  (hch:∀b∈ch,(b∈X.ex∨X.s₀.heap.objs.size<=b)/\b≠X.env.locals/\(∀x c,X.env.cells.lookup x=some c->c≠b)/\∀p∈X.pn++pins,p.1≠b):Inv X pins σ H' s':=by
 obtain⟨h',g',d',t',o'⟩:=s'
 have e:o'=s.os:=ho
 subst e
 exact I.call (g':=g') (t':=t') (d':=d') u hok hg hch
end
abbrev XK:=Value->Option Addr->Hp->Prop
abbrev St:=List (Option V)
abbrev VK:=V->Hp->Prop
abbrev TE:=St->Hp->VK->Prop
abbrev TT:=St->Hp->(Bool->Hp->Prop)->Prop
abbrev TA:=St->Hp->(List V->Hp->Prop)->Prop
structure Ends where
 nx:St->Hp->Prop
 rt:VK
 bk:St->Hp->Prop:=λ_ _=>False
 ct:St->Hp->Prop:=λ_ _=>False
abbrev TS:=Ends->St->Hp->Prop
def EP(X:Cx)(pins:List (Addr×Obj))(σ:St)(Q:VK)(u:Value)(s':Shared):Prop:=∃v H',Inv X pins σ H' s'/\RelV v u/\Q v H'
def TP(X:Cx)(pins:List (Addr×Obj))(σ:St)(Q:Bool->Hp->Prop)(b:Bool)(s':Shared):Prop:=∃H',Inv X pins σ H' s'/\Q b H'
def AP(X:Cx)(pins:List (Addr×Obj))(σ:St)(Q:List V->Hp->Prop)(us:List Value)(s':Shared):Prop:=∃vs H',Inv X pins σ H' s'/\Vals vs us/\Q vs H'
def SP(X:Cx)(pins:List (Addr×Obj))(D:Ends)(f:Flow)(s':Shared):Prop:=
 match f with
 | .next=>∃σ' H',Inv X pins σ' H' s'/\D.nx σ' H'
 | .brk=>∃σ' H',Inv X pins σ' H' s'/\D.bk σ' H'
 | .cont=>∃σ' H',Inv X pins σ' H' s'/\D.ct σ' H'
 | .ret u=>∃v σ' H',Inv X pins σ' H' s'/\RelV v u/\D.rt v H'
def PE(X:Cx)(e:Expr)(t:TE):Prop:=
 ∀(pins:List (Addr×Obj))(s:Shared)(σ:St)(H:Hp)(Q:VK),Inv X pins σ H s->t σ H Q->wpAny (model X.prog X.w) X.A (eval e X.env) (EP X pins σ Q) X.xe s
def PT(X:Cx)(e:Expr)(t:TT):Prop:=
 ∀(pins:List (Addr×Obj))(s:Shared)(σ:St)(H:Hp)(Q:Bool->Hp->Prop),Inv X pins σ H s->t σ H Q->wpAny (model X.prog X.w) X.A (isTrue e X.env (eval e X.env)) (TP X pins σ Q) X.xe s
def PW(X:Cx)(e:Expr)(t:TT):Prop:=
 ∀(whole:Sem Value)(pins:List (Addr×Obj))(s:Shared)(σ:St)(H:Hp)(Q:Bool->Hp->Prop),Inv X pins σ H s->t σ H Q->wpAny (model X.prog X.w) X.A (isTrue e X.env whole) (TP X pins σ Q) X.xe s
theorem PW.pt{X:Cx}{e:Expr}{t:TT}(h:PW X e t):PT X e t:=h _
def PA(X:Cx)(es:List Expr)(t:TA):Prop:=
 ∀(pos:Pos)(pins:List (Addr×Obj))(s:Shared)(σ:St)(H:Hp)(Q:List V->Hp->Prop),Inv X pins σ H s->t σ H Q->wpAny (model X.prog X.w) X.A (spliced (backTo pos (starEach es X.env))) (AP X pins σ Q) X.xe s
def PS(X:Cx)(st:Stmt)(t:TS):Prop:=
 ∀(pins:List (Addr×Obj))(s:Shared)(σ:St)(H:Hp)(D:Ends),Inv X pins σ H s->t D σ H->wpAny (model X.prog X.w) X.A (exec st X.env) (SP X pins D) X.xe s
def PSs(X:Cx)(st:List Stmt)(t:TS):Prop:=
 ∀(pins:List (Addr×Obj))(s:Shared)(σ:St)(H:Hp)(D:Ends),Inv X pins σ H s->t D σ H->wpAny (model X.prog X.w) X.A (execs st X.env) (SP X pins D) X.xe s
theorem thn{α:Type}{t:Sem α}{Q Q':α->Shared->Prop}{M:Model}{A:Around}{E:Value->Shared->Prop}{s:Shared}(h:wpAny M A t Q E s)(hQ:∀a s,Q a s->Q' a s):wpAny M A t Q' E s:=wpAny_mono h hQ λ_ _ x=>x
section
variable {X:Cx}
def tVar(i:Nat):TE:=λσ H Q=>∃v,σ[i]? =some (some v)/\Q v H
def tC(v:V):TE:=λ_ H Q=>Q v H
theorem Tq{i:Nat}{x:Str}{pos:Pos}(hN:X.N[i]? =some x)(hv:Vis X.env.scope x)(hd:(x==("__debug__":Str))=false:=by decide)(hcd:(x==("__classdict__":Str))=false:=by decide):PE X (.Name x pos) (tVar i):=by
 intro pins s σ H Q I h
 obtain⟨v,e,h⟩:=h
 obtain⟨m,hn,hl⟩:=I.loc
 obtain⟨u,r,l⟩:=hl i x v hN e hv
 have fin:EP X pins σ Q u s:=⟨v,H,I,r,h⟩
 rcases l with⟨hk,hm⟩|⟨hk,c,hc,hcell⟩
 .exact wpAny_Name (wpAny_loadName_local I.ok.kind hk hn hm fin) hd
 .rcases hk with hk|hk
  .exact wpAny_Name (wpAny_loadName_cell I.ok.kind hk hc hcell fin) hd
  .exact wpAny_Name (wpAny_loadName_free I.ok.kind hk hc hcell fin hcd) hd
theorem Jx{i j pos}:PE X (.Constant (.int i) j pos) (tC (.int i)):=λ_ _ _ H _ I h=>wpAny_Constant_int ⟨.int i,H,I.tok _,⟨_,rfl⟩,h⟩
theorem Wo{b j pos}:PE X (.Constant (.bool b) j pos) (tC (.bl b)):=λ_ _ _ H _ I h=>Constant_bool ⟨.bl b,H,I,rfl,h⟩
theorem Vj{j pos}:PE X (.Constant .none j pos) (tC .non):=λ_ _ _ H _ I h=>Constant_none ⟨.non,H,I,rfl,h⟩
theorem Uo{x j pos}:PE X (.Constant (.str x) j pos) (tC (.str x)):=λ_ _ _ H _ I h=>Calls.Constant_str ⟨.str x,H,I.tok _,⟨_,rfl⟩,h⟩
def Gl(X:Cx)(x:Str):Prop:=X.env.kindOf x=some .globalImplicit
theorem Hm{E:Value->Shared->Prop}{pins:List (Addr×Obj)}{s:Shared}{σ:St}{H:Hp}{x:Str}{u:Value}{pos:Pos}{Q:Value->Shared->Prop}(I:Inv X pins σ H s)(hg:Gl X x)(hm:X.mg x=some u)(h:Q u s)
  (hd:(x==("__debug__":Str))=false:=by decide):wpAny (model X.prog X.w) X.A (eval (.Name x pos) X.env) Q E s:=
 Calls.Name_function_global I.ok.kind hg (Calls.loadGlobal_global (by rw[I.ok.glob];exact I.mod.glob.keeps I.bk) hm h) hd
theorem oX{E:Value->Shared->Prop}{pins:List (Addr×Obj)}{s:Shared}{σ:St}{H:Hp}{x:Str}{u:Value}{pos:Pos}{Q:Value->Shared->Prop}(I:Inv X pins σ H s)(hg:Gl X x)(hm:X.mg x=none)(hv:bootBuiltins x=some u)(h:Q u s)
  (hn:x≠"__name__":=by decide) (hd:(x==("__debug__":Str))=false:=by decide):wpAny (model X.prog X.w) X.A (eval (.Name x pos) X.env) Q E s:=by
 obtain⟨mb,h1,h2⟩:=I.mod.blt
 exact Calls.Name_function_global I.ok.kind hg (Calls.loadGlobal_builtin (by rw[I.ok.glob];exact I.mod.glob.keeps I.bk) hm (by rw[I.ok.blt];exact h1.keeps I.bk) ((h2 x hn).trans hv) h) hd
theorem Pg{x:Str}{v:V}{u:Value}{pos:Pos}(hg:Gl X x)(hm:X.mg x=none)(hv:bootBuiltins x=some u)(r:RelV v u)(hn:x≠"__name__":=by decide)(hd:(x==("__debug__":Str))=false:=by decide):PE X (.Name x pos) (tC v):=
 λ_ _ _ H _ I h=>oX I hg hm hv ⟨v,H,I,r,h⟩ hn hd
variable {a b:Expr} {ta tb:TE} {pos:Pos}
theorem Cw(b:Expr){op:CmpOp}(h:op≠ .In)(h2:op≠ .NotIn):behindInMarks op b=false:=by
 have e1:(op==CmpOp.In)=false:=by cases op<;>first|rfl|exact absurd rfl h
 have e2:(op==CmpOp.NotIn)=false:=by cases op<;>first|rfl|exact absurd rfl h2
 cases b<;>simp[behindInMarks,e1,e2]
variable {tA tB':TT} {rest:List Expr}
def tAnd(t u:TT):TT:=λσ H Q=>t σ H λc H1=>if c=true then u σ H1 Q else Q false H1
def tOr(t u:TT):TT:=λσ H Q=>t σ H λc H1=>if c=true then Q true H1 else u σ H1 Q
def tNot(t:TT):TT:=λσ H Q=>t σ H λc H1=>Q (!c) H1
theorem Pb(ha:PT X a tA):PW X (.BoolOp .And [a] pos) tA:=by
 intro wh pins s σ H Q I h
 refine isTrue_and (thn (ha pins s σ H Q I h) λc s1 e=>?_)
 cases c with
 |true=>exact isTrue_and_nil e
 |false=>exact e
theorem Vg(ha:PT X a tA):PW X (.BoolOp .Or [a] pos) tA:=by
 intro wh pins s σ H Q I h
 refine isTrue_or (thn (ha pins s σ H Q I h) λc s1 e=>?_)
 cases c with
 |false=>exact isTrue_or_nil e
 |true=>exact e
theorem Vi(ha:PT X a tA)(hb:PW X (.BoolOp .And (b::rest) pos) tB'):PW X (.BoolOp .And (a::b::rest) pos) (tAnd tA tB'):=by
 intro wh pins s σ H Q I h
 refine isTrue_and (thn (ha pins s σ H _ I h) λc s1 zq7=>?_)
 obtain⟨H1,I1,q1⟩:=zq7
 cases c with
 |true=>exact hb wh pins s1 σ H1 Q I1 q1
 |false=>exact⟨H1,I1,q1⟩
theorem Xe(ha:PT X a tA)(hb:PW X (.BoolOp .Or (b::rest) pos) tB'):PW X (.BoolOp .Or (a::b::rest) pos) (tOr tA tB'):=by
 intro wh pins s σ H Q I h
 refine isTrue_or (thn (ha pins s σ H _ I h) λc s1 zq8=>?_)
 obtain⟨H1,I1,q1⟩:=zq8
 cases c with
 |true=>exact⟨H1,I1,q1⟩
 |false=>exact hb wh pins s1 σ H1 Q I1 q1
theorem Vn(ha:PT X a tA):PT X (.UnaryOp .Not a pos) (tNot tA):=by
 intro pins s σ H Q I h
 exact isTrue_not (ha pins s σ H (λc H1=>Q (!c) H1) I h)
def Wn(ta tb:TE):TE:=λσ H Q=>ta σ H λx H1=>∃c,x= .bl c/\if c=true then tb σ H1 Q else Q (.bl false) H1
def Xk(ta:TE):TE:=λσ H Q=>ta σ H λx H1=>∃c,x= .bl c/\Q (.bl (!c)) H1
theorem Um{op}{t:TE}(h:PE X a t):PE X (.BoolOp op [a] pos) t:=λpins s σ H Q I hw=>BoolOp_one (h pins s σ H Q I hw)
theorem Tj(ha:PE X a ta)(hb:PE X (.BoolOp .And (b::rest) pos) tb):PE X (.BoolOp .And (a::b::rest) pos) (Wn ta tb):=by
 intro pins s σ H Q I h
 refine BoolOp_and (thn (ha pins s σ H _ I h) λv s1 zq9=>?_)
 obtain⟨x,H1,I1,r1,q1⟩:=zq9
 obtain⟨c,rfl,q1⟩:=q1
 cases r1
 refine wpAny_truthy_bool ?_
 cases c with
 |true=>exact hb pins s1 σ H1 Q I1 q1
 |false=>exact⟨.bl false,H1,I1,rfl,q1⟩
theorem Vd(ha:PE X a ta):PE X (.UnaryOp .Not a pos) (Xk ta):=by
 intro pins s σ H Q I h
 refine UnaryOp_ (thn (ha pins s σ H _ I h) λv s1 zq11=>?_)
 obtain⟨x,H1,I1,r1,q1⟩:=zq11
 obtain⟨c,rfl,q1⟩:=q1
 cases r1
 exact not_of (wpAny_truthy_bool ⟨.bl (!c),H1,I1,rfl,q1⟩)
def tIf(t:TT)(ta tb:TE):TE:=λσ H Q=>t σ H λc H1=>if c=true then ta σ H1 Q else tb σ H1 Q
theorem MJ{c:Expr}(hc:PT X c tA)(ha:PE X a ta)(hb:PE X b tb):PE X (.IfExp c a b pos) (tIf tA ta tb):=by
 intro pins s σ H Q I h
 refine wpAny_IfExp (thn (hc pins s σ H _ I h) λd s1 zq12=>?_)
 obtain⟨H1,I1,q1⟩:=zq12
 cases d with
 |true=>exact ha pins s1 σ H1 Q I1 q1
 |false=>exact hb pins s1 σ H1 Q I1 q1
end
def SqL(K:PySem.W.Frag)(H:Hp)(a:Addr)(xs:List V):Prop:=
 Rd H a (.lst xs)∨
  ∃(o:Obj)(its:Array Value)(n:Nat),K.lookup a=some o/\o.cls= .type "list"/\o.dict=none/\o.data= .seq its n/\its.size<=sizeLine/\Vals xs its.toList
def SqT(K:PySem.W.Frag)(H:Hp)(a:Addr)(xs:List V):Prop:=
 Rd H a (.tup xs)∨
  ∃(o:Obj)(its:Array Value)(n:Nat),K.lookup a=some o/\o.cls= .type "tuple"/\o.data= .seq its n/\its.size<=sizeLine/\Vals xs its.toList
def absV:Value->Option V
 | .none=>some .non
 | .bool b=>some (.bl b)
 | .int i _=>some (.int i)
 | .str x _=>some (.str x)
 | .bytes b _=>some (.byt b)
 | .float b _=>some (.flt b)
 | .ref a=>some (.ref a)
 | .type n=>some (.ty n)
 |_=>none
theorem RelV.abs{x:V}{u:Value}(r:RelV x u):absV u=some x:=by
 cases x with
 |non=>cases r;rfl
 |bl _=>cases r;rfl
 |int _=>obtain⟨t,rfl⟩:=r;rfl
 |str _=>obtain⟨t,rfl⟩:=r;rfl
 |byt _=>obtain⟨t,rfl⟩:=r;rfl
 |flt _=>obtain⟨t,rfl⟩:=r;rfl
 |ref _=>cases r;rfl
 |ty _=>cases r;rfl
theorem RelV.inj{x y:V}{u:Value}(r:RelV x u)(q:RelV y u):x=y:=Option.some.inj (r.abs.symm.trans q.abs)
theorem Vals.inj:∀{xs ys:List V}{us:List Value},Vals xs us->Vals ys us->xs=ys
 |_,_,_,.nil,.nil=>rfl
 |_,_,_,.cons r t,.cons r' t'=>by rw[r.inj r',Vals.inj t t']
section
variable {X:Cx} {pins:List (Addr×Obj)} {σ:St} {H:Hp} {s:Shared} {a:Addr} {xs ys:List V}
theorem SqL.of{K:PySem.W.Frag}(h:H a=some (.lst xs)):SqL K H a xs:=.inl (.inl h)
theorem Inv.list(I:Inv X pins σ H s)(h:SqL X.K H a xs):∃its:List Value,Vals xs its/\PlainL s.heap a its.toArray/\xs.length<=sizeLine:=by
 rcases h with h|⟨o,its,n,hk,hc,hd,hs,hz,r⟩
 .obtain⟨z,its,n,r,e⟩:=h.ok I.hok
  exact⟨its,r,⟨_,n,e,rfl,rfl,rfl⟩,z⟩
 .refine⟨its.toList,r,⟨o,n,I.kIn a o hk,hc,hd,by simpa using hs⟩,?_⟩
  have e:=r.length
  simp only[Array.length_toList]at e
  omega
theorem Inv.tuple(I:Inv X pins σ H s)(h:SqT X.K H a xs):∃its:List Value,Vals xs its/\IsTup s.heap a its.toArray/\xs.length<=sizeLine:=by
 rcases h with h|⟨o,its,n,hk,hc,hs,hz,r⟩
 .obtain⟨z,its,r,p⟩:=h.ok I.hok
  exact⟨its,r,p,z⟩
 .refine⟨its.toList,r,⟨o,I.kIn a o hk,hc,n,by simpa using hs⟩,?_⟩
  have e:=r.length
  simp only[Array.length_toList]at e
  omega
theorem Inv.list_inj(I:Inv X pins σ H s)(h:SqL X.K H a xs)(h':SqL X.K H a ys):xs=ys:=by
 obtain⟨its,r,⟨o,n,e,_,_,d⟩,_⟩:=I.list h
 obtain⟨its',r',⟨o',n',e',_,_,d'⟩,_⟩:=I.list h'
 rw[e]at e';cases e'
 rw[d]at d'
 injection d' with d1 _
 have:its=its':=by simpa using congrArg Array.toList d1
 subst this
 exact r.inj r'
theorem Inv.tuple_inj(I:Inv X pins σ H s)(h:SqT X.K H a xs)(h':SqT X.K H a ys):xs=ys:=by
 obtain⟨its,r,⟨o,e,_,n,d⟩,_⟩:=I.tuple h
 obtain⟨its',r',⟨o',e',_,n',d'⟩,_⟩:=I.tuple h'
 rw[e]at e';cases e'
 rw[d]at d'
 injection d' with d1 _
 have:its=its':=by simpa using congrArg Array.toList d1
 subst this
 exact r.inj r'
end
abbrev Cx.wish(X:Cx)(E:Value->Shared->Prop):Cx:={ X with xe:=E}
abbrev Cx.nox(X:Cx):Cx:=X.wish λ_ _=>False
theorem Cx.Ok.wish{X:Cx}(ok:X.Ok)(E:Value->Shared->Prop):(X.wish E).Ok:=
 ⟨ok.mod,ok.kind,ok.glob,ok.blt,ok.above,ok.inj,ok.has,ok.cab,ok.hd,ok.frames,ok.stk,ok.exf,ok.bs,ok.bsz,ok.noex,ok.exfs,ok.funs,ok.frf⟩
theorem Cx.Ok.unwish{X:Cx}{E:Value->Shared->Prop}(ok:(X.wish E).Ok):X.Ok:=
 ⟨ok.mod,ok.kind,ok.glob,ok.blt,ok.above,ok.inj,ok.has,ok.cab,ok.hd,ok.frames,ok.stk,ok.exf,ok.bs,ok.bsz,ok.noex,ok.exfs,ok.funs,ok.frf⟩
section
variable {X:Cx} {pins:List (Addr×Obj)} {σ:St} {H:Hp} {s:Shared} {E:Value->Shared->Prop}
theorem Inv.wish(I:Inv X pins σ H s)(E:Value->Shared->Prop):Inv (X.wish E) pins σ H s:=⟨I.ok.wish E,I.os,I.bare,I.base,I.loc,I.cell,I.free,I.freeC,I.pin,I.hok,I.len⟩
theorem Inv.unwish(I:Inv (X.wish E) pins σ H s):Inv X pins σ H s:=⟨I.ok.unwish,I.os,I.bare,I.base,I.loc,I.cell,I.free,I.freeC,I.pin,I.hok,I.len⟩
theorem SP.unwish{D:Ends}{f:Flow}{s':Shared}(h:SP (X.wish E) pins D f s'):SP X pins D f s':=by
 cases f with
 |next=>obtain⟨σ',H',I,q⟩:=h;exact⟨σ',H',I.unwish,q⟩
 |brk=>obtain⟨σ',H',I,q⟩:=h;exact⟨σ',H',I.unwish,q⟩
 |cont=>obtain⟨σ',H',I,q⟩:=h;exact⟨σ',H',I.unwish,q⟩
 |ret u=>obtain⟨v,σ',H',I,r,q⟩:=h;exact⟨v,σ',H',I.unwish,r,q⟩
theorem PSs.nox{st:List Stmt}{t:TS}(h:PSs X.nox st t):PSs X st t:=λpins s σ H D I hw=>
 wpAny_mono (h pins s σ H D (I.wish _) hw) (λ_ _ q=>q.unwish) λ_ _ z=>False.elim z
end
section
variable {X:Cx} {st:Stmt} {rest:List Stmt} {t u:TS} {e:Expr} {te:TE} {pos:Pos}
def WR:TS:=λD σ H=>D.nx σ H
def tSeq(t u:TS):TS:=λD σ H=>t { D with nx:=u D} σ H
theorem Pr:PSs X [] WR:=λ_ _ σ H _ I h=>wpAny_execs_nil ⟨σ,H,I,h⟩
theorem Kw(h1:PS X st t)(h2:PSs X rest u):PSs X (st::rest) (tSeq t u):=by
 intro pins s σ H D I h
 refine wpAny_execs_cons (thn (h1 pins s σ H { D with nx:=u D} I h) λf s1 q=>?_)
 cases f with
 |next=>
  obtain⟨σ',H',I',q⟩:=q
  exact h2 pins s1 σ' H' D I' q
 |ret v=>exact q
 |brk=>exact q
 |cont=>exact q
theorem Ow(h1:PS X st t):PSs X [st] t:=by
 intro pins s σ H D I h
 refine wpAny_execs_cons (thn (h1 pins s σ H D I h) λf s1 q=>?_)
 cases f with
 |next=>exact wpAny_execs_nil q
 |ret v=>exact q
 |brk=>exact q
 |cont=>exact q
def UG:TS:=λD σ H=>D.bk σ H
theorem Lr:PS X (.Break pos) UG:=λ_ _ σ H _ I h=>wpAny_Break ⟨σ,H,I,h⟩
theorem Inv.quiet{pins:List (Addr×Obj)}{σ:St}{H:Hp}{s:Shared}(I:Inv X pins σ H s):interactive X.env=false:=by simp[interactive,I.ok.kind]
def WL(te:TE):TS:=λD σ H=>te σ H λ_ H1=>D.nx σ H1
theorem RJ(he:PE X e te)(hs:swapsWith e none pos.line X.env=pure false:=by rfl):PS X (.Expr e pos) (WL te):=by
 intro pins s σ H D I h
 exact wpAny_Expr_any (thn (he pins s σ H _ I h) λv s1 ⟨x,H1,I1,r1,q1⟩=>⟨σ,H1,I1,q1⟩) I.quiet hs
def tRet(te:TE):TS:=λD σ H=>te σ H D.rt
theorem Vm(he:PE X e te):PS X (.Return (some e) pos) (tRet te):=by
 intro pins s σ H D I h
 exact wpAny_Return_some (thn (he pins s σ H _ I h) λv s1 ⟨x,H1,I1,r1,q1⟩=>⟨x,σ,H1,I1,r1,q1⟩)
def tIfS(c:TT)(t u:TS):TS:=λD σ H=>c σ H λb H1=>if b=true then t D σ H1 else u D σ H1
theorem Xz{c:Expr}{a b:List Stmt}{tc:TT}(hc:PT X c tc)(ha:PSs X a t)(hb:PSs X b u):PS X (.If c a b pos) (tIfS tc t u):=by
 intro pins s σ H D I h
 refine wpAny_If (thn (hc pins s σ H _ I h) λd s1 zq13=>?_)
 obtain⟨H1,I1,q1⟩:=zq13
 cases d with
 |true=>exact ha pins s1 σ H1 D I1 q1
 |false=>exact hb pins s1 σ H1 D I1 q1
end
abbrev TG:=V->St->Hp->(St->Hp->Prop)->Prop
abbrev TGs:=List V->St->Hp->(St->Hp->Prop)->Prop
def PG(X:Cx)(target:Expr)(t:TG):Prop:=
 ∀(pins:List (Addr×Obj))(s:Shared)(σ:St)(H:Hp)(v:V)(u:Value)(Q:St->Hp->Prop),Inv X pins σ H s->RelV v u->t v σ H Q->
  wpAny (model X.prog X.w) X.A (assign target X.env u) (λ_ s'=>∃σ' H',Inv X pins σ' H' s'/\Q σ' H') X.xe s
def PGs(X:Cx)(ts:List Expr)(t:TGs):Prop:=
 ∀(pins:List (Addr×Obj))(s:Shared)(σ:St)(H:Hp)(vs:List V)(us:List Value)(Q:St->Hp->Prop),Inv X pins σ H s->Vals vs us->t vs σ H Q->
  wpAny (model X.prog X.w) X.A (assignInOrder ((assignEach ts X.env).map (·.2)) us) (λ_ s'=>∃σ' H',Inv X pins σ' H' s'/\Q σ' H') X.xe s
section
variable {X:Cx} {pos:Pos}
def JN(i:Nat):TG:=λv σ H Q=>Q (σ.set i (some v)) H
theorem Ci{i:Nat}{x:Str}(hN:X.N.Nodup)(hi:X.N[i]? =some x)(hx:Loc X.env.scope x)(hf:X.fn x=true∨X.env.scope.names.lookup x=some .local:=by first|exact .inl rfl|exact .inr rfl|assumption):PG X (.Name x pos) (JN i):=by
 intro pins s σ H v u Q I r h
 exact wpAny_assign_Name (tM I hN hi hx r (λs' I'=>⟨_,H,I',h⟩) hf)
def gNil:TGs:=λvs σ H Q=>vs=[]/\Q σ H
def Ws(t:TG)(u:TGs):TGs:=λvs σ H Q=>∃v r,vs=v::r/\t v σ H λσ' H'=>u r σ' H' Q
theorem GQ:PGs X [] gNil:=by
 intro pins s σ H vs us Q I r h
 obtain⟨e,h⟩:=h
 subst e
 cases r
 exact assignInOrder_nil ⟨σ,H,I,h⟩
theorem xG{e:Expr}{es:List Expr}{t:TG}{u:TGs}(h1:PG X e t)(h2:PGs X es u)
  (hs:(assignEach (e::es) X.env).map (·.2)=assign e X.env::(assignEach es X.env).map (·.2):=by rfl):PGs X (e::es) (Ws t u):=by
 intro pins s σ H vs us Q I r h
 obtain⟨v,vr,e1,h⟩:=h
 subst e1
 cases r with
 |cons r rr=>
  rw[hs]
  refine assignInOrder_cons (thn (h1 pins s σ H _ _ _ I r h) λ_ s1 zq14=>?_)
  obtain⟨σ1,H1,I1,q1⟩:=zq14
  exact h2 pins s1 σ1 H1 _ _ Q I1 rr q1
def gTup(K:PySem.W.Frag)(n:Nat)(t:TGs):TG:=λv σ H Q=>∃a xs,v= .ref a/\SqT K H a xs/\xs.length=n/\t xs σ H Q
theorem Tn{es:List Expr}{k:Nat}{t:TGs}{n:Nat}(hc:X.calm=true)(h:PGs X es t)
  (hn:(assignEach es X.env).length=n:=by rfl) (hst:(assignEach es X.env).findIdx? (·.1)=none:=by rfl):PG X (.Tuple es k pos) (gTup X.K n t):=by
 intro pins s σ H v u Q I r hw
 obtain⟨a,xs,e1,hq,hl,hw⟩:=hw
 subst e1
 cases r
 obtain⟨its,rv,ht,hz⟩:=I.tuple hq
 refine assign_Tuple_tuple (I.ok.hd hc) ht (by simp[hn,<-hl,rv.length]) hst λh' hx=>?_
 have I1:Inv X pins σ H { s with heap:=h'}:=I.kept (t':=s.toks) λb o e=>hx b o (Zk (Ze e)) e
 exact h pins _ σ H xs _ Q I1 (by simpa using rv) hw
def Vt(te:TE)(g:TG):TS:=λD σ H=>te σ H λx H1=>g x σ H1 D.nx
theorem Oc{tg e:Expr}{te:TE}{g:TG}(he:PE X e te)(hg:PG X tg g)(hs:swapsWithSole [tg] e pos.line X.env=pure false:=by rfl)(hw:swappedStores [tg] e X.env=pure none:=by rfl)
  (h1:(assignEach [tg] X.env).map (·.2)=[assign tg X.env]:=by rfl):PS X (.Assign [tg] e pos) (Vt te g):=by
 intro pins s σ H D I h
 refine wpAny_Assign_stores (thn (he pins s σ H _ I h) λv s1 ⟨x,H1,I1,r1,q1⟩=>?_) hs hw
 rw[h1]
 exact thn (hg pins s1 σ H1 x v _ I1 r1 q1) λ_ s2 q=>q
theorem Te{i:Nat}{x:Str}{e:Expr}{te:TE}{pos':Pos}(hN:X.N.Nodup)(hi:X.N[i]? =some x)(hx:Loc X.env.scope x)(he:PE X e te)(hs:swapsWith e (some (.Name x pos')) pos.line X.env=pure false:=by rfl)(hf:X.fn x=true∨X.env.scope.names.lookup x=some .local:=by first|exact .inl rfl|exact .inr rfl|assumption):
  PS X (.Assign [.Name x pos'] e pos) (Vt te (JN i)):=by
 intro pins s σ H D I h
 refine wpAny_Assign_Name (thn (he pins s σ H _ I h) λv s1 zq18=>?_) hs
 obtain⟨y,H1,I1,r1,q1⟩:=zq18
 exact tM I1 hN hi hx r1 (λs2 I2=>⟨_,H1,I2,q1⟩) hf
def tPar(i j:Nat)(ta:TA):TS:=λD σ H=>ta σ H λvs H1=>∃v w,vs=[v,w]/\D.nx ((σ.set i (some v)).set j (some w)) H1
theorem SQ{i j:Nat}{x y:Str}{a b:Expr}{ta:TA}{px py pt:Pos}{kt k2 pt2}(hc:X.calm=true)(hN:X.N.Nodup)(hi:X.N[i]? =some x)(hj:X.N[j]? =some y)(hij:i≠j)
  (hx:X.env.scope.names.lookup x=some .local) (hy:X.env.scope.names.lookup y=some .local) (ha:PA X [a,b] ta)
  (hw:swappedStores [.Tuple [.Name x px,.Name y py] kt pt] (.Tuple [a,b] k2 pt2) X.env=pure (some [x,y]))
  (hs:swapsWithSole [.Tuple [.Name x px,.Name y py] kt pt] (.Tuple [a,b] k2 pt2) pos.line X.env=pure false:=by rfl):
  PS X (.Assign [.Tuple [.Name x px,.Name y py] kt pt] (.Tuple [a,b] k2 pt2) pos) (tPar i j ta):=by
 intro pins s σ H D I h
 rw[exec_Assign_arm]
 refine wpAny_bind (wpAny_standAt ?_)
 rw[hs]
 refine wpAny_bind (wpAny_pure ?_)
 rw[if_neg (by decide)]
 refine wpAny_bind (Tuple_ (thn (ha _ pins s σ H _ I h) λus s1 zq19=>?_))
 obtain⟨vs,H1,I1,r1,q1⟩:=zq19
 obtain⟨v,w,e1,q1⟩:=q1
 subst e1
 obtain⟨u1,u2,rfl,rv,rw'⟩:∃u1 u2,us=[u1,u2]/\RelV v u1/\RelV w u2:=by
  cases r1 with
  |cons p q=>
   cases q with
   |cons p' q'=>
    cases q'
    exact⟨_,_,rfl,p,p'⟩
 refine wpAny_newObj_type ?_ (by show 2<=sizeLine;decide)
 have I2:Inv X pins σ H1 { s1 with heap:=s1.heap.push { cls:=.type "tuple",data:=.seq [u1,u2].toArray} }:=I1.kept (t':=s1.toks) λb o e=>Zb _ e
 rw[hw]
 refine wpAny_bind (wpAny_pure ?_)
 show wpAny (model X.prog X.w) X.A (do rule "assign.swapped-stores";let items<-unpackItems (.ref s1.heap.objs.size) 2 none;assignInOrder [λv=>bindName X.env y v,λv=>bindName X.env x v] items.reverse;pure Flow.next) _ _ _
 refine wpAny_bind (wpAny_rule (wpAny_bind (unpackItems_tuple (items:= #[u1,u2]) (I.ok.hd hc) (IsTup.new s1.heap _) λh' hx'=>?_)))
 have I3:=I2.kept (h':=h') (t':=s1.toks) λb o e=>hx' b o (Zk (Ze e)) e
 show wpAny _ _ (assignInOrder [λv=>bindName X.env y v,λv=>bindName X.env x v] [u2,u1] >>= λ_=>pure Flow.next) _ _ _
 refine wpAny_bind (assignInOrder_cons (wpAny_bindName (tM I3 hN hj (.inl hy) rw' (λs2 I4=>?_) (.inr hy))))
 refine assignInOrder_cons (wpAny_bindName (tM I4 hN hi (.inl hx) rv (λs3 I5=>assignInOrder_nil (wpAny_pure ?_)) (.inr hx)))
 rw[List.set_comm _ _ (Ne.symm hij)]at I5
 exact⟨_,H1,I5,q1⟩
end
section
variable {X:Cx} {pos:Pos}
def Vk(c:TT)(tb:TS):TS:=λD σ H=>∃W:Nat->St->Hp->Prop,(∃m,W m σ H)/\∀m σ H,W m σ H->
 c σ H λb H1=>if b=true then∃N:St->Hp->Prop,(∀σ' H',N σ' H'->∃m',m'<m/\W m' σ' H')/\tb { D with nx:=N,ct:=N,bk:=D.nx} σ H1 else D.nx σ H1
theorem Jz{c:Expr}{body:List Stmt}{tc:TT}{tb:TS}(hp:PassesOwn (model X.prog X.w) X.A X.env X.xe)(hc:PT X c tc)(hb:PSs X body tb):PS X (.While c body [] pos) (Vk tc tb):=by
 intro pins s σ H D I h
 obtain⟨W,⟨m0,w0⟩,turn⟩:=h
 refine wpAny_While (codeAny_whileLoop (λn s'=>∃σ' H',Inv X pins σ' H' s'/\W n σ' H') ?_ m0 ⟨σ,H,I,w0⟩)
 rintro n s1 ⟨σ1,H1,I1,w1⟩
 refine wpAny_passesOwn hp (thn (hc pins s1 σ1 H1 _ I1 (turn n σ1 H1 w1)) λb s2 zq27=>?_)
 obtain⟨H2,I2,q2⟩:=zq27
 cases b with
 |true=>
  obtain⟨N,hN,q2⟩:=q2
  rw[if_pos rfl]
  refine wpAny_passesOwn hp (thn (hb pins s2 σ1 H2 _ I2 q2) λf s3 q3=>?_)
  cases f with
  |next=>
   obtain⟨σ3,H3,I3,n3⟩:=q3
   obtain⟨m',hm,w3⟩:=hN σ3 H3 n3
   exact⟨m',hm,σ3,H3,I3,w3⟩
  |cont=>
   obtain⟨σ3,H3,I3,n3⟩:=q3
   obtain⟨m',hm,w3⟩:=hN σ3 H3 n3
   exact⟨m',hm,σ3,H3,I3,w3⟩
  |brk=>exact q3
  |ret v=>exact q3
 |false=>
  rw[if_neg Zr]
  exact wpAny_execs_nil ⟨σ1,H2,I2,q2⟩
end
structure It where
 go:Nat->Hp->Prop
 yld:Nat->Hp->V->Hp->Prop
 stop:Nat->Hp->Prop
def nT(X:Cx)(pins:List (Addr×Obj))(H:Hp)(b:Addr):Prop:=
 H b=none/\b≠X.env.locals/\b∉X.fs/\(b∈X.ex∨X.s₀.heap.objs.size<=b)/\(∀x c,X.env.cells.lookup x=some c->c≠b)/\∀p∈X.pn++pins,p.1≠b
theorem Inv.fpOk{X:Cx}{pins:List (Addr×Obj)}{σ:St}{H H':Hp}{s:Shared}{b:Addr}(I:Inv X pins σ H s)(hb:s.heap.objs.size<=b)(hn:H' b=none):nT X pins H' b:=by
 refine⟨hn,Nat.ne_of_gt (Zc I.lt hb),I.nofs hb,.inr (Zl I.sz hb),λx c e z=>?_,λp hp z=>?_⟩
 .obtain⟨v,q⟩:=I.cell x c e
  exact absurd (Zc q.lt (by rw[z];exact hb)) (Nat.lt_irrefl _)
 .exact absurd (Zc (Ze (I.pin p hp).1) (by rw[z];exact hb)) (Nat.lt_irrefl _)
structure Turn(P:Program)(w:World)(K:PySem.W.Frag)(tg:Expr)(J:It)(fp:List Addr)(it:Addr)(tn:Nat->Heap->Prop):Prop where
 mem:it∈fp
 obj:∀i h,tn i h->∀b∈fp,∃o,h.get? b=some o/\∀v,o.data≠ .cell v
 keep:∀i h h',tn i h->(∀b∈fp,∀o,h.get? b=some o->h'.get? b=some o)->tn i h'
 item:∀(X:Cx),X.prog=P->X.w=w->X.K=K->X.calm=true->∀(i:Nat)(pins:List (Addr×Obj))(s:Shared)(σ:St)(H:Hp)(E:Value->Shared->Prop),Inv X pins σ H s->(∀b∈fp,nT X pins H b)->tn i s.heap->J.go i H->
  wpAny (model P w) X.A (pyNext (.ref it)) (λr s1=>∃u,r=some u/\
   wpAny (model P w) X.A (letOwnedTupleGo tg (.ref it) u) (λ_ s2=>∃x H',Inv X pins σ H' s2/\RelV x u/\J.yld i H x H'/\tn (i+1) s2.heap/\∀b∈fp,H' b=none) E s1) E s
 done:∀(X:Cx),X.prog=P->X.w=w->X.K=K->X.calm=true->∀(i:Nat)(pins:List (Addr×Obj))(s:Shared)(σ:St)(H:Hp)(E:Value->Shared->Prop),Inv X pins σ H s->(∀b∈fp,nT X pins H b)->tn i s.heap->J.stop i H->
  wpAny (model P w) X.A (pyNext (.ref it)) (λr s1=>r=none/\Inv X pins σ H s1) E s
 self:∀(A:Around)(i:Nat)(s:Shared)(Q:Value->Shared->Prop)(E:Value->Shared->Prop),tn i s.heap->Q (.ref it) s->wpAny (model P w) A (pyIter (.ref it)) Q E s
abbrev TI:=St->Hp->(It->Hp->Prop)->Prop
def PIE(X:Cx)(pins:List (Addr×Obj))(σ:St)(tg:Expr)(R:It->Hp->Prop)(itv:Value)(s2:Shared):Prop:=
 ∃(it:Addr)(fp:List Addr)(tn:Nat->Heap->Prop)(J:It)(H':Hp),itv= .ref it/\Inv X pins σ H' s2/\Turn X.prog X.w X.K tg J fp it tn/\tn 0 s2.heap/\(∀b∈fp,nT X pins H' b)/\R J H'
def PI(X:Cx)(tg iter:Expr)(wi:TI):Prop:=
 ∀(pins:List (Addr×Obj))(s:Shared)(σ:St)(H:Hp)(R:It->Hp->Prop),Inv X pins σ H s->wi σ H R->
  wpAny (model X.prog X.w) X.A (eval iter X.env) (λv s1=>wpAny (model X.prog X.w) X.A (pyIter v) (PIE X pins σ tg R) X.xe s1) X.xe s
theorem Mf{M:Model}{A:Around}{E:Value->Shared->Prop}{s:Shared}{tg:Expr}{it:Addr}{u:Value}{o:Obj}{n:String}{vs:Array Value}{Q:Unit->Shared->Prop}(ho:s.heap.get? it=some o)(hc:o.cls= .type n)(hd:o.data= .fields vs)
  (hn:["enumerate","zip","dict_itemiterator","dict_reverseitemiterator","odict_iterator","itertools.zip_longest","itertools.pairwise"].contains n=false) (hQ:Q () s):wpAny M A (letOwnedTupleGo tg (.ref it) u) Q E s:=by
 unfold letOwnedTupleGo
 cases tg<;>first
  |exact wpAny_pure hQ
  |(cases u<;>first
   |exact wpAny_pure hQ
   |(refine wpAny_bind (wpAny_load ho ?_)
     rw[hc,hd]
     show wpAny M A (if(["enumerate","zip","dict_itemiterator","dict_reverseitemiterator","odict_iterator","itertools.zip_longest","itertools.pairwise"].contains n&&vs[0]? ==some (rawInt _))=true then _ else _) Q E s
     rw[if_neg (by intro h;rw[hn,Bool.false_and]at h;cases h)]
     exact wpAny_pure hQ))
def Itl(K:PySem.W.Frag)(a:Addr):It:=
 ⟨λi H=>∃xs x,SqL K H a xs/\xs[i]? =some x,λi H x H'=>H'=H/\∀xs,SqL K H a xs->xs[i]? =some x,λi H=>∃xs,SqL K H a xs/\xs.length<=i⟩
def Itt(K:PySem.W.Frag)(a:Addr):It:=
 ⟨λi H=>∃xs x,SqT K H a xs/\xs[i]? =some x,λi H x H'=>H'=H/\∀xs,SqT K H a xs->xs[i]? =some x,λi H=>∃xs,SqT K H a xs/\xs.length<=i⟩
def Itr(lo:Int)(n:Nat):It:=⟨λi _=>i<n,λi H x H'=>H'=H/\x= .int (lo+i),λi _=>n<=i⟩
theorem zQ{P:Program}{w:World}{K:PySem.W.Frag}{tg:Expr}(a it:Addr):Turn P w K tg (Itl K a) [it] it (λi h=>h.IsListIter it a i) where
 mem:=by simp
 obj:=λi h st b hb=>by
  have e:b=it:=by simpa using hb
  subst e
  obtain⟨o,e,c,d⟩:=st
  exact⟨o,e,λv z=>by rw[d]at z;cases z⟩
 keep:=λi h h' st k=>st.at λo e=>k it (by simp) o e
 item:=by
  intro X hP hw hK hc i pins s σ H E I hf st hg
  subst hP hw hK
  obtain⟨xs,x,hq,hx⟩:=hg
  obtain⟨its,rv,p,hz⟩:=I.list hq
  obtain⟨u,hu,ru⟩:=rv.get hx
  obtain⟨f0,f1,f2,f3,f4,f5⟩:=hf it (by simp)
  refine wpAny_pyNext_list_item st p.isList (x:=u) (by simpa using hu) λh' st' sb=>?_
  have I1:Inv X pins σ H { s with heap:=h'}:=I.turned (t':=s.toks) (λb o hb e=>(sb.2 b hb).trans e) f0 f1 f3 f4 f5
  obtain⟨o,e,c,d⟩:=id st'
  exact⟨u,rfl,Mf (s:={ s with heap:=h'}) e c d (by decide) ⟨x,H,I1,ru,⟨rfl,λys hy=>by rw[I.list_inj hy hq];exact hx⟩,st',λb hb=>(hf b hb).1⟩⟩
 done:=by
  intro X hP hw hK hc i pins s σ H E I hf st hg
  subst hP hw hK
  obtain⟨xs,hq,hx⟩:=hg
  obtain⟨its,rv,p,hz⟩:=I.list hq
  obtain⟨f0,f1,f2,f3,f4,f5⟩:=hf it (by simp)
  have hl:=rv.length
  exact wpAny_pyNext_list_end (I.ok.hd hc) st p.isList (by simp;omega) λh' eb=>⟨rfl,I.turned (t':=s.toks) (λb o hb e=>eb b o hb e) f0 f1 f3 f4 f5⟩
 self:=λ_ _ _ _ _ st h=>wpAny_pyIter_listiter st h
theorem yx{P:Program}{w:World}{K:PySem.W.Frag}{tg:Expr}(a it:Addr):Turn P w K tg (Itt K a) [it] it (λi h=>h.IsTupleIter it a i) where
 mem:=by simp
 obj:=λi h st b hb=>by
  have e:b=it:=by simpa using hb
  subst e
  obtain⟨o,e,c,d⟩:=st
  exact⟨o,e,λv z=>by rw[d]at z;cases z⟩
 keep:=λi h h' st k=>st.at λo e=>k it (by simp) o e
 item:=by
  intro X hP hw hK hc i pins s σ H E I hf st hg
  subst hP hw hK
  obtain⟨xs,x,hq,hx⟩:=hg
  obtain⟨its,rv,p,hz⟩:=I.tuple hq
  obtain⟨u,hu,ru⟩:=rv.get hx
  obtain⟨f0,f1,f2,f3,f4,f5⟩:=hf it (by simp)
  refine wpAny_pyNext_tuple_item st (show s.heap.IsTuple a its.toArray from p) (x:=u) (by simpa using hu) λh' st' sb=>?_
  have I1:Inv X pins σ H { s with heap:=h'}:=I.turned (t':=s.toks) (λb o hb e=>(sb.2 b hb).trans e) f0 f1 f3 f4 f5
  obtain⟨o,e,c,d⟩:=id st'
  exact⟨u,rfl,Mf (s:={ s with heap:=h'}) e c d (by decide) ⟨x,H,I1,ru,⟨rfl,λys hy=>by rw[I.tuple_inj hy hq];exact hx⟩,st',λb hb=>(hf b hb).1⟩⟩
 done:=by
  intro X hP hw hK hc i pins s σ H E I hf st hg
  subst hP hw hK
  obtain⟨xs,hq,hx⟩:=hg
  obtain⟨its,rv,p,hz⟩:=I.tuple hq
  obtain⟨f0,f1,f2,f3,f4,f5⟩:=hf it (by simp)
  have hl:=rv.length
  exact wpAny_pyNext_tuple_end (I.ok.hd hc) st (show s.heap.IsTuple a its.toArray from p) (by simp;omega) λh' eb=>⟨rfl,I.turned (t':=s.toks) (λb o hb e=>eb b o hb e) f0 f1 f3 f4 f5⟩
 self:=λ_ _ _ _ _ st h=>wpAny_pyIter_tupleiter st h
theorem FP{P:Program}{w:World}{K:PySem.W.Frag}{tg:Expr}(it:Addr)(lo:Int)(n:Nat):Turn P w K tg (Itr lo n) [it] it (λi h=>IsRangeIter h it (lo+(i:Nat)*1) ((n:Int)-(i:Nat)) 1) where
 mem:=by simp
 obj:=λi h st b hb=>by
  have e:b=it:=by simpa using hb
  subst e
  exact⟨_,st,λv z=>by
   have z':Data.fields _=Data.cell v:=z
   cases z'⟩
 keep:=λi h h' st k=>k it (by simp) _ st
 item:=by
  intro X hP hw hK hc i pins s σ H E I hf st hg
  subst hP hw hK
  obtain⟨f0,f1,f2,f3,f4,f5⟩:=hf it (by simp)
  have W:=Walks.range (prog:=X.prog) (w:=X.w) (I.ok.hd hc) it lo 1 n
  refine W.item i s _ _ hg st λv h' tk hv st' kk=>?_
  obtain⟨t,rfl⟩:=hv
  have I1:Inv X pins σ H { s with heap:=h',toks:=tk}:=I.turned (λb o hb e=>kk b o (by simpa using hb) e) f0 f1 f3 f4 f5
  refine⟨_,rfl,Mf (s:={ s with heap:=h',toks:=tk}) (n:="range_iterator") st' rfl rfl (by decide) ⟨.int (lo+i),H,I1,⟨t,?_⟩,⟨rfl,rfl⟩,st',λb hb=>(hf b hb).1⟩⟩
  rw[Int.mul_one]
 done:=by
  intro X hP hw hK hc i pins s σ H E I hf st hg
  subst hP hw hK
  obtain⟨f0,f1,f2,f3,f4,f5⟩:=hf it (by simp)
  exact wpAny_pyNext_range_end (I.ok.hd hc) st (by have:n<=i:=hg;omega) λh' eb=>⟨rfl,I.turned (t':=s.toks) (λb o hb e=>eb b o hb e) f0 f1 f3 f4 f5⟩
 self:=λ_ _ _ _ _ st h=>wpAny_pyIter_rangeiter st h
section
variable {X:Cx} {tg:Expr}
theorem JL{pins:List (Addr×Obj)}{σ:St}{H:Hp}{s:Shared}{R:It->Hp->Prop}{E:Value->Shared->Prop}{lo hi:Int}{t u v:Tok}{tk:Nat}(I:Inv X pins σ H s)(h1: -(2 ^ 62)<=lo)(h2:lo<2 ^ 62)(h3: -(2 ^ 62)<=hi)(h4:hi<2 ^ 62)
  (q:R (Itr lo (hi-lo).toNat) H):wpAny (model X.prog X.w) X.A (pyIter (.ref s.heap.objs.size)) (PIE X pins σ tg R) E { s with heap:=s.heap.push { cls:=.type "range",data:=.fields #[.int lo t,.int hi u,.int 1 v] },toks:=tk}:=by
 refine wpAny_pyIter_range (IsRange.new ..) (small_one h1 h2 h3 h4) ?_
 have I1:Inv X pins σ H { s with heap:=s.heap.push { cls:=.type "range",data:=.fields #[.int lo t,.int hi u,.int 1 v] },toks:=tk}:=I.kept λb o e=>Zb _ e
 refine⟨(s.heap.push { cls:=.type "range",data:=.fields #[.int lo t,.int hi u,.int 1 v] }).objs.size,[(s.heap.push { cls:=.type "range",data:=.fields #[.int lo t,.int hi u,.int 1 v] }).objs.size],_,_,H,rfl,
  I1.kept (t':=tk) λb o e=>Zb _ e,FP _ lo (hi-lo).toNat,?_,λb hb=>?_,q⟩
 .have e1:lo+((0:Nat):Int)*1=lo:=by simp
  have e2:(((hi-lo).toNat:Nat):Int)-((0:Nat):Int)=Builtin.Range.rangeSize lo hi 1:=by rw[rangeSize_one];split<;>omega
  show IsRangeIter _ _ (lo+((0:Nat):Int)*1) ((((hi-lo).toNat:Nat):Int)-((0:Nat):Int)) 1
  rw[e1,e2]
  exact Zf _ rfl
 .have e:b=(s.heap.push { cls:=.type "range",data:=.fields #[.int lo t,.int hi u,.int 1 v] }).objs.size:=by simpa using hb
  subst e
  exact I1.fpOk (Zg _) (I1.hok.fresh (Zg _))
def Ww(ta:TA):TI:=λσ H R=>ta σ H λvs H1=>∃j:Int,vs=[.int j]/\ -(2 ^ 62)<=j/\j<2 ^ 62/\R (Itr 0 j.toNat) H1
theorem HX{a:Expr}{ta:TA}{p pos:Pos}(hg:Gl X "range")(hm:X.mg "range"=none)(ha:PA X [a] ta)(hs:starEach [a] X.env=[(false,eval a X.env)]:=by rfl):PI X tg (.Call (.Name "range" p) [a] [] pos) (Ww ta):=by
 intro pins s σ H R I h
 refine Call_ (oX I hg hm boot_range (PyProof.Rows.callWith_type1 (thn (ha pos pins s σ H _ I h) λus s1 ⟨vs,H1,I1,r1,q1⟩=>?_) hs rfl))
 obtain⟨j,e,q1,q2,q⟩:=q1
 subst e
 cases r1 with
 |cons r rr=>
  cases rr
  obtain⟨t,rfl⟩:=r
  exact call_range_1 (JL I1 (by omega) (by omega) q1 q2 (by simpa using q))
def tFor(wi:TI)(g:TG)(tb:TS):TS:=λD σ H=>wi σ H λJ H1=>∃W:Nat->Nat->St->Hp->Prop,(∃m,W 0 m σ H1)/\∀i m σ H,W i m σ H->
 (J.stop i H/\D.nx σ H)∨(J.go i H/\∃N:St->Hp->Prop,(∀σ' H',N σ' H'->∃m',m'<m/\W (i+1) m' σ' H')/\∀x H',J.yld i H x H'->g x σ H' λσ2 H2=>tb { D with nx:=N,ct:=N,bk:=D.nx} σ2 H2)
def uA(fp:List Addr)(h:Heap):List (Addr×Obj):=fp.filterMap λb=>(h.get? b).map λo=>(b,o)
theorem iT{fp:List Addr}{h:Heap}{b:Addr}{o:Obj}(hb:b∈fp)(e:h.get? b=some o):(b,o)∈uA fp h:=List.mem_filterMap.mpr ⟨b,hb,by rw[e];rfl⟩
theorem Ji{fp:List Addr}{h:Heap}{p:Addr×Obj}(hp:p∈uA fp h):p.1∈fp/\h.get? p.1=some p.2:=by
 obtain⟨b,hb,e⟩:=List.mem_filterMap.mp hp
 cases q:h.get? b with
 |none=>rw[q]at e;cases e
 |some o=>
  rw[q]at e
  have e':(b,o)=p:=Option.some.inj e
  subst e'
  exact⟨hb,q⟩
theorem Inv.pinned{pins:List (Addr×Obj)}{σ:St}{H:Hp}{s:Shared}{fp:List Addr}(I:Inv X pins σ H s)(hf:∀b∈fp,nT X pins H b)(ho:∀b∈fp,∃o,s.heap.get? b=some o/\∀v,o.data≠ .cell v):Inv X (pins++uA fp s.heap) σ H s:=
 I.pins_of λp hp=>(Zm.mp hp).elim (λz=>I.pin p (Zn _ z)) λz=>by
  obtain⟨hb,e⟩:=Ji z
  obtain⟨f0,f1,f2,_⟩:=hf p.1 hb
  obtain⟨o,e',d⟩:=ho p.1 hb
  rw[e]at e';cases e'
  exact⟨e,f0,f1,f2,d⟩
theorem Inv.unpinned{pins pl:List (Addr×Obj)}{σ:St}{H:Hp}{s:Shared}(I:Inv X (pins++pl) σ H s):Inv X pins σ H s:=I.pins_of λp hp=>I.pin p (Zn _ (List.mem_append_left _ hp))
theorem UL{iter:Expr}{body:List Stmt}{wi:TI}{g:TG}{tb:TS}{pos:Pos}(hp:PassesOwn (model X.prog X.w) X.A X.env X.xe)(hc:X.calm=true)(hi:PI X tg iter wi)(hg:PG X tg g)(hb:PSs X body tb)
  (hs:∀x,foldedSetIterable iter X.env x=pure x:=by intro _;rfl):PS X (.For tg iter body [] pos) (tFor wi g tb):=by
 intro pins s σ H D I h
 refine wpAny_For (thn (hi pins s σ H _ I h) λv s1 h1=>thn h1 λitv s2 h2=>?_) hs
 obtain⟨it,fp,tn,J,H2,e,I2,T,st2,f2,W,⟨m0,w0⟩,turn⟩:=h2
 subst e
 have stat:∀{H':Hp},(∀b∈fp,H' b=none)->∀b∈fp,nT X pins H' b:=λhn b hb=>⟨hn b hb,(f2 b hb).2⟩
 refine codeAny_forLoop_any (λn s'=>∃i σ' H',Inv X pins σ' H' s'/\tn i s'.heap/\(∀b∈fp,H' b=none)/\W i n σ' H') ?_ m0 ⟨0,σ,H2,I2,st2,λb hb=>(f2 b hb).1,w0⟩
 rintro n s3 ⟨i,σ3,H3,I3,st3,fr3,w3⟩
 rcases turn i n σ3 H3 w3 with⟨stop,qn⟩|⟨go,N,hN,step⟩
 .refine wpAny_passesOwn hp (thn (T.done X rfl rfl rfl hc i pins s3 σ3 H3 X.xe I3 (stat fr3) st3 stop) λr s4 zq30=>?_)
  obtain⟨hr,I4⟩:=zq30
  subst hr
  exact wpAny_execs_nil ⟨σ3,H3,I4,qn⟩
 .refine wpAny_passesOwn hp (thn (T.item X rfl rfl rfl hc i pins s3 σ3 H3 X.xe I3 (stat fr3) st3 go) λr s4 zq31=>?_)
  obtain⟨u,hr,h4⟩:=zq31
  subst hr
  refine wpAny_passesOwn hp (thn h4 λ_ s5 zq32=>?_)
  obtain⟨x,H5,I5,r5,y5,st5,fr5⟩:=zq32
  have I5':=I5.pinned (stat fr5) (T.obj _ _ st5)
  refine wpAny_passesOwn hp (thn (hg _ s5 σ3 H5 x u _ I5' r5 (step x H5 y5)) λ_ s6 zq33=>?_)
  obtain⟨σ6,H6,I6,q6⟩:=zq33
  refine wpAny_passesOwn hp (thn (hb _ s6 σ6 H6 _ I6 q6) λf s7 q7=>?_)
  have again:∀{σ7:St}{H7:Hp},Inv X (pins++uA fp s5.heap) σ7 H7 s7->N σ7 H7->∃m,m<n/\∃i σ' H',Inv X pins σ' H' s7/\tn i s7.heap/\(∀b∈fp,H' b=none)/\W i m σ' H':=λ{σ7 H7} I7 n7=>by
   obtain⟨m',hm,w7⟩:=hN σ7 H7 n7
   refine⟨m',hm,i+1,σ7,H7,I7.unpinned,T.keep _ _ _ st5 λb hb o e=>(I7.pin (b,o) (Zn _ (Zn _ (iT hb e)))).1,λb hb=>?_,w7⟩
   obtain⟨o,e,d⟩:=T.obj _ _ st5 b hb
   exact(I7.pin (b,o) (Zn _ (Zn _ (iT hb e)))).2.1
  cases f with
  |next=>obtain⟨σ7,H7,I7,n7⟩:=q7;exact again I7 n7
  |cont=>obtain⟨σ7,H7,I7,n7⟩:=q7;exact again I7 n7
  |brk=>obtain⟨σ7,H7,I7,q7⟩:=q7;exact⟨σ7,H7,I7.unpinned,q7⟩
  |ret v=>obtain⟨x7,σ7,H7,I7,r7,q7⟩:=q7;exact⟨x7,σ7,H7,I7.unpinned,r7,q7⟩
end
abbrev R2:=V->V->Hp->VK->Prop
def OpR(X:Cx)(f:Value->Value->Sem Value)(r:R2):Prop:=
 ∀(pins:List (Addr×Obj))(s:Shared)(σ:St)(H:Hp)(x y:V)(v u:Value)(Q:VK),Inv X pins σ H s->RelV x v->RelV y u->r x y H Q->
  wpAny (model X.prog X.w) X.A (f v u) (EP X pins σ Q) X.xe s
def UnR(X:Cx)(f:Value->Sem Value)(r:V->Hp->VK->Prop):Prop:=
 ∀(pins:List (Addr×Obj))(s:Shared)(σ:St)(H:Hp)(x:V)(v:Value)(Q:VK),Inv X pins σ H s->RelV x v->r x H Q->
  wpAny (model X.prog X.w) X.A (f v) (EP X pins σ Q) X.xe s
def mH(X:Cx)(f:Value)(r:List V->Hp->VK->Prop):Prop:=
 ∀(pins:List (Addr×Obj))(s:Shared)(σ:St)(H:Hp)(xs:List V)(us:List Value)(Q:VK),Inv X pins σ H s->Vals xs us->r xs H Q->
  wpAny (model X.prog X.w) X.A (call f us) (EP X pins σ Q) X.xe s
def TruR(X:Cx)(r:V->Hp->(Bool->Hp->Prop)->Prop):Prop:=
 ∀(pins:List (Addr×Obj))(s:Shared)(σ:St)(H:Hp)(x:V)(v:Value)(Q:Bool->Hp->Prop),Inv X pins σ H s->RelV x v->r x H Q->
  wpAny (model X.prog X.w) X.A (truthy v) (TP X pins σ Q) X.xe s
def tOp(r:R2)(ta tb:TE):TE:=λσ H Q=>ta σ H λx H1=>tb σ H1 λy H2=>r x y H2 Q
def tUn(r:V->Hp->VK->Prop)(ta:TE):TE:=λσ H Q=>ta σ H λx H1=>r x H1 Q
def rI(C:Int->Int->Prop)(g:Int->Int->V):R2:=λx y H Q=>∃i j,x= .int i/\y= .int j/\C i j/\Q (g i j) H
def rI0(g:Int->Int->V):R2:=λx y H Q=>∃i j,x= .int i/\y= .int j/\Q (g i j) H
def rU(g:Int->V):V->Hp->VK->Prop:=λx H Q=>∃i,x= .int i/\Q (g i) H
section
variable {X:Cx} {a b c:Expr} {ta tb tc:TE} {pos:Pos}
theorem Uz(ha:PE X a ta)(hb:PE X b tb){pins:List (Addr×Obj)}{s:Shared}{σ:St}{H:Hp}{R:V->V->Hp->Prop}(I:Inv X pins σ H s)
  (h:ta σ H λx H1=>tb σ H1 λy H2=>R x y H2) {Q:Value->Shared->Prop} {f:Value->Value->Sem Value}
  (hf:∀v u s2 x y H2,Inv X pins σ H2 s2->RelV x v->RelV y u->R x y H2->wpAny (model X.prog X.w) X.A (f v u) Q X.xe s2):
  wpAny (model X.prog X.w) X.A (eval a X.env) (λv s₁=>wpAny (model X.prog X.w) X.A (eval b X.env) (λu s₂=>wpAny (model X.prog X.w) X.A (f v u) Q X.xe s₂) X.xe s₁) X.xe s:=by
 refine thn (ha pins s σ H _ I h) λv s1 zq34=>?_
 obtain⟨x,H1,I1,r1,q1⟩:=zq34
 refine thn (hb pins s1 σ H1 _ I1 q1) λu s2 zq35=>?_
 obtain⟨y,H2,I2,r2,q2⟩:=zq35
 exact hf v u s2 x y H2 I2 r1 r2 q2
theorem RM{op:Operator}{r:R2}(ho:OpR X (binaryOp op) r)(ha:PE X a ta)(hb:PE X b tb):PE X (.BinOp a op b pos) (tOp r ta tb):=by
 intro pins s σ H Q I h
 exact wpAny_BinOp (Uz ha hb I h λv u s2 x y H2 I2 rx ry q=>ho pins s2 σ H2 x y v u Q I2 rx ry q)
theorem Xb{op:UnaryOp}{r:V->Hp->VK->Prop}(ho:UnR X (unaryOp op) r)(ha:PE X a ta):PE X (.UnaryOp op a pos) (tUn r ta):=by
 intro pins s σ H Q I h
 exact UnaryOp_ (thn (ha pins s σ H _ I h) λv s1 ⟨x,H1,I1,r1,q1⟩=>ho pins s1 σ H1 x v Q I1 r1 q1)
theorem opI{f:Value->Value->Sem Value}{C:Int->Int->Prop}{g:Int->Int->Int}
  (rule:∀(i j:Int)(t u:Tok)(s:Shared)(Q:Value->Shared->Prop)(E:Value->Shared->Prop),C i j->Q (.int (g i j) s.toks) { s with toks:=s.toks+1}->wpAny (model X.prog X.w) X.A (f (.int i t) (.int j u)) Q E s):
  OpR X f (rI C λi j=>.int (g i j)):=by
 intro pins s σ H x y v u Q I rx ry h
 obtain⟨i,j,rfl,rfl,hc,q⟩:=h
 obtain⟨t,rfl⟩:=rx
 obtain⟨t',rfl⟩:=ry
 exact rule i j t t' s _ _ hc ⟨.int (g i j),H,I.tok _,⟨_,rfl⟩,q⟩
theorem XC{f:Value->Value->Sem Value}{g:Int->Int->Int}
  (rule:∀(i j:Int)(t u:Tok)(s:Shared)(Q:Value->Shared->Prop)(E:Value->Shared->Prop),Q (.int (g i j) s.toks) { s with toks:=s.toks+1}->wpAny (model X.prog X.w) X.A (f (.int i t) (.int j u)) Q E s):
  OpR X f (rI0 λi j=>.int (g i j)):=by
 intro pins s σ H x y v u Q I rx ry h
 obtain⟨i,j,rfl,rfl,q⟩:=h
 obtain⟨t,rfl⟩:=rx
 obtain⟨t',rfl⟩:=ry
 exact rule i j t t' s _ _ ⟨.int (g i j),H,I.tok _,⟨_,rfl⟩,q⟩
theorem RB{f:Value->Value->Sem Value}{g:Int->Int->Bool}
  (rule:∀(i j:Int)(t u:Tok)(s:Shared)(Q:Value->Shared->Prop)(E:Value->Shared->Prop),Q (.bool (g i j)) s->wpAny (model X.prog X.w) X.A (f (.int i t) (.int j u)) Q E s):
  OpR X f (rI0 λi j=>.bl (g i j)):=by
 intro pins s σ H x y v u Q I rx ry h
 obtain⟨i,j,rfl,rfl,q⟩:=h
 obtain⟨t,rfl⟩:=rx
 obtain⟨t',rfl⟩:=ry
 exact rule i j t t' s _ _ ⟨.bl (g i j),H,I,rfl,q⟩
theorem Uq:OpR X (binaryOp .Add) (rI0 λi j=>.int (i+j)):=XC λ_ _ _ _ _ _ _ q=>add_int q
theorem Va:OpR X (binaryOp .Sub) (rI0 λi j=>.int (i-j)):=XC λ_ _ _ _ _ _ _ q=>sub_int q
theorem QR:OpR X (binaryOp .Mod) (rI (λ_ j=>j≠0) λi j=>.int (i.fmod j)):=opI λ_ _ _ _ _ _ _ hc q=>mod_int' hc q
theorem unI{f:Value->Sem Value}{g:Int->Int}
  (rule:∀(i:Int)(t:Tok)(s:Shared)(Q:Value->Shared->Prop)(E:Value->Shared->Prop),Q (.int (g i) s.toks) { s with toks:=s.toks+1}->wpAny (model X.prog X.w) X.A (f (.int i t)) Q E s):
  UnR X f (rU λi=>.int (g i)):=by
 intro pins s σ H x v Q I rx h
 obtain⟨i,rfl,q⟩:=h
 obtain⟨t,rfl⟩:=rx
 exact rule i t s _ _ ⟨.int (g i),H,I.tok _,⟨_,rfl⟩,q⟩
theorem Ux:UnR X (unaryOp .USub) (rU λi=>.int (-i)):=unI λ_ _ _ _ _ q=>neg_int q
end
section
variable {X:Cx} {a b c:Expr} {ta tb tc:TE} {pos:Pos}
theorem Ug{pins:List (Addr×Obj)}{σ:St}{H:Hp}{s:Shared}{Q:VK}{k k':Bool}(I:Inv X pins σ H s)(q:Q (.bl k) H)(e:k=k'):EP X pins σ Q (.bool k') s:=by
 subst e
 exact⟨.bl k,H,I,rfl,q⟩
theorem Wm:OpR X (compareOp .Lt) (rI0 λi j=>.bl (decide (i<j))):=RB λ_ _ _ _ _ _ _ q=>lt_int q
theorem Xf:OpR X (compareOp .LtE) (rI0 λi j=>.bl (decide (i<=j))):=RB λ_ _ _ _ _ _ _ q=>le_int q
theorem Xr:OpR X (compareOp .Gt) (rI0 λi j=>.bl (decide (j<i))):=RB λ_ _ _ _ _ _ _ q=>gt_int q
theorem XM:OpR X (compareOp .GtE) (rI0 λi j=>.bl (decide (j<=i))):=RB λ_ _ _ _ _ _ _ q=>ge_int q
theorem PB:OpR X (compareOp .IsNot) (λx y H Q=>y= .non/\Q (.bl (!decide (x= .non))) H):=by
 intro pins s σ H x y v u Q I rx ry h
 obtain⟨rfl,q⟩:=h
 cases ry
 refine isnot_none_gen (Ug I q ?_)
 cases x<;>first
  |(cases rx;rfl)
  |(obtain⟨t,rfl⟩:=rx;rfl)
theorem OpR.or{f:Value->Value->Sem Value}{r r':R2}(h:OpR X f r)(h':OpR X f r'):OpR X f (λx y H Q=>r x y H Q∨r' x y H Q):=by
 intro pins s σ H x y v u Q I rx ry q
 rcases q with q|q
 .exact h pins s σ H x y v u Q I rx ry q
 .exact h' pins s σ H x y v u Q I rx ry q
theorem QH{op:CmpOp}{r:R2}(ho:OpR X (compareOp op) r)(ha:PE X a ta)(hb:PE X b tb)(hm:behindInMarks op b=false):PE X (.Compare a [op] [b] pos) (tOp r ta tb):=by
 intro pins s σ H Q I h
 exact wpAny_Compare1 (Uz ha hb I h λv u s2 x y H2 I2 rx ry q=>ho pins s2 σ H2 x y v u Q I2 rx ry q) hm
def XQ(t:TE):TT:=λσ H Q=>t σ H λx H'=>∃k,x= .bl k/\Q k H'
theorem Ry{op:CmpOp}{r:R2}(ho:OpR X (compareOp op) r)(ha:PE X a ta)(hb:PE X b tb)(hm:behindInMarks op b=false):PT X (.Compare a [op] [b] pos) (XQ (tOp r ta tb)):=by
 intro pins s σ H Q I h
 refine wpAny_isTrue_Compare1 (thn (ha pins s σ H _ I h) λv s1 ⟨x,H1,I1,r1,q1⟩=>thn (hb pins s1 σ H1 _ I1 q1) λu s2 ⟨y,H2,I2,r2,q2⟩=>
  thn (ho pins s2 σ H2 x y v u _ I2 r1 r2 q2) λc s3 ⟨z,H3,I3,r3,k,e,q3⟩=>?_) hm
 subst e
 cases r3
 exact wpAny_truthy_bool ⟨H3,I3,q3⟩
def JR(r r':R2)(ta tb tc:TE):TE:=λσ H Q=>ta σ H λx H1=>tb σ H1 λy H2=>r x y H2 λz H3=>∃k,z= .bl k/\
 (if k=true then tc σ H3 λw' H4=>r' y w' H4 Q else Q (.bl false) H3)
theorem Jy{op op':CmpOp}{r r':R2}(ho:OpR X (compareOp op) r)(ho':OpR X (compareOp op') r')(ha:PE X a ta)(hb:PE X b tb)(hc:PE X c tc)
  (hm:lastMarks [op,op'] [b,c]=false:=by with_unfolding_all rfl):PE X (.Compare a [op,op'] [b,c] pos) (JR r r' ta tb tc):=by
 intro pins s σ H Q I h
 refine Compare_chain (thn (ha pins s σ H _ I h) λv s1 ⟨x,H1,I1,r1,q1⟩=>chain_link (thn (hb pins s1 σ H1 _ I1 q1) λu s2 ⟨y,H2,I2,r2,q2⟩=>
  thn (ho pins s2 σ H2 x y v u _ I2 r1 r2 q2) λd s3 ⟨z,H3,I3,r3,k,e,q3⟩=>?_)) hm
 subst e
 cases r3
 refine wpAny_truthy_bool ?_
 cases k with
 |false=>exact ite_ff ⟨.bl false,H3,I3,rfl,q3⟩
 |true=>exact ite_tt (chain_last (thn (hc pins s3 σ H3 _ I3 q3) λw' s4 ⟨z',H4,I4,r4,q4⟩=>ho' pins s4 σ H4 y z' u w' Q I4 r2 r4 q4))
def Vf(K:PySem.W.Frag)(x:V)(H:Hp)(k:Bool):Prop:=
 match x with
 | .non=>k=false
 | .bl b=>k=b
 | .int i=>k=(i != 0)
 | .str y=>y.length<=sizeLine/\k=((y.length:Int) != 0)
 | .byt y=>y.size<=sizeLine/\k=((y.size:Int) != 0)
 | .ref p=>(∃xs,SqL K H p xs/\k= !xs.isEmpty)∨(∃xs,SqT K H p xs/\k= !xs.isEmpty)∨∃kvs,H p=some (.dK kvs)/\k= !kvs.isEmpty
 |_=>False
theorem FZ{κ:Type}{kvs:List (κ×V)}{vs:List (κ×Value)}(r:KV kvs vs):(!vs.isEmpty)= !kvs.isEmpty:=by
 cases r<;>rfl
theorem yG{xs:List V}{its:List Value}(r:Vals xs its):(!its.toArray.isEmpty)= !xs.isEmpty:=by
 cases r<;>simp
theorem uT:(sizeLine:Nat)<2 ^ 63:=by rw[sizeLine_eq];decide
theorem Vz:TruR X (λx H Q=>∃k,Vf X.K x H k/\Q k H):=by
 intro pins s σ H x v Q I rx h
 obtain⟨k,e,q⟩:=h
 have hl:=uT
 have hs:sizeLine=16777216:=sizeLine_eq
 cases x with
 |non=>
  cases rx
  have e':k=false:=e
  subst e'
  exact truthy_none ⟨H,I,q⟩
 |bl b=>
  cases rx
  have e':k=b:=e
  subst e'
  exact wpAny_truthy_bool ⟨H,I,q⟩
 |int i=>
  obtain⟨t,rfl⟩:=rx
  have e':k=(i != 0):=e
  subst e'
  exact PySem.P.truthy_int ⟨H,I,q⟩
 |str y=>
  obtain⟨t,rfl⟩:=rx
  obtain⟨hy,e'⟩:y.length<=sizeLine/\k=((y.length:Int) != 0):=e
  subst e'
  exact PySem.P.truthy_str (by omega) ⟨H,I.tok _,q⟩
 |byt y=>
  obtain⟨t,rfl⟩:=rx
  obtain⟨hy,e'⟩:y.size<=sizeLine/\k=((y.size:Int) != 0):=e
  subst e'
  exact PySem.W.truthy_bytes (by omega) ⟨H,I.tok _,q⟩
 |ref p=>
  cases rx
  have e':(∃xs,SqL X.K H p xs/\k= !xs.isEmpty)∨(∃xs,SqT X.K H p xs/\k= !xs.isEmpty)∨∃kvs,H p=some (.dK kvs)/\k= !kvs.isEmpty:=e
  rcases e' with⟨xs,hx,e'⟩|⟨xs,hx,e'⟩|⟨kvs,hx,e'⟩
  .subst e'
   obtain⟨its,r,pl,hz⟩:=I.list hx
   have hlen:=r.length
   exact wpAny_truthy_list pl.isList (by simp only[Zd];omega) ⟨H,I.tok _,by rw[yG r];exact q⟩
  .subst e'
   obtain⟨its,r,pl,hz⟩:=I.tuple hx
   have hlen:=r.length
   exact truthy_tuple pl (by simp only[Zd];omega) ⟨H,I.tok _,by rw[yG r];exact q⟩
  .subst e'
   obtain⟨hz,hS,vs,r,m⟩:kvs.length<=sizeLine/\(p==sysModules)=false/\∃vs,KV kvs vs/\s.heap.DictOf (jW X.prog X.w) p vs:=I.hok p _ hx
   have hlen:kvs.length=vs.length:=Paired.length r
   exact wpAny_truthy_dict hS m (by omega) ⟨H,I.tok _,by rw[FZ r];exact q⟩
 |_=>exact(show False from e).elim
theorem JV(ha:PE X a ta)(he:∀whole,isTrue a X.env whole=(do let v<-whole;standAt a.pos;holding [v] (truthy v))):
  PT X a (λσ H Q=>ta σ H λx H'=>∃k,Vf X.K x H' k/\Q k H'):=by
 intro pins s σ H Q I h
 exact isTrue_plain (thn (ha pins s σ H _ I h) λv s1 ⟨x,H1,I1,r1,q1⟩=>Vz pins s1 σ H1 x v Q I1 r1 q1) (he _)
theorem Gs:OpR X (binaryOp .Add) (λx y H Q=>∃i j,x= .str i/\y= .str j/\i.length+j.length<=sizeLine/\Q (.str (i++j)) H):=by
 intro pins s σ H x y v u Q I rx ry h
 obtain⟨i,j,rfl,rfl,hz,q⟩:=h
 obtain⟨t,rfl⟩:=rx
 obtain⟨t',rfl⟩:=ry
 exact add_str (λt' tk=>⟨.str (i++j),H,I.tok _,⟨_,rfl⟩,q⟩) hz
theorem vals1{x:V}{us:List Value}(r:Vals [x] us):∃u,us=[u]/\RelV x u:=by
 cases r with
 |cons r1 r2=>cases r2;exact⟨_,rfl,r1⟩
theorem vals2{x y:V}{us:List Value}(r:Vals [x,y] us):∃u w',us=[u,w']/\RelV x u/\RelV y w':=by
 cases r with
 |cons r1 r2=>
  cases r2 with
  |cons r3 r4=>cases r4;exact⟨_,_,rfl,r1,r3⟩
theorem Mi:mH X (.builtin "abs") (λxs H Q=>∃i,xs=[.int i]/\Q (.int (if i<0 then -i else i)) H):=by
 intro pins s σ H xs us Q I r h
 obtain⟨i,rfl,q⟩:=h
 obtain⟨u,rfl,t,rfl⟩:=vals1 r
 exact call_abs_int λu tk=>⟨.int (if i<0 then -i else i),H,I.tok _,⟨_,rfl⟩,q⟩
theorem Jg(hc:X.calm=true):mH X (.builtin "min") (λxs H Q=>∃i j,xs=[.int i,.int j]/\Q (.int (if j<i then j else i)) H):=by
 intro pins s σ H xs us Q I r h
 obtain⟨i,j,rfl,q⟩:=h
 obtain⟨u,w',rfl,⟨t,rfl⟩,⟨t',rfl⟩⟩:=vals2 r
 refine min_two_ints (I.ok.hd hc) λh' tk k=>⟨_,H,I.kept k,?_,q⟩
 by_cases hj:j<i
 .rw[if_pos hj,if_pos hj];exact⟨_,rfl⟩
 .rw[if_neg hj,if_neg hj];exact⟨_,rfl⟩
end
structure iB(k:Nat)(A:Around):Prop where
 hd:A.handled=none
 dp:A.depth+3*k+5<recursionLimit
 un:A.units+16*k+200<cLine
theorem iB.mono{j k:Nat}{A:Around}(r:iB k A)(h:j<=k):iB j A:=⟨r.hd,by have:=r.dp;omega,by have:=r.un;omega⟩
theorem iB.deeper{k:Nat}{A:Around}(r:iB (k+1) A)(env:Env):iB k (A.deeper env):=
 ⟨r.hd,by have:=r.dp;show A.depth+1+3*k+5<_;omega,by have:=r.un;show A.units+3+16*k+200<_;omega⟩
theorem iB.depth{k:Nat}{A:Around}(r:iB k A):A.depth<recursionLimit:=by have:=r.dp;omega
def Xw:TA:=λ_ H Q=>Q [] H
def WT(ta:TE)(tr:TA):TA:=λσ H Q=>ta σ H λx H1=>tr σ H1 λxs H2=>Q (x::xs) H2
section
variable {X:Cx} {e:Expr} {es:List Expr} {te:TE} {t:TA} {pos:Pos}
theorem Az:PA X [] Xw:=λ_ _ _ _ H Q I h=>Calls.spliced_nil ⟨[],H,I,.nil,h⟩
theorem uo(ha:PE X e te)(hr:PA X es t)(hs:starEach (e::es) X.env=(false,eval e X.env)::starEach es X.env:=by rfl):PA X (e::es) (WT te t):=by
 intro pos pins s σ H Q I h
 rw[hs]
 show wpAny _ _ (spliced ((false,eval e X.env)::backTo pos (starEach es X.env))) _ _ s
 refine Calls.spliced_cons (thn (ha pins s σ H _ I h) λu s1 zq46=>?_)
 obtain⟨x,H1,I1,r1,q1⟩:=zq46
 exact thn (hr pos pins s1 σ H1 _ I1 q1) λus s2 ⟨xs,H2,I2,r2,q2⟩=>⟨x::xs,H2,I2,.cons r1 r2,q2⟩
def tTup(t:TA):TE:=λσ H Q=>t σ H λxs H1=>xs.length<=sizeLine/\∀p,H1 p=none->Q (.ref p) (upd H1 p (.tup xs))
def tLst(t:TA):TE:=λσ H Q=>t σ H λxs H1=>xs.length<=sizeLine/\∀p,H1 p=none->Q (.ref p) (upd H1 p (.lst xs))
theorem Vu{x1}(h:PA X es t):PE X (.Tuple es x1 pos) (tTup t):=by
 intro pins s σ H Q I hq
 refine wpAny_Tuple_spliced (thn (h pos pins s σ H _ I hq) λus s1 ⟨xs,H1,I1,r,z,q⟩=>⟨by rw[<-r.length];exact z,?_⟩)
 have hf:H1 s1.heap.objs.size=none:=I1.hok.fresh (Zg _)
 refine⟨.ref s1.heap.objs.size,upd H1 s1.heap.objs.size (.tup xs),I1.laid (t':=s1.toks) (λb u e=>Zb _ e) (Zg _) ?_,rfl,q _ hf⟩
 exact⟨z,us,r,⟨_,Zf _ rfl,rfl,_,rfl⟩⟩
theorem Oh(h:PA X es t):PE X (.List es pos) (tLst t):=by
 intro pins s σ H Q I hq
 refine wpAny_List_spliced (thn (h pos pins s σ H _ I hq) λus s1 ⟨xs,H1,I1,r,z,q⟩=>⟨by rw[<-r.length];exact z,?_⟩)
 have hf:H1 s1.heap.objs.size=none:=I1.hok.fresh (Zg _)
 refine⟨.ref s1.heap.objs.size,upd H1 s1.heap.objs.size (.lst xs),I1.laid (t':=s1.toks) (λb u e=>Zb _ e) (Zg _) ?_,rfl,q _ hf⟩
 exact⟨z,us,0,r,Zf _ rfl⟩
end
abbrev Sp:=List V->Hp->VK->XK->Prop
abbrev CXT:=List Env->Hp->Shared->XK->Value->Shared->Prop
structure Ph(P:Program)(w:World)(K:PySem.W.Frag)(mg:Str->Option Value)(base:Heap)(A:Around)(outer:List Env)(s:Shared)(H:Hp):Prop where
 frames:A.frames=some outer
 mod:Mod K mg base
 bs:∀b o,base.get? b=some o->s.heap.get? b=some o/\H b=none
 bsz:base.objs.size<=s.heap.objs.size
 funs:s.heap.FunFrames base outer
 frf:∀b∈frs outer,H b=none
 hok:HOk P w H s.heap
 bare:AllBare s.gens
def CE(outer:List Env)(P:Program)(w:World)(H:Hp)(s:Shared)(Q:VK)(u:Value)(s':Shared):Prop:=
 ∃v H',s'.os=s.os/\GK s.gens s'.gens/\Un (frs outer) [] H H' s.heap s'.heap/\HOk P w H' s'.heap/\RelV v u/\Q v H'
def CR(CX:CXT)(outer:List Env)(P:Program)(w:World)(H:Hp)(s:Shared)(Q:VK)(E:XK)(r:Result)(s':Shared):Prop:=
 match r with
 | .ok (.ret u)=>CE outer P w H s Q u s'
 | .ok _=>False
 | .error e=>CX outer H s E e s'
structure uv(P:Program)(w:World)(K:PySem.W.Frag)(mg:Str->Option Value)(base:Heap)(CX:CXT)(k:Nat)(f:Addr)(fd:FuncData)(ps:List Str)(sp:Sp):Prop where
 len:∀vs H Q E,sp vs H Q E->vs.length=ps.length
 run:∀(A:Around)(outer:List Env)(s:Shared)(H:Hp)(args:Args)(us:List Value)(vs:List V)(Q:VK)(E:XK),iB k A->Ph P w K mg base A outer s H->BindsTo s fd args (ps.zip us)->Vals vs us->sp vs H Q E->
  codeAny (model P w) A (.call (.ref f) args) (CR CX outer P w H s Q E) s
theorem uv.imp{P:Program}{w:World}{K:PySem.W.Frag}{mg:Str->Option Value}{base:Heap}{CX:CXT}{k:Nat}{f:Addr}{fd:FuncData}{ps:List Str}{sp sp':Sp}(F:uv P w K mg base CX k f fd ps sp)
  (h:∀vs H Q E,sp' vs H Q E->sp vs H Q E):uv P w K mg base CX k f fd ps sp':=
 ⟨λvs H Q E q=>F.len vs H Q E (h _ _ _ _ q),λA outer s H args us vs Q E hr he hb hv hs=>F.run A outer s H args us vs Q E hr he hb hv (h _ _ _ _ hs)⟩
section
variable {X:Cx} {pins:List (Addr×Obj)} {σ:St} {H:Hp} {s s':Shared}
theorem Inv.env0(I:Inv X pins σ H s):Ph X.prog X.w X.K X.mg X.base X.A X.stack s H:=
 ⟨I.ok.frames,I.ok.mod,I.bs,Zl I.ok.bsz I.sz,I.stack,I.stkFree,I.hok,I.bare.bare⟩
theorem Inv.after{Q:VK}{u:Value}(I:Inv X pins σ H s)(h:CE X.stack X.prog X.w H s Q u s'):EP X pins σ Q u s':=by
 obtain⟨v,H',os,bare,un,hok,r,q⟩:=h
 obtain⟨hh,g,d,t,os'⟩:=s'
 obtain rfl:os'=s.os:=os
 exact⟨v,H',I.call (h':=hh) (g':=g) (d':=d) (t':=t) (ch:=[]) un hok bare (λb z=>absurd z (by simp)),r,q⟩
end
def RN(sp:Sp)(dvs:List V)(E:XK)(t:TA):TE:=λσ H Q=>t σ H λvs H1=>sp (vs++dvs) H1 Q E
def Binds(K:PySem.W.Frag)(fd:FuncData)(ps:List Str)(ds:List Value):Prop:=
 ∀(s:Shared)(us:List Value),K.In s.heap->(us++ds).length=ps.length->BindsTo s fd ⟨us,[]⟩ (ps.zip (us++ds))
theorem Binds.all{K:PySem.W.Frag}{fd:FuncData}{ps:List Str}(h:∀us:List Value,us.length=ps.length->bindArgs fd ⟨us,[]⟩=pure (ps.zip us)):Binds K fd ps []:=λs us _ hl=>by
 rw[List.append_nil]at hl ⊢
 exact .of_eq (h us hl)
def Bk(CX:CXT)(X:Cx)(E:XK):Prop:=∀(pins:List (Addr×Obj))(σ:St)(H:Hp)(s:Shared)(e:Value)(s':Shared),Inv X pins σ H s->CX X.stack H s E e s'->X.xe e s'
section
variable {X:Cx} {CX:CXT} {k:Nat} {f C:Addr} {fd:FuncData} {ps:List Str} {sp:Sp} {dvs:List V} {ds:List Value} {E:XK} {x m:Str} {p pos apos:Pos} {e o:Expr} {es:List Expr} {ta:TE} {t:TA}
theorem Ny{pins:List (Addr×Obj)}{σ:St}{H:Hp}{s:Shared}{Q:VK}{us:List Value}{vs:List V}(F:uv X.prog X.w X.K X.mg X.base CX k f fd ps sp)(hr:iB k X.A)(hb:Binds X.K fd ps ds)(hd:Vals dvs ds)(hx:Bk CX X E)
  (I:Inv X pins σ H s) (r:Vals vs us) (h:sp (vs++dvs) H Q E):wpAny (model X.prog X.w) X.A (call (.ref f) us) (EP X pins σ Q) X.xe s:=by
 have r2:Vals (vs++dvs) (us++ds):=r.append hd
 have hl:(us++ds).length=ps.length:=by rw[<-r2.length];exact F.len _ _ _ _ h
 refine wpAny_call (codeAny_mono (F.run X.A X.stack s H ⟨us,[]⟩ (us++ds) (vs++dvs) Q E hr I.env0 (hb s us I.kIn hl) r2 h) λr s' hq=>?_)
 cases r with
 |error e=>exact hx pins σ H s e s' I hq
 |ok fl=>
  cases fl with
  |ret u=>exact I.after hq
  |next=>exact False.elim hq
  |brk=>exact False.elim hq
  |cont=>exact False.elim hq
theorem Qn(F:uv X.prog X.w X.K X.mg X.base CX k f fd ps sp)(hr:iB k X.A)(hg:Gl X x)(hm:X.mg x=some (.ref f))(hk:PySem.W.keepIn X.K (.ref f)=true)(hb:Binds X.K fd ps ds)(hd:Vals dvs ds)(hx:Bk CX X E)
  (ha:PA X (e::es) t) (hdb:(x==("__debug__":Str))=false:=by decide) (he:starEach (e::es) X.env=(false,eval e X.env)::starEach es X.env:=by rfl) (hpl:(backTo pos (starEach es X.env)).any (·.1)=false:=by rfl):
  PE X (.Call (.Name x p) (e::es) [] pos) (RN sp dvs E t):=by
 intro pins s σ H Q I h
 refine wpAny_Call_Name_kw (Hm I hg hm ?_ hdb)
 refine PySem.W.callWith_K (h₀:=X.base) I.ok.mod.kin hk (thn (ha pos pins s σ H _ I h) λus s1 ⟨vs,H1,I1,r,q⟩=>⟨I1.kIn,?_⟩) he hpl
 exact Ny F hr hb hd hx I1 r q
theorem JX(F:uv X.prog X.w X.K X.mg X.base CX k f fd ps sp)(hr:iB k X.A)(hg:Gl X x)(hm:X.mg x=some (.ref f))(hk:PySem.W.keepIn X.K (.ref f)=true)(hb:Binds X.K fd ps ds)(hd:Vals dvs ds)(hx:Bk CX X E)
  (hdb:(x==("__debug__":Str))=false:=by decide):PE X (.Call (.Name x p) [] [] pos) (RN sp dvs E Xw):=by
 intro pins s σ H Q I h
 refine wpAny_Call_Name_kw (Hm I hg hm ?_ hdb)
 exact PySem.W.callWith_K0 I.kIn hk (Ny (us:=[]) F hr hb hd hx I .nil h)
end
structure aW(N P:List Str)(sc:Scope):Prop where
 kind:sc.kind= .function
 co:sc.isCoroutine=false
 gen:sc.isGenerator=false
 nd:N.Nodup
 pre:N.take P.length=P
 par:∀x∈P,sc.names.lookup x=some .local∨sc.names.lookup x=some .cell
 nofree:∀y∈sc.names,y.2≠ .free
theorem zG{kindOf:Str->Option NameKind}{x:Str}:∀{binds:List (Str×Value)}{m:Str->Option Value},(∀v,(x,v)∉binds)->bindL kindOf binds m x=m x
 | [],_,_=>rfl
 |(n,v)::r,m,h=>by
  unfold bindL
  rw[zG λw hw=>h w (List.mem_cons_of_mem _ hw)]
  split
  .have:x≠n:=by rintro rfl;exact h v List.mem_cons_self
   simp[this]
  .rfl
theorem zJ{kindOf:Str->Option NameKind}{x:Str}:∀{binds:List (Str×Value)}{m:Str->Option Value},(∀v,(x,v)∉binds)->bindC kindOf binds m x=m x
 | [],_,_=>rfl
 |(n,v)::r,m,h=>by
  unfold bindC
  rw[zJ λw hw=>h w (List.mem_cons_of_mem _ hw)]
  split
  .rfl
  .have:x≠n:=by rintro rfl;exact h v List.mem_cons_self
   simp[this]
theorem zf{kindOf:Str->Option NameKind}{x:Str}{v:Value}:∀{P:List Str}{vs:List Value}{i:Nat}{m:Str->Option Value},P.Nodup->P[i]? =some x->vs[i]? =some v->kindOf x=some .local->
  bindL kindOf (P.zip vs) m x=some v
 | [],_,_,_,_,h,_,_=>by simp at h
 |_::_,[],_,_,_,_,h,_=>by simp at h
 |p::P,w::vs,0,m,nd,h1,h2,hk=>by
  simp at h1 h2;subst h1;subst h2
  show bindL kindOf ((p,w)::P.zip vs) m p=_
  unfold bindL
  rw[zG λv hv=>(List.nodup_cons.mp nd).1 (List.of_mem_zip hv).1,if_pos hk]
  simp
 |p::P,w::vs,i+1,m,nd,h1,h2,hk=>by
  show bindL kindOf ((p,w)::P.zip vs) m x=_
  unfold bindL
  exact zf (i:=i) (List.nodup_cons.mp nd).2 (by simpa using h1) (by simpa using h2) hk
theorem zZ{kindOf:Str->Option NameKind}{x:Str}{v:Value}:∀{P:List Str}{vs:List Value}{i:Nat}{m:Str->Option Value},P.Nodup->P[i]? =some x->vs[i]? =some v->kindOf x≠some .local->
  bindC kindOf (P.zip vs) m x=some v
 | [],_,_,_,_,h,_,_=>by simp at h
 |_::_,[],_,_,_,_,h,_=>by simp at h
 |p::P,w::vs,0,m,nd,h1,h2,hk=>by
  simp at h1 h2;subst h1;subst h2
  show bindC kindOf ((p,w)::P.zip vs) m p=_
  unfold bindC
  rw[zJ λv hv=>(List.nodup_cons.mp nd).1 (List.of_mem_zip hv).1,if_neg hk]
  simp
 |p::P,w::vs,i+1,m,nd,h1,h2,hk=>by
  show bindC kindOf ((p,w)::P.zip vs) m x=_
  unfold bindC
  exact zZ (i:=i) (List.nodup_cons.mp nd).2 (by simpa using h1) (by simpa using h2) hk
def start(N:List Str)(vs:List V):St:=vs.map some++List.replicate (N.length-vs.length) none
def FJ(CX:CXT)(P:Program)(w:World)(K:PySem.W.Frag)(mg:Str->Option Value)(base:Heap)(N:List Str)(qual:Str)(scope:Scope)(f:Addr)(cd:Value)(A:Around)(outer:List Env)(s:Shared)(H:Hp)(E:XK):Cx where
 prog:=P
 w:=w
 K:=K
 mg:=mg
 base:=base
 A:=A.deeper (envOfC qual scope s.heap.objs.size f cd)
 N:=N
 s₀:=s
 H₀:=H
 env:=envOfC qual scope s.heap.objs.size f cd
 outer:=outer
 stack:=envOfC qual scope s.heap.objs.size f cd::outer
 ex:=[]
 calm:=true
 fn:=λ_=>true
 pn:=[]
 xe:=λe s'=>wpAny (model P w) (A.deeper (envOfC qual scope s.heap.objs.size f cd)) (leaving (envOfC qual scope s.heap.objs.size f cd) e) (λ_ s''=>CX outer H s E e s'') (λe' s''=>CX outer H s E e' s'') s'
theorem Dz{sc:Scope}{n:Nat}{x:Str}(h:sc.names.lookup x=some .cell):∃c,(cellsFrom n sc.names []).lookup x=some c:=by
 have q:=PySem.W.cellsFrom_some sc.names n [] (.inl h)
 exact Option.isSome_iff_exists.mp q
theorem IK{CX:CXT}{P:Program}{w:World}{K:PySem.W.Frag}{mg:Str->Option Value}{base:Heap}{N ps:List Str}{qual:Str}{scope:Scope}{f:Addr}{cd:Value}{A:Around}{outer:List Env}{s s1:Shared}{H:Hp}{E:XK}{us:List Value}{vs:List V}
  (S:aW N ps scope) (hd:A.handled=none) (e0:Ph P w K mg base A outer s H) (hl:vs.length=ps.length) (r:Vals vs us)
  (x:InCallC s s.heap.objs.size (bindL (envOfC qual scope s.heap.objs.size f cd).kindOf (ps.zip us) λ_=>none) (cellsFrom (s.heap.objs.size+1) scope.names []) (bindC (envOfC qual scope s.heap.objs.size f cd).kindOf (ps.zip us) λ_=>none) s1):
  Inv (FJ CX P w K mg base N qual scope f cd A outer s H E) [] (start N vs) H s1:=by
 have hpl:ps.length<=N.length:=by have:=congrArg List.length S.pre;rw[List.length_take]at this;omega
 obtain⟨h1,tk,rfl,hk⟩:=x.done
 have noA:∀b:Addr,b∉(FJ CX P w K mg base N qual scope f cd A outer s H E).ex:=λb z=>absurd (show b∈([]:List Addr)from z) (by simp)
 refine⟨⟨e0.mod,S.kind,rfl,rfl,Zg _,λy z c h1 h2=>?_,λy hy=>?_,λy c _ h=>?_,λ_=>hd,Around.frames_deeper e0.frames,.inr ⟨rfl,rfl⟩,λb z=>absurd z (noA b),e0.bs,e0.bsz,λb _ _=>noA b,λb z=>absurd z (noA b),e0.funs,e0.frf⟩,
  rfl,GK.refl e0.bare,Un.kept hk,⟨_,x.toInCall.ns,λi y v h1 h2 h3=>?_⟩,λy c h=>⟨_,x.cell y c h⟩,e0.hok.fresh (Zg _),λy c h=>?_,λp hp=>absurd (show p∈([]:List (Addr×Obj))from hp) (by simp),e0.hok.kept hk,?_⟩
 .exact name_of_addr x.apart (Zt h1) (Zt h2)
 .have hy:scope.names.lookup y=some .cell∨scope.names.lookup y=some .free:=hy
  rcases hy with hy|hy
  .exact Dz hy
  .exact absurd rfl (S.nofree _ (Zt hy))
 .exact Nat.le_of_lt (x.above y c (Zt h))
 .have hi:i<vs.length:=by
   unfold start at h2
   by_cases hi:i<vs.length
   .exact hi
   .rw[List.getElem?_append_right (by simpa using hi)]at h2
    rw[List.getElem?_replicate]at h2
    split at h2<;>cases h2
  have ha:vs[i]? =some v:=by
   unfold start at h2
   rw[Zs (by simpa using hi),List.getElem?_map]at h2
   cases e:vs[i]? with
   |none=>rw[e]at h2;cases h2
   |some a=>rw[e]at h2;cases h2;rfl
  obtain⟨u,hu,rv⟩:=r.get ha
  have hp:ps[i]? =some y:=by
   rw[<-S.pre,List.getElem?_take_of_lt (by omega)];exact h1
  have ndP:ps.Nodup:=by rw[<-S.pre];exact S.nd.sublist (List.take_sublist _ _)
  refine⟨u,rv,?_⟩
  rcases S.par y (List.mem_of_getElem? hp)with k|k
  .exact .inl ⟨k,zf ndP hp hu k⟩
  .obtain⟨c,e⟩:=Dz (n:=s.heap.objs.size+1) k
   refine .inr ⟨.inl k,c,e,?_⟩
   have q:=x.cell y c e
   rw[zZ ndP hp hu (by show scope.names.lookup y≠_;rw[k];decide)]at q
   exact q
 .exact e0.hok.fresh (Nat.le_of_lt (x.above y c (Zt h)))
 .unfold start
  show _=N.length
  rw[List.length_append,Zu,List.length_replicate]
  omega
theorem RV{CX:CXT}{P:Program}{w:World}{K:PySem.W.Frag}{mg:Str->Option Value}{base:Heap}{k:Nat}{f:Addr}{name qual:Str}{params:Arguments}{body:List Stmt}{scope:Scope}{dV kV doc pm cdv ct oc:Value}{an od:Option Addr}
  {osl:Array (Option Value)} {N ps:List Str} {sp:Sp} (lk:K.lookup f=some ⟨oc,od,.func (PySem.W.fnOf name qual params body scope dV kV doc pm an cdv ct),osl⟩) (hcd:PySem.W.codeIn K cdv qual=true) (S:aW N ps scope)
  (len:∀vs H Q E,sp vs H Q E->vs.length=ps.length)
  (hbody:∀(A:Around)(outer:List Env)(s:Shared)(H:Hp)(vs:List V)(Q:VK)(E:XK),iB k (A.deeper (envOfC qual scope s.heap.objs.size f cdv))->sp vs H Q E->
   ∃t,PSs (FJ CX P w K mg base N qual scope f cdv A outer s H E) body t/\t { nx:=λ_ H'=>Q .non H',rt:=Q} (start N vs) H):
  uv P w K mg base CX (k+1) f (PySem.W.fnOf name qual params body scope dV kV doc pm an cdv ct) ps sp:=by
 refine⟨len,λA outer s H args us vs Q E hr e0 hb r hsp=>?_⟩
 have hl:=len _ _ _ _ hsp
 have KX:K.In s.heap:=e0.mod.kin.keeps λb o e=>(e0.bs b o e).1
 have lim:s.heap.NoLimit:=e0.mod.nolimit.keeps λb o e=>(e0.bs b o e).1
 have hkind:∀y∈ps.zip us,scope.names.lookup y.1=some .local∨(scope.names.lookup y.1=some .cell/\((cellsFrom (s.heap.objs.size+1) scope.names []).lookup y.1).isSome=true):=λzq49 hy=>by
  obtain⟨n,v⟩:=zq49
  rcases S.par n (List.of_mem_zip hy).1 with q|q
  .exact .inl q
  .exact .inr ⟨q,PySem.W.cellsFrom_some _ _ _ (.inl q)⟩
 refine codeAny_call_function hr.depth (KX _ _ lk) rfl S.co S.gen rfl (PySem.W.codeRec_of KX hcd) (hb _ _ _ _ ?_)
 refine wpAny_newFunctionEnv_cells S.kind hkind λenv he s1 x=>?_
 subst he
 refine⟨lim.keeps x.toInCall.keep,codeAny_func ?_⟩
 obtain⟨t,ht,hq⟩:=hbody A outer s H vs Q E (hr.deeper _) hsp
 have I:Inv (FJ CX P w K mg base N qual scope f cdv A outer s H E) [] (start N vs) H s1:=IK S hr.hd e0 hl r x
 refine wpAny_mono (ht [] s1 (start N vs) H _ I hq) (λfl s' hs=>?_) λe s' hs=>hs
 have fin:∀{σ':St}{H':Hp}{v:V}{u:Value},Inv (FJ CX P w K mg base N qual scope f cdv A outer s H E) [] σ' H' s'->RelV v u->Q v H'->CE outer P w H s Q u s':=
  λ{σ' H' v u} J rv q=>⟨v,H',J.os,J.bare,J.base,J.hok,rv,q⟩
 cases fl with
 |ret u=>
  obtain⟨v,σ',H',J,rv,q⟩:=hs
  exact fin J rv q
 |next=>
  obtain⟨σ',H',J,q⟩:=hs
  exact fin (v:=V.non) (u:=Value.none) J rfl q
 |brk=>
  obtain⟨_,_,_,q⟩:=hs
  exact False.elim q
 |cont=>
  obtain⟨_,_,_,q⟩:=hs
  exact False.elim q
section
variable {X:Cx} {x:Str} {p pos:Pos} {e:Expr} {es:List Expr} {t:TA} {id T:String} {r:List V->Hp->VK->Prop}
def tCB(r:List V->Hp->VK->Prop)(t:TA):TE:=λσ H Q=>t σ H λvs H1=>r vs H1 Q
theorem qp(hc:mH X (.builtin id) r)(hg:Gl X x)(hm:X.mg x=none)(hv:bootBuiltins x=some (.builtin id))(ha:PA X (e::es) t)(hn:x≠"__name__":=by decide)(hdb:(x==("__debug__":Str))=false:=by decide)
  (he:starEach (e::es) X.env=(false,eval e X.env)::starEach es X.env:=by rfl) (hpl:(backTo pos (starEach es X.env)).any (·.1)=false:=by rfl):PE X (.Call (.Name x p) (e::es) [] pos) (tCB r t):=by
 intro pins s σ H Q I h
 refine wpAny_Call_Name_kw (oX I hg hm hv ?_ hn hdb)
 exact PyProof.Rows.callWith_builtin1 (thn (ha pos pins s σ H _ I h) λus s1 ⟨vs,H1,I1,r1,q1⟩=>hc pins s1 σ H1 vs us Q I1 r1 q1) he hpl
theorem Ja(hc:mH X (.type T) r)(hg:Gl X x)(hm:X.mg x=none)(hv:bootBuiltins x=some (.type T))(ha:PA X (e::es) t)(hn:x≠"__name__":=by decide)(hdb:(x==("__debug__":Str))=false:=by decide)
  (he:starEach (e::es) X.env=(false,eval e X.env)::starEach es X.env:=by rfl) (hpl:(backTo pos (starEach es X.env)).any (·.1)=false:=by rfl):PE X (.Call (.Name x p) (e::es) [] pos) (tCB r t):=by
 intro pins s σ H Q I h
 refine wpAny_Call_Name_kw (oX I hg hm hv ?_ hn hdb)
 exact PyProof.Rows.callWith_type1 (thn (ha pos pins s σ H _ I h) λus s1 ⟨vs,H1,I1,r1,q1⟩=>hc pins s1 σ H1 vs us Q I1 r1 q1) he hpl
end
end L2
namespace HT
open PySem PyProof.Rows
def lexLt:List Int->List Int->Bool
 | [],[]=>false
 | [],_::_=>true
 |_::_,[]=>false
 |x::xs,y::ys=>if x=y then lexLt xs ys else decide (x<y)
theorem lexLt_cons(x y:Int)(xs ys:List Int):lexLt (x::xs) (y::ys)=if x=y then lexLt xs ys else decide (x<y):=rfl
section
variable {prog:Program} {w:World} {A:Around} {E:Value->Shared->Prop} {s:Shared}
theorem cat_tup{t b:Addr}{vs ws:List Value}{Q:Value->Shared->Prop}(ht:IsTup s.heap t vs.toArray)(hb:IsTup s.heap b ws.toArray)(hv:vs≠[])
  (h1:ws=[]->Q (.ref t) s) (h2:ws≠[]->Q (.ref s.heap.objs.size) { s with heap:=s.heap.push { cls:=.type "tuple",data:=.seq (vs++ws).toArray} })
  (hsz:vs.length+ws.length<=sizeLine):wpAny (model prog w) A (binaryOp .Add (.ref t) (.ref b)) Q E s:=by
 obtain⟨⟨cls,dd,data,sl⟩,ho,hc,n,hd⟩:=id ht
 obtain⟨⟨cls2,dd2,data2,sl2⟩,ho2,hc2,n2,hd2⟩:=id hb
 simp only at hc hd hc2 hd2
 subst hc hd hc2 hd2
 have e:vs.toArray++ws.toArray=(vs++ws).toArray:=by simp
 by_cases hw:ws=[]
 .exact concat_meets ⟨_,ho,rfl⟩ ⟨_,ho2,rfl⟩ noFill_tuple_add seq_tuple_add PySem.F.slot_tuple_add PySem.F.entry_tuple_add (PySem.F.args_tuple_add_2 _ _)
   (tuple_addW1 t b vs.toArray ws.toArray n n2 dd dd2 sl sl2 (by simpa using hv) (by simp[hw])) ⟨ho,ho2,h1 hw⟩
 .refine concat_meets ⟨_,ho,rfl⟩ ⟨_,ho2,rfl⟩ noFill_tuple_add seq_tuple_add PySem.F.slot_tuple_add PySem.F.entry_tuple_add (PySem.F.args_tuple_add_2 _ _)
   (tuple_addW2 t b vs.toArray ws.toArray n n2 dd dd2 sl sl2 (by simpa using hv) (by simpa using hw) (by rw[Zd,Zd];exact hsz)) ⟨ho,ho2,?_⟩
  rw[e]
  exact h2 hw
def sIx(n d:Nat):Option Int->Nat
 |none=>d
 |some v=>if v<0 then(v+(n:Int)).toNat else min v.toNat n
theorem Vl(n d:Nat)(hd:d<=n)(o:Option Int):sIx n d o<=n:=by
 cases o with
 |none=>exact hd
 |some v=>
  show(if v<0 then(v+(n:Int)).toNat else min v.toNat n)<=n
  by_cases hv:v<0
  .rw[if_pos hv];omega
  .rw[if_neg hv];exact Nat.min_le_right _ _
theorem GD(v:Int)(n d:Nat):(if v<0 then max (v+(n:Int)) 0 else min v (n:Int))=((sIx n d (some v):Nat):Int):=by
 show(if v<0 then max (v+(n:Int)) 0 else min v (n:Int))=(((if v<0 then(v+(n:Int)).toNat else min v.toNat n):Nat):Int)
 by_cases hv:v<0
 .simp only[if_pos hv];omega
 .simp only[if_neg hv];omega
theorem Fz(lo hi:Option Int)(n:Nat):Builtin.Slice.sliceAdjust lo hi 1 (n:Int)=(((sIx n 0 lo:Nat):Int),((sIx n n hi:Nat):Int)):=by
 have h1:¬((1:Int)<0):=by omega
 unfold Builtin.Slice.sliceAdjust
 simp only[h1,if_false]
 refine Prod.ext ?_ ?_
 .cases lo with
  |none=>rfl
  |some v=>exact GD v n 0
 .cases hi with
  |none=>rfl
  |some v=>exact GD v n n
theorem Fx(i j:Nat):Builtin.Slice.slicePlaces (i:Int) (j:Int) 1=j-i:=by
 unfold Builtin.Slice.slicePlaces
 have h1:(1:Int)>0:=by omega
 simp only[h1,if_true,Int.ediv_one]
 split<;>omega
theorem xR{v:Value}{o:Option Int}{Q:Option Int->Shared->Prop}(p:IsPart v o)(h:Q o s):wpAny (model prog w) A (Builtin.Slice.slicePartIndex v) Q E s:=by
 cases p with
 |none=>exact slicePart_none h
 |int i t=>exact slicePart_int h
theorem nF{sl:Addr}{vl vu:Value}{lo hi:Option Int}{n:Nat}{Q:Int×Int×Nat->Shared->Prop}(hs:s.heap.IsSliceOf sl vl vu .none)(pl:IsPart vl lo)(pu:IsPart vu hi)
  (h:Q (((sIx n 0 lo:Nat):Int),1,sIx n n hi-sIx n 0 lo) s):wpAny (model prog w) A (Builtin.Slice.sliceApplied (.ref sl) (pure (n:Int))) Q E s:=by
 obtain⟨os,hos,hcs,hds⟩:=id hs
 unfold Builtin.Slice.sliceApplied Builtin.Slice.sliceFields
 refine wpAny_bind (wpAny_bind (wpAny_field hos hds (x:=vl) rfl (wpAny_bind (wpAny_field hos hds (x:=vu) rfl (wpAny_bind (wpAny_field hos hds (x:=.none) rfl (wpAny_pure ?_)))))))
 refine wpAny_bind (slicePart_none ?_)
 show wpAny _ _ (if((1:Int)==0)=true then _ else _) _ _ s
 rw[if_neg (by decide)]
 refine wpAny_bind (xR pl (wpAny_bind (xR pu (wpAny_bind (wpAny_pure ?_)))))
 show wpAny _ _ (match Builtin.Slice.sliceAdjust lo hi 1 (n:Int)with|(lo,hi)=>pure (lo,(1:Int),Builtin.Slice.slicePlaces lo hi 1)) _ _ s
 rw[Fz lo hi n]
 show wpAny _ _ (pure (((sIx n 0 lo:Nat):Int),(1:Int),Builtin.Slice.slicePlaces ((sIx n 0 lo:Nat):Int) ((sIx n n hi:Nat):Int) 1)) _ _ s
 rw[Fx]
 exact wpAny_pure h
theorem JQ(xs:Array Value)(i k:Nat):((List.range k).filterMap λ(m:Nat)=>xs[((i:Int)+(m:Int)*1).toNat]?).toArray=((xs.toList.drop i).take k).toArray:=by
 have e:(λ(m:Nat)=>xs[((i:Int)+(m:Int)*1).toNat]?)=λm=>xs[i+m]? :=by
  funext m
  have:((i:Int)+(m:Int)*1).toNat=i+m:=by omega
  rw[this]
 rw[e]
 have:=pick_run xs i k
 rw[List.filterMap_map]at this
 have e2:((λx=>xs[x]?)∘λx=>i+x)=λm=>xs[i+m]? :=rfl
 rw[e2]at this
 rw[this]
theorem getItem_tuple_cut{t sl:Addr}{items:Array Value}{vl vu:Value}{lo hi:Option Int}{Q:Value->Shared->Prop}(ht:IsTup s.heap t items)(hs:s.heap.IsSliceOf sl vl vu .none)(pl:IsPart vl lo)(pu:IsPart vu hi)
  (hw:¬(sIx items.size 0 lo=0/\sIx items.size items.size hi=items.size))
  (h:Q (.ref s.heap.objs.size) { s with heap:=s.heap.push { cls:=.type "tuple",data:=.seq ((items.toList.drop (sIx items.size 0 lo)).take (sIx items.size items.size hi-sIx items.size 0 lo)).toArray} })
  (hsz:items.size<=sizeLine):wpAny (model prog w) A (getItem (.ref t) (.ref sl)) Q E s:=by
 have htake:sizeOk (.seq ((items.toList.drop (sIx items.size 0 lo)).take (sIx items.size items.size hi-sIx items.size 0 lo)).toArray):=by
  show((items.toList.drop (sIx items.size 0 lo)).take (sIx items.size items.size hi-sIx items.size 0 lo)).toArray.size<=sizeLine
  rw[Zd,List.length_take,List.length_drop,Array.length_toList]
  omega
 have hj:sIx items.size items.size hi<=items.size:=Vl _ _ (Zg _) hi
 obtain⟨os,hos,hcs,hds⟩:=id hs
 have hTs:s.TypeIs (.ref sl) "slice":=⟨os,hos,hcs⟩
 unfold getItem
 try with_reducible refine wpAny_holding ?_
 first|refine wpAny_bind (wpAny_pure ?_)|skip
 refine wpAny_bind (wpAny_sequenceKey ht.typeIs (by decide) ?_)
 refine wpAny_bind (wpAny_callSpecial?_slot (name:=Str.ofString "__getitem__") ht.typeIs PyProof.Rows.slot_tuple_getitem
  (wpAny_call_entry PyProof.Rows.slot_tuple_getitem ht.typeIs entry_tuple_getitem ?_ (args_tuple_getitem _ _)))
 show wpAny _ _ (Builtin.Tuple.tupleItemsOf (.ref t) >>= _) _ _ s
 refine wpAny_bind (tupleItemsOf_ ht ?_)
 refine wpAny_bind (wpAny_typeOf hTs ?_)
 rw[if_pos (by decide)]
 refine wpAny_bind (nF hs pl pu ?_)
 have hno:¬((((sIx items.size 0 lo:Nat):Int)==0&&(1:Int)==1&&(sIx items.size items.size hi-sIx items.size 0 lo)==items.size)=true):=by
  intro q
  rw[Zo,Zo]at q
  have q1:((sIx items.size 0 lo:Nat):Int)=0:=eq_of_beq q.1.1
  have q2:sIx items.size items.size hi-sIx items.size 0 lo=items.size:=eq_of_beq q.2
  exact hw ⟨by omega,by omega⟩
 show wpAny _ _ (if(((sIx items.size 0 lo:Nat):Int)==0&&(1:Int)==1&&(sIx items.size items.size hi-sIx items.size 0 lo)==items.size)=true then _ else _) _ _ s
 rw[if_neg hno,JQ]
 first
  |exact wpAny_bind (m:=Builtin.Tuple.tupleExact _) (wpAny_newObj_type (wpAny_pure ⟨_,rfl,wpAny_pure h⟩) htake)
  |exact wpAny_bind (m:=Builtin.Tuple.tupleExact _) (wpAny_newObj_type (wpAny_bind (wpAny_pure (wpAny_pure ⟨_,rfl,wpAny_pure h⟩))) htake)
  |exact wpAny_bind (wpAny_bind (m:=Builtin.Tuple.tupleExact _) (wpAny_newObj_type (wpAny_pure (wpAny_pure ⟨_,rfl,wpAny_pure h⟩)) htake))
  |exact wpAny_bind (wpAny_bind (m:=Builtin.Tuple.tupleExact _) (wpAny_newObj_type (wpAny_pure ⟨_,rfl,wpAny_pure h⟩) htake))
end
end HT
namespace L2
open PySem PySem.Spec PyProof.Rows
abbrev TO:=St->Hp->(Option Int->Hp->Prop)->Prop
def PO(X:Cx)(e:Option Expr)(t:TO):Prop:=
 ∀(pins:List (Addr×Obj))(s:Shared)(σ:St)(H:Hp)(Q:Option Int->Hp->Prop),Inv X pins σ H s->t σ H Q->
  wpAny (model X.prog X.w) X.A (evalPart e X.env) (λu s'=>∃o H',Inv X pins σ H' s'/\IsPart u o/\Q o H') X.xe s
def Oz:TO:=λ_ H Q=>Q none H
def Wk(t:TE):TO:=λσ H Q=>t σ H λx H1=>∃i,x= .int i/\Q (some i) H1
section
variable {X:Cx} {e:Expr} {te:TE} {lo hi:Option Expr} {tl th:TO} {pos p2:Pos}
theorem Qo:PO X none Oz:=by
 intro pins s σ H Q I h
 rw[evalPart_none]
 exact wpAny_pure ⟨none,H,I,.none,h⟩
theorem Oo(h:PE X e te):PO X (some e) (Wk te):=by
 intro pins s σ H Q I hw
 rw[evalPart_some]
 refine thn (h pins s σ H _ I hw) λu s1 zq50=>?_
 obtain⟨x,H1,I1,r1,q1⟩:=zq50
 obtain⟨i,rfl,q⟩:=q1
 obtain⟨t,rfl⟩:=r1
 exact⟨some i,H1,I1,.int i t,q⟩
def SlR(X:Cx)(r:V->Option Int->Option Int->Hp->VK->Prop):Prop:=
 ∀(pins:List (Addr×Obj))(s:Shared)(σ:St)(H:Hp)(x:V)(v vl vu:Value)(lo hi:Option Int)(sl:Addr)(Q:VK),Inv X pins σ H s->RelV x v->s.heap.IsSliceOf sl vl vu .none->IsPart vl lo->IsPart vu hi->r x lo hi H Q->
  ∃T id,typeLookup (.type T) "__getitem__"=pure (some (.builtin id))/\s.TypeIs v T/\wpAny (model X.prog X.w) X.A (getItem v (.ref sl)) (EP X pins σ Q) X.xe s
theorem SlR.or{r r':V->Option Int->Option Int->Hp->VK->Prop}(h:SlR X r)(h':SlR X r'):SlR X (λx lo hi H Q=>r x lo hi H Q∨r' x lo hi H Q):=by
 intro pins s σ H x v vl vu lo hi sl Q I rx hs pl pu q
 rcases q with q|q
 .exact h pins s σ H x v vl vu lo hi sl Q I rx hs pl pu q
 .exact h' pins s σ H x v vl vu lo hi sl Q I rx hs pl pu q
def tSl(r:V->Option Int->Option Int->Hp->VK->Prop)(te:TE)(tl th:TO):TE:=λσ H Q=>te σ H λx H1=>tl σ H1 λl H2=>th σ H2 λu H3=>r x l u H3 Q
theorem Mm{r:V->Option Int->Option Int->Hp->VK->Prop}(hr:SlR X r)(he:PE X e te)(hl:PO X lo tl)(hu:PO X hi th):PE X (.Subscript e (.Slice lo hi none p2) pos) (tSl r te tl th):=by
 intro pins s σ H Q I h
 refine Subscript_ (thn (he pins s σ H _ I h) λv s1 zq51=>?_)
 obtain⟨x,H1,I1,r1,q1⟩:=zq51
 refine wpAny_Slice (thn (hl pins s1 σ H1 _ I1 q1) λvl s2 ⟨l,H2,I2,pl,q2⟩=>thn (hu pins s2 σ H2 _ I2 q2) λvu s3 zq52=>?_)
 obtain⟨u,H3,I3,pu,q3⟩:=zq52
 rw[evalPart_none]
 refine wpAny_pure ?_
 have I4:Inv X pins σ H3 { s3 with heap:=s3.heap.push { cls:=.type "slice",data:=.fields #[vl,vu,.none] } }:=I3.kept (t':=s3.toks) λb ob q=>Zb _ q
 obtain⟨T,id,hT,ht,hg⟩:=hr pins { s3 with heap:=s3.heap.push { cls:=.type "slice",data:=.fields #[vl,vu,.none] } } σ H3 x v vl vu l u s3.heap.objs.size Q I4 r1 (Heap.IsSliceOf.new ..) pl pu q3
 show wpAny (model X.prog X.w) X.A (subscriptTail e (.Slice lo hi none p2) v (.ref s3.heap.objs.size)) (EP X pins σ Q) X.xe { s3 with heap:=s3.heap.push { cls:=.type "slice",data:=.fields #[vl,vu,.none] } }
 exact tail_any (ops:=[.ref s3.heap.objs.size,v]) ht hT hg (by with_unfolding_all rfl)
def Dl(xs:List V)(lo hi:Option Int):List V:=(xs.drop (HT.sIx xs.length 0 lo)).take (HT.sIx xs.length xs.length hi-HT.sIx xs.length 0 lo)
theorem vL(xs:List V)(lo hi:Option Int):(Dl xs lo hi).length<=xs.length:=by
 unfold Dl
 rw[List.length_take,List.length_drop]
 omega
def rSlT(K:PySem.W.Frag):V->Option Int->Option Int->Hp->VK->Prop:=λx lo hi H Q=>∃a xs,x= .ref a/\SqT K H a xs/\
 ¬(HT.sIx xs.length 0 lo=0/\HT.sIx xs.length xs.length hi=xs.length)/\∀p,H p=none->Q (.ref p) (upd H p (.tup (Dl xs lo hi)))
theorem TY:SlR X (rSlT X.K):=by
 intro pins s σ H x v vl vu lo hi sl Q I rx hs pl pu h
 obtain⟨a,xs,rfl,hx,hw,q⟩:=h
 cases rx
 obtain⟨its,r,ht,hz⟩:=I.tuple hx
 have hlen:its.toArray.size=xs.length:=by rw[Zd];exact r.length.symm
 refine⟨"tuple",_,PyProof.Rows.slot_tuple_getitem.lookup,ht.typeIs,?_⟩
 refine HT.getItem_tuple_cut ht hs pl pu (by rw[hlen];exact hw) ?_ (by rw[hlen];exact hz)
 rw[hlen]
 refine⟨.ref s.heap.objs.size,_,I.laid (t':=s.toks) (o:=.tup (Dl xs lo hi)) (λb ob q=>Zb _ q) (Zg _) ?_,rfl,q _ (I.hok.fresh (Zg _))⟩
 exact⟨Zl (vL xs lo hi) hz,_,(r.drop (HT.sIx xs.length 0 lo)).take (HT.sIx xs.length xs.length hi-HT.sIx xs.length 0 lo),IsTup.new _ _⟩
def WN(K:PySem.W.Frag):R2:=λx y H Q=>∃a b xs ys,x= .ref a/\y= .ref b/\SqT K H a xs/\SqT K H b ys/\xs≠[]/\xs.length+ys.length<=sizeLine/\
 (ys=[]->Q (.ref a) H)/\(ys≠[]->∀p,H p=none->Q (.ref p) (upd H p (.tup (xs++ys))))
theorem Vals.nZ{xs:List V}{us:List Value}(r:Vals xs us):us=[]↔xs=[]:=by
 cases r with
 |nil=>simp
 |cons _ _=>simp
theorem Qw:OpR X (binaryOp .Add) (WN X.K):=by
 intro pins s σ H x y v u Q I rx ry h
 obtain⟨a,b,xs,ys,rfl,rfl,ha,hb,hx,hz,q1,q2⟩:=h
 cases rx
 cases ry
 obtain⟨its,r1,p1,_⟩:=I.tuple ha
 obtain⟨its2,r2,p2,_⟩:=I.tuple hb
 refine HT.cat_tup p1 p2 (λz=>hx (r1.nZ.mp z)) (λz=>⟨.ref a,H,I,rfl,q1 (r2.nZ.mp z)⟩) (λz=>?_) (by rw[<-r1.length,<-r2.length];exact hz)
 refine⟨.ref s.heap.objs.size,_,I.laid (t':=s.toks) (o:=.tup (xs++ys)) (λb ob q=>Zb _ q) (Zg _) ?_,rfl,q2 (λw=>z (r2.nZ.mpr w)) _ (I.hok.fresh (Zg _))⟩
 exact⟨by rw[List.length_append];exact hz,_,r1.append r2,IsTup.new _ _⟩
end
def ixN(n:Nat)(i:Int):Option Nat:=if 0<=i then(if i<n then some i.toNat else none)else if -(n:Int)<=i then some (i+n).toNat else none
def atI{α:Type}(xs:List α)(i:Int):Option α:=(ixN xs.length i).bind λj=>xs[j]?
theorem QQ{n:Nat}{i:Int}{j:Nat}(h:ixN n i=some j):seqIndex? i n=some j/\j<n/\ -(n:Int)<=i/\i<n:=by
 unfold ixN at h
 by_cases h0:0<=i
 .rw[if_pos h0]at h
  by_cases h1:i<n
  .rw[if_pos h1]at h
   have e:i.toNat=j:=Option.some.inj h
   exact⟨by rw[seqIndex_of h0 h1,e],by omega,by omega,h1⟩
  .rw[if_neg h1]at h;cases h
 .rw[if_neg h0]at h
  by_cases h1: -(n:Int)<=i
  .rw[if_pos h1]at h
   have e:(i+n).toNat=j:=Option.some.inj h
   exact⟨by rw[seqIndex_neg (by omega) h1,e],by omega,h1,by omega⟩
  .rw[if_neg h1]at h;cases h
theorem vY{α:Type}{xs:List α}{i:Int}{v:α}(h:atI xs i=some v):∃j,seqIndex? i xs.length=some j/\xs[j]? =some v/\j<xs.length/\ -(xs.length:Int)<=i/\i<xs.length:=by
 unfold atI at h
 cases e:ixN xs.length i with
 |none=>rw[e]at h;cases h
 |some j=>
  rw[e]at h
  obtain⟨h1,h2,h3,h4⟩:=QQ e
  exact⟨j,h1,h,h2,h3,h4⟩
theorem Pz{α:Type}{xs:List α}{j:Nat}{v:α}(h:xs[j]? =some v):atI xs (j:Int)=some v:=by
 have hj:j<xs.length:=(Zh.mp h).1
 have e:ixN xs.length (j:Int)=some j:=by
  unfold ixN
  rw[if_pos (by omega),if_pos (by omega)];simp
 unfold atI;rw[e];exact h
theorem xW{α:Type}(xs:List α)(v:α):atI (xs++[v]) (-1)=some v:=by
 have hl:(xs++[v]).length=xs.length+1:=by simp
 have e:ixN (xs++[v]).length (-1)=some xs.length:=by
  unfold ixN
  rw[hl,if_neg (by decide),if_pos (by omega)]
  congr 1
  omega
 unfold atI
 rw[e]
 show(xs++[v])[xs.length]? =some v
 simp
def Hk(b:Expr):Prop:=∀o i,subscripted b false o i=operate [o,i] (getItem o i)
def IxR(X:Cx)(r:R2):Prop:=
 ∀(value slice:Expr)(pins:List (Addr×Obj))(s:Shared)(σ:St)(H:Hp)(x y:V)(v u:Value)(Q:VK),Inv X pins σ H s->RelV x v->RelV y u->r x y H Q->
  subscripted slice false v u=operate [v,u] (getItem v u)->wpAny (model X.prog X.w) X.A (subscriptTail value slice v u) (EP X pins σ Q) X.xe s
def MtR(X:Cx)(id:String)(r:V->List V->Hp->VK->Prop):Prop:=
 ∀(pins:List (Addr×Obj))(s:Shared)(σ:St)(H:Hp)(x:V)(xs:List V)(v:Value)(us:List Value)(Q:VK),Inv X pins σ H s->RelV x v->Vals xs us->r x xs H Q->
  wpAny (model X.prog X.w) X.A (call (.builtin id) (v::us)) (EP X pins σ Q) X.xe s
section
variable {X:Cx} {a b:Expr} {ta tb:TE} {pos:Pos}
theorem IxR.or{r r':R2}(h:IxR X r)(h':IxR X r'):IxR X (λx y H Q=>r x y H Q∨r' x y H Q):=by
 intro value slice pins s σ H x y v u Q I rx ry q hs
 rcases q with q|q
 .exact h value slice pins s σ H x y v u Q I rx ry q hs
 .exact h' value slice pins s σ H x y v u Q I rx ry q hs
theorem WX{r:R2}(hr:IxR X r)(ha:PE X a ta)(hb:PE X b tb)(hs:Hk b):PE X (.Subscript a b pos) (tOp r ta tb):=by
 intro pins s σ H Q I h
 exact Subscript_ (Uz ha hb I h λv u s2 x y H2 I2 rx ry q=>hr a b pins s2 σ H2 x y v u Q I2 rx ry q (hs _ _))
def Xj(K:PySem.W.Frag):R2:=λx y H Q=>∃p xs i v,x= .ref p/\y= .int i/\SqL K H p xs/\atI xs i=some v/\Q v H
def WK(K:PySem.W.Frag):R2:=λx y H Q=>∃p xs i v,x= .ref p/\y= .int i/\SqT K H p xs/\atI xs i=some v/\Q v H
def Xh:R2:=λx y H Q=>∃z i c,x= .str z/\y= .int i/\z.length<=sizeLine/\atI z.cps.toList i=some c/\Q (.str ⟨#[c]⟩) H
theorem QB:IxR X (Xj X.K):=by
 intro value slice pins s σ H x y v u Q I rx ry h hs
 obtain⟨p,xs,i,z,rfl,rfl,hq,he,q⟩:=h
 cases rx
 obtain⟨t,rfl⟩:=ry
 obtain⟨its,r,pl,hz⟩:=I.list hq
 obtain⟨j,h1,h2,h3,h4,h5⟩:=vY he
 obtain⟨w,ew,rw'⟩:=r.get h2
 have hl:=r.length
 have hn:=uT
 have fin:EP X pins σ Q w s:=⟨z,H,I,rw',q⟩
 by_cases h0:0<=i
 .have hj:i.toNat=j:=by
   rw[seqIndex_of h0 h5]at h1
   exact Option.some.inj h1
  exact item_listR pl.isList h0 (by omega) (by rw[hj];simpa using ew) fin hs
 .have hj:(i+(its.toArray.size:Int)).toNat=j:=by
   rw[seqIndex_neg (by omega) h4]at h1
   rw[Zd,<-hl]
   exact Option.some.inj h1
  exact subscriptTail_builtinR (x:=w) pl.isList.typeIs slot_list_getitem.lookup
   (wpAny_getItem_list_neg (Q:=λr s'=>r=w/\EP X pins σ Q r s') pl.isList (by omega) (by rw[Zd]<;>omega) (by omega) (by rw[hj];simpa using ew) ⟨rfl,fin⟩) hs
theorem Vs:IxR X (WK X.K):=by
 intro value slice pins s σ H x y v u Q I rx ry h hs
 obtain⟨p,xs,i,z,rfl,rfl,hq,he,q⟩:=h
 cases rx
 obtain⟨t,rfl⟩:=ry
 obtain⟨its,r,pl,hz⟩:=I.tuple hq
 obtain⟨j,h1,h2,h3,h4,h5⟩:=vY he
 obtain⟨w,ew,rw'⟩:=r.get h2
 have hl:=r.length
 have hn:=uT
 have fin:EP X pins σ Q w s:=⟨z,H,I,rw',q⟩
 exact subscriptTail_builtinR (x:=w) pl.typeIs slot_tuple_getitem.lookup
  (getItem_tuple (j:=j) (Q:=λr s'=>r=w/\EP X pins σ Q r s') pl (by omega) (by omega) (by rw[Zd,<-hl];exact h1) (by simpa using ew) ⟨rfl,fin⟩) hs
theorem Wa:IxR X Xh:=by
 intro value slice pins s σ H x y v u Q I rx ry h hs
 obtain⟨z,i,c,rfl,rfl,hz,he,q⟩:=h
 obtain⟨t,rfl⟩:=rx
 obtain⟨t',rfl⟩:=ry
 obtain⟨j,h1,h2,h3,h4,h5⟩:=vY he
 have hl:z.cps.toList.length=z.length:=by simp[Str.length]
 rw[hl]at h1 h4 h5
 have hn:=uT
 exact tail_any (typeIs_str s z t) slot_str_getitem.lookup (getItem_str (c:=c) (by
  have e1:decide (i< -(2 ^ 63:Int))=false:=decide_eq_false (by omega)
  have e2:decide (i>=2 ^ 63)=false:=decide_eq_false (by omega)
  rw[e1,e2,Bool.or_false]) (by rw[h1];simpa using h2) ⟨.str ⟨#[c]⟩,H,I.tok _,⟨_,rfl⟩,q⟩) hs
def rIx(K:PySem.W.Frag):R2:=λx y H Q=>Xj K x y H Q∨WK K x y H Q∨Xh x y H Q
theorem SN:IxR X (rIx X.K):=QB.or (Vs.or Wa)
theorem Bj(lo hi:Option Int)(n:Nat):(sliceBounds lo hi none n).1=((HT.sIx n 0 lo:Nat):Int)/\(sliceBounds lo hi none n).2.1=((HT.sIx n n hi:Nat):Int)/\(sliceBounds lo hi none n).2.2=1:=by
 refine⟨?_,?_,rfl⟩
 .cases lo with
  |none=>simp[sliceBounds,HT.sIx]
  |some i=>
   simp only[sliceBounds,HT.sIx,Option.getD_none,show(1:Int)>0 by decide,if_true]
   by_cases h:i<0
   .simp only[h,if_true]<;>omega
   .simp only[h,if_false]<;>omega
 .cases hi with
  |none=>simp[sliceBounds,HT.sIx]
  |some i=>
   simp only[sliceBounds,HT.sIx,Option.getD_none,show(1:Int)>0 by decide,if_true]
   by_cases h:i<0
   .simp only[h,if_true]<;>omega
   .simp only[h,if_false]<;>omega
theorem yU(its:List Value)(lo hi:Option Int):slicePick its.toArray lo hi none=((its.drop (HT.sIx its.length 0 lo)).take (HT.sIx its.length its.length hi-HT.sIx its.length 0 lo)).toArray:=by
 obtain⟨h1,h2,h3⟩:=Bj lo hi its.toArray.size
 unfold slicePick
 rw[h1,h2,h3]
 simp only[sliceRange_one,pick_run,Zd]<;>rfl
def rSlL(K:PySem.W.Frag):V->Option Int->Option Int->Hp->VK->Prop:=λx lo hi H Q=>∃a xs,x= .ref a/\SqL K H a xs/\∀p,H p=none->Q (.ref p) (upd H p (.lst (Dl xs lo hi)))
theorem Qy:SlR X (rSlL X.K):=by
 intro pins s σ H x v vl vu lo hi sl Q I rx hs pl pu h
 obtain⟨a,xs,rfl,hx,q⟩:=h
 cases rx
 obtain⟨its,r,ht,hz⟩:=I.list hx
 have hlen:=r.length
 refine⟨"list",_,slot_list_getitem.lookup,ht.isList.typeIs,?_⟩
 refine wpAny_getItem_list_slice ht.isList hs pl pu .none (by simp) ?_ (by rw[Zd]<;>omega)
 rw[yU,<-hlen]
 refine⟨.ref s.heap.objs.size,_,I.laid (t':=s.toks) (o:=.lst (Dl xs lo hi)) (λb ob q=>Zb _ q) (Zg _) ?_,rfl,q _ (I.hok.fresh (Zg _))⟩
 exact⟨Zl (vL xs lo hi) hz,_,0,(r.drop (HT.sIx xs.length 0 lo)).take (HT.sIx xs.length xs.length hi-HT.sIx xs.length 0 lo),Zf _ rfl⟩
def rO:V->Bool
 | .non=>true
 | .bl _=>true
 | .int _=>true
 | .str _=>true
 |_=>false
def eqV:V->V->Bool
 | .non,.non=>true
 | .bl a,.bl b=>a==b
 | .bl a,.int b=>(if a then 1 else 0)==b
 | .int a,.bl b=>a==(if b then 1 else 0)
 | .int a,.int b=>a==b
 | .str a,.str b=>a==b
 |_,_=>false
theorem UT{A:Around}{s:Shared}{y x:V}{u v:Value}(ry:RelV y u)(rx:RelV x v)(fy:rO y=true)(fx:rO x=true):SeqAt.EqAt A s u v (eqV y x):=by
 cases y with
 |non=>
  cases ry
  cases x with
  |non=>cases rx;exact SeqAt.EqAt.same _
  |bl b=>cases rx;exact SeqAt.EqAt.none_bool b
  |int b=>obtain⟨t,rfl⟩:=rx;exact SeqAt.EqAt.none_int b t
  |str b=>obtain⟨t,rfl⟩:=rx;exact SeqAt.EqAt.none_str b t
  |_=>exact absurd (show false=true from fx) Zr
 |bl a=>
  cases ry
  cases x with
  |non=>cases rx;exact SeqAt.EqAt.bool_none a
  |bl b=>cases rx;exact SeqAt.EqAt.bool_bool a b
  |int b=>obtain⟨t,rfl⟩:=rx;exact SeqAt.EqAt.bool_int a b t
  |str b=>obtain⟨t,rfl⟩:=rx;exact SeqAt.EqAt.bool_str a b t
  |_=>exact absurd (show false=true from fx) Zr
 |int a=>
  obtain⟨t',rfl⟩:=ry
  cases x with
  |non=>cases rx;exact SeqAt.EqAt.int_none a t'
  |bl b=>cases rx;exact SeqAt.EqAt.int_bool a t' b
  |int b=>obtain⟨t,rfl⟩:=rx;exact SeqAt.EqAt.int_int a t' b t
  |str b=>obtain⟨t,rfl⟩:=rx;exact SeqAt.EqAt.int_str a t' b t
  |_=>exact absurd (show false=true from fx) Zr
 |str a=>
  obtain⟨t',rfl⟩:=ry
  cases x with
  |non=>cases rx;exact SeqAt.EqAt.str_none a t'
  |bl b=>cases rx;exact SeqAt.EqAt.str_bool a t' b
  |int b=>obtain⟨t,rfl⟩:=rx;exact SeqAt.EqAt.str_int a t' b t
  |str b=>obtain⟨t,rfl⟩:=rx;exact SeqAt.EqAt.str_str a t' b t
  |_=>exact absurd (show false=true from fx) Zr
 |_=>exact absurd (show false=true from fy) Zr
def eqU(x:V)(u:Value):Bool:=match u with
 | .none=>eqV .non x
 | .bool b=>eqV (.bl b) x
 | .int i _=>eqV (.int i) x
 | .str z _=>eqV (.str z) x
 |_=>false
theorem Jw{x y:V}{u:Value}(r:RelV y u)(f:rO y=true):eqU x u=eqV y x:=by
 cases y with
 |non=>cases r;rfl
 |bl b=>cases r;rfl
 |int i=>obtain⟨t,rfl⟩:=r;rfl
 |str z=>obtain⟨t,rfl⟩:=r;rfl
 |_=>exact absurd (show false=true from f) Zr
theorem um{x:V}:∀{xs:List V}{us:List Value},Vals xs us->xs.all rO=true->us.any (eqU x)=xs.any λy=>eqV y x
 |_,_,.nil,_=>rfl
 |y::xs,u::us,.cons r t,f=>by
  rw[List.all_cons,Zo]at f
  rw[List.any_cons,List.any_cons,Jw r f.1,um t f.2]
theorem pM{A:Around}{s:Shared}{x:V}{v:Value}(rx:RelV x v)(fx:rO x=true):∀{xs:List V}{us:List Value},Vals xs us->xs.all rO=true->∀u∈us,SeqAt.EqAt A s u v (eqU x u)
 |_,_,.nil,_=>λu hu=>by cases hu
 |y::xs,u::us,.cons r t,f=>λu' hu=>by
  rw[List.all_cons,Zo]at f
  rcases Zi.mp hu with rfl|hu
  .rw[Jw r f.1];exact UT r rx f.1 fx
  .exact pM rx fx t f.2 u' hu
def inV(x:V)(xs:List V):Bool:=xs.any λy=>eqV y x
def rIn(K:PySem.W.Frag)(neg:Bool):R2:=λx y H Q=>∃p xs,y= .ref p/\(SqL K H p xs∨SqT K H p xs)/\rO x=true/\xs.all rO=true/\Q (.bl (if neg then !inV x xs else inV x xs)) H
theorem IW:OpR X (compareOp .In) (rIn X.K false):=by
 intro pins s σ H x y v u Q I rx ry h
 obtain⟨p,xs,rfl,hq,fx,fs,q⟩:=h
 cases ry
 rcases hq with hq|hq
 .obtain⟨its,r,pl,hz⟩:=I.list hq
  refine SeqAt.in_listAt (eqU x) pl.isList (λw hw=>pM rx fx r fs w (by simpa using hw)) ⟨.bl _,H,I,rfl,?_⟩
  rw[show its.toArray.any (eqU x)=its.any (eqU x) by simp,um r fs]
  exact q
 .obtain⟨its,r,pl,hz⟩:=I.tuple hq
  refine SeqAt.in_tupleAt (eqU x) pl (λw hw=>pM rx fx r fs w (by simpa using hw)) ⟨.bl _,H,I,rfl,?_⟩
  rw[show its.toArray.any (eqU x)=its.any (eqU x) by simp,um r fs]
  exact q
theorem Bv:OpR X (compareOp .NotIn) (rIn X.K true):=by
 intro pins s σ H x y v u Q I rx ry h
 obtain⟨p,xs,rfl,hq,fx,fs,q⟩:=h
 cases ry
 rcases hq with hq|hq
 .obtain⟨its,r,pl,hz⟩:=I.list hq
  refine SeqAt.notIn_listAt (eqU x) pl.isList (λw hw=>pM rx fx r fs w (by simpa using hw)) ⟨.bl _,H,I,rfl,?_⟩
  rw[show its.toArray.any (eqU x)=its.any (eqU x) by simp,um r fs]
  exact q
 .obtain⟨its,r,pl,hz⟩:=I.tuple hq
  refine SeqAt.notIn_tupleAt (eqU x) pl (λw hw=>pM rx fx r fs w (by simpa using hw)) ⟨.bl _,H,I,rfl,?_⟩
  rw[show its.toArray.any (eqU x)=its.any (eqU x) by simp,um r fs]
  exact q
theorem Bh:mH X (.builtin "len") (λxs H Q=>∃p ys,xs=[.ref p]/\(SqL X.K H p ys∨SqT X.K H p ys)/\Q (.int ys.length) H):=by
 intro pins s σ H xs us Q I r h
 obtain⟨p,ys,rfl,hq,q⟩:=h
 obtain⟨u,rfl,rx⟩:=vals1 r
 cases rx
 have hn:=uT
 rcases hq with hq|hq
 .obtain⟨its,r',pl,hz⟩:=I.list hq
  have hlen:=r'.length
  exact Calls.call_len_list pl.isList (by simp only[Zd]<;>omega) ⟨.int ys.length,H,I.tok _,⟨s.toks+1,by rw[Zd,hlen]⟩,q⟩
 .obtain⟨its,r',pl,hz⟩:=I.tuple hq
  have hlen:=r'.length
  exact len_tuple pl (by simp only[Zd]<;>omega) ⟨.int ys.length,H,I.tok _,⟨s.toks+1,by rw[Zd,hlen]⟩,q⟩
theorem BJ:mH X (.builtin "len") (λxs H Q=>∃z,xs=[.str z]/\z.length<=sizeLine/\Q (.int z.length) H):=by
 intro pins s σ H xs us Q I r h
 obtain⟨z,rfl,hz,q⟩:=h
 obtain⟨u,rfl,t,rfl⟩:=vals1 r
 have hn:=uT
 exact len_str (by omega) ⟨.int z.length,H,I.tok _,⟨_,rfl⟩,q⟩
theorem mH.or{f:Value}{r r':List V->Hp->VK->Prop}(h:mH X f r)(h':mH X f r'):mH X f (λxs H Q=>r xs H Q∨r' xs H Q):=by
 intro pins s σ H xs us Q I rs q
 rcases q with q|q
 .exact h pins s σ H xs us Q I rs q
 .exact h' pins s σ H xs us Q I rs q
theorem yJ:mH X (.type "tuple") (λxs H Q=>∃p ys,xs=[.ref p]/\((SqL X.K H p ys/\∀l,H l=none->Q (.ref l) (upd H l (.tup ys)))∨(SqT X.K H p ys/\Q (.ref p) H))):=by
 intro pins s σ H xs us Q I r h
 obtain⟨p,ys,rfl,h⟩:=h
 obtain⟨u,rfl,rx⟩:=vals1 r
 cases rx
 rcases h with⟨hq,q⟩|⟨hq,q⟩
 .obtain⟨its,r',pl,hz⟩:=I.list hq
  have hlen:=r'.length
  refine call_tuple_list pl.isList (λh' kp=>?_) (by simp only[Zd]<;>omega)
  have I1:Inv X pins σ H { s with heap:=h'}:=I.kept (t':=s.toks) kp
  have I2:Inv X pins σ (upd H h'.objs.size (.tup ys)) { s with heap:=h'.push { cls:=.type "tuple",data:=.seq its.toArray} }:=
   I1.laid (t':=s.toks) (λb o e=>Zb _ e) (Zg _) (show jB X.prog X.w _ _ _ (.tup ys)from⟨hz,its,r',IsTup.new _ _⟩)
  exact⟨.ref h'.objs.size,_,I2,rfl,q _ (I1.hok.fresh (Zg _))⟩
 .obtain⟨its,r',pl,hz⟩:=I.tuple hq
  exact call_tuple_same pl ⟨.ref p,H,I,rfl,q⟩
def tyV(K:PySem.W.Frag)(T:String)(x:V)(H:Hp):Prop:=match x with
 | .str _=>T="str"
 | .int _=>T="int"
 | .ref p=>(T="list"/\∃xs,SqL K H p xs)∨(T="tuple"/\∃o,K.lookup p=some o/\o.cls= .type "tuple"/\o.dict=none)∨
   (T="dict"/\((∃kvs,H p=some (.dK kvs))∨∃kvs,H p=some (.dT kvs)))∨(T="set"/\∃S n,H p=some (.set S n))
 |_=>False
theorem VD{pins:List (Addr×Obj)}{σ:St}{H:Hp}{s:Shared}{T:String}{x:V}{v:Value}(I:Inv X pins σ H s)(r:RelV x v)(ty:tyV X.K T x H):
  s.TypeIs v T/\∀a,v= .ref a->∃ob,s.heap.get? a=some ob/\ob.dict=none:=by
 cases x with
 |str z=>
  obtain⟨t,rfl⟩:=r
  cases (show T="str" from ty)
  exact⟨typeIs_str s z t,λ_ e=>nomatch e⟩
 |int i=>
  obtain⟨t,rfl⟩:=r
  cases (show T="int" from ty)
  exact⟨typeIs_int s i t,λ_ e=>nomatch e⟩
 |ref p=>
  cases r
  rcases ty with⟨rfl,xs,hq⟩|⟨rfl,o,hk,hc,hd⟩|⟨rfl,hk⟩|⟨rfl,S,n,hk⟩
  .obtain⟨its,_,pl,_⟩:=I.list hq
   refine⟨pl.isList.typeIs,λa e=>?_⟩
   cases e
   obtain⟨o,n,e,c,hd,_⟩:=pl
   exact⟨o,e,hd⟩
  .refine⟨⟨o,I.kIn p o hk,hc⟩,λa e=>?_⟩
   cases e
   exact⟨o,I.kIn _ o hk,hd⟩
  .have z:∃o,s.heap.get? p=some o/\o.ExactDict:=by
    rcases hk with⟨kvs,hk⟩|⟨kvs,hk⟩
    .obtain⟨_,_,_,_,o,_,_,e,ex,_⟩:=I.hok p _ hk
     exact⟨o,e,ex⟩
    .obtain⟨_,_,_,_,o,_,_,e,ex,_⟩:=I.hok p _ hk
     exact⟨o,e,ex⟩
   obtain⟨o,e,ex⟩:=z
   refine⟨⟨o,e,ex.1⟩,λa e2=>?_⟩
   cases e2
   exact⟨o,e,ex.2.1⟩
  .obtain⟨o,_,_,_,e,ex,_⟩:=I.hok p _ hk
   refine⟨⟨o,e,ex.1⟩,λa e2=>?_⟩
   cases e2
   exact⟨o,e,ex.2.1⟩
 |_=>exact False.elim ty
def tBM(K:PySem.W.Frag)(T:String)(r:V->List V->Hp->VK->Prop)(to:TE)(t:TA):TE:=λσ H Q=>to σ H λx H1=>tyV K T x H1/\t σ H1 λxs H2=>r x xs H2 Q
variable {o e:Expr} {es:List Expr} {to:TE} {t:TA} {name:Str} {apos cpos:Pos} {T id:String} {r:V->List V->Hp->VK->Prop}
theorem Lb(pa:PlainAttrs T)(slot:Slot T name id)(hty:typeOf (.builtin id)=pure (.type "method_descriptor"))(hm:MtR X id r)(ho:PE X o to)(ha:PA X (e::es) t)
  (hbase:attributeBase o name X.env (eval o X.env)=eval o X.env:=by rfl)
  (hfew:((backTo cpos (starEach (e::es) X.env)).all (λx=>!x.1)&&(backToKw cpos (keywordEach [] X.env)).all (λx=>x.1.isSome)
   &&decide ((e::es).length+([]:List Keyword).length+(if([]:List Keyword).isEmpty then 0 else 1)<30))=true:=by rfl)
  (hline:(apos.endLine==cpos.line)=true:=by rfl) (hs:starEach (e::es) X.env=(false,eval e X.env)::starEach es X.env:=by rfl) (hplain:(backTo cpos (starEach es X.env)).any (·.1)=false:=by rfl):
  PE X (.Call (.Attribute o name apos) (e::es) [] cpos) (tBM X.K T r to t):=by
 intro pins s σ H Q I h
 refine wpAny_Call_method_late hbase hfew hline rfl (thn (ho pins s σ H _ I h) λv s1 zq54=>?_)
 obtain⟨x,H1,I1,r1,ty,q1⟩:=zq54
 obtain⟨h1,h2⟩:=VD I1 r1 ty
 refine⟨T,id,pa,slot,hty,h1,h2,?_⟩
 have hA:=ha cpos pins s1 σ H1 _ I1 q1
 rw[hs]at hA ⊢
 refine Calls.callWith_builtin (by show(false||(backTo cpos (starEach es X.env)).any (·.1))=false;rw[hplain]<;>rfl) (Calls.evalArgs_plain ?_)
 exact thn hA λus s2 ⟨vs,H2,I2,r2,q2⟩=>hm pins s2 σ H2 x vs v us Q I2 r1 r2 q2
end
def MtM(X:Cx)(id:String)(r:V->List V->Hp->VK->Prop):Prop:=
 ∀(pins:List (Addr×Obj))(s:Shared)(σ:St)(H:Hp)(x:V)(xs:List V)(v:Value)(us:List Value)(Q:VK),Inv X pins σ H s->RelV x v->Vals xs us->r x xs H Q->
  wpAny (model X.prog X.w) X.A (call (.builtin id) (v::us)) (EP X pins σ Q) X.xe s
theorem Vals.one:∀{x:V}{us:List Value},Vals [x] us->∃u,us=[u]/\RelV x u
 |_,_,.cons r .nil=>⟨_,rfl,r⟩
theorem Vals.eraseIdx:∀{xs:List V}{us:List Value}(i:Nat),Vals xs us->Vals (xs.eraseIdx i) (us.eraseIdx i)
 |_,_,_,.nil=>.nil
 |_,_,0,.cons _ t=>t
 |_,_,i+1,.cons r t=>.cons r (Vals.eraseIdx i t)
theorem Vals.rep{xs:List V}{us:List Value}(h:Vals xs us):∀k:Nat,Vals (List.replicate k xs).flatten (List.replicate k us).flatten
 |0=>.nil
 |k+1=>by
  rw[List.replicate_succ,List.replicate_succ,List.flatten_cons,List.flatten_cons]
  exact Vals.append h (Vals.rep h k)
theorem zy{α:Type}:∀(l:List α)(i:Nat),(l.eraseIdx i).length<=l.length
 | [],_=>Zg _
 |_::_,0=>Nat.le_succ _
 |_::r,i+1=>Nat.succ_le_succ (zy r i)
theorem foldl_rep(its:List Value):∀(k:Nat)(acc:List Value),
  List.foldl (λx1 x2=>x1++x2) acc.toArray (List.replicate k its.toArray)=(acc++(List.replicate k its).flatten).toArray
 |0,acc=>by simp
 |k+1,acc=>by
  have e:acc.toArray++its.toArray=(acc++its).toArray:=by simp
  have e2:(acc++its)++(List.replicate k its).flatten=acc++(List.replicate (k+1) its).flatten:=by
   rw[List.replicate_succ,List.flatten_cons,List.append_assoc]
  rw[<-e2,<-foldl_rep its k (acc++its),<-e,List.replicate_succ,List.foldl_cons]
section
variable {X:Cx} {pins:List (Addr×Obj)} {σ:St} {H:Hp} {s:Shared} {l b:Addr} {xs ys zs:List V}
theorem Inv.lset{its its':List Value}{n:Nat}{f:Array Value->Array Value}{t':Nat}(I:Inv X pins σ H s)(hH:H l=some (.lst xs))
  (e:s.heap.get? l=some { cls:=.type "list",data:=.seq its.toArray n}) (hf:f its.toArray=its'.toArray) (hv:Vals ys its') (hz:ys.length<=sizeLine):
  Inv X pins σ (upd H l (.lst ys)) { s with heap:=s.heap.update l (Obj.mapSeq f),toks:=t'}:=by
 have q:=PySem.IsL.update e f
 rw[hf]at q
 refine I.write (x:=l) (e:=l) (by rw[hH];exact trivial) (.inl rfl) (λb' u hb hu=>(Heap.get?_update_other s.heap (Obj.mapSeq f) (Ne.symm hb)).trans hu) ⟨_,q⟩ ?_
 exact⟨hz,its',_,hv,q⟩
theorem Inv.lnew{its:List Value}{t':Nat}(I:Inv X pins σ H s)(hv:Vals ys its)(hz:ys.length<=sizeLine):
  Inv X pins σ (upd H s.heap.objs.size (.lst ys)) { s with heap:=s.heap.push { cls:=.type "list",data:=.seq its.toArray},toks:=t'}:=
 I.laid (λ_ _ q=>Zb _ q) (Zg _) ⟨hz,its,0,hv,Zf _ rfl⟩
theorem Inv.fresh(I:Inv X pins σ H s):H s.heap.objs.size=none:=I.hok.fresh (Zg _)
theorem Inv.lstM(I:Inv X pins σ H s)(hH:H l=some (.lst xs)):xs.length<=sizeLine/\∃(its:List Value)(n:Nat),Vals xs its/\xs.length=its.length/\s.heap.get? l=some { cls:=.type "list",data:=.seq its.toArray n}:=by
 obtain⟨z,its,n,r,e⟩:=I.hok l _ hH
 exact⟨z,its,n,r,r.length,e⟩
theorem DW{n:Nat}(h:n<=sizeLine):Builtin.List.listTooLong n=false:=by
 unfold Builtin.List.listTooLong
 exact decide_eq_false (by omega)
end
section
variable {X:Cx}
def QG:V->List V->Hp->VK->Prop:=λx vs H Q=>∃l xs y,x= .ref l/\vs=[y]/\H l=some (.lst xs)/\xs.length<sizeLine/\Q .non (upd H l (.lst (xs++[y])))
theorem Ig:MtM X "list.append" QG:=by
 intro pins s σ H x vs v us Q I rx rv h
 obtain⟨l,xs,y,rfl,rfl,hH,hz,q⟩:=h
 cases rx
 obtain⟨u,rfl,ru⟩:=rv.one
 obtain⟨z,its,n,r,hl,e⟩:=I.lstM hH
 refine call_meets F.slot_list_append ⟨_,e,rfl⟩ F.entry_list_append (F.args_list_append_2 _ _) (PySem.list_append l its.toArray n u (by rw[Zd];omega)) ⟨e,?_⟩
 refine⟨.non,_,I.lset (its':=its++[u]) hH e (by simp) (r.append (.cons ru .nil)) ?_,rfl,q⟩
 rw[List.length_append,List.length_singleton]
 omega
def Pn:V->List V->Hp->VK->Prop:=λx vs H Q=>∃l b xs zs,x= .ref l/\vs=[.ref b]/\H l=some (.lst xs)/\H b=some (.lst zs)/\xs.length+zs.length<=sizeLine/\Q .non (upd H l (.lst (xs++zs)))
theorem Jd:MtM X "list.extend" Pn:=by
 intro pins s σ H x vs v us Q I rx rv h
 obtain⟨l,b,xs,zs,rfl,rfl,hH,hB,hz,q⟩:=h
 cases rx
 obtain⟨u,rfl,ru⟩:=rv.one
 cases ru
 obtain⟨z,its,n,r,hl,e⟩:=I.lstM hH
 obtain⟨z2,its2,n2,r2,hl2,e2⟩:=I.lstM hB
 have hsz:its.toArray.size+its2.toArray.size<=sizeLine:=by rw[Zd,Zd];omega
 have hlong:¬(!its.toArray.isEmpty&&Builtin.List.listTooLong (its.toArray.size+its2.toArray.size))=true:=by
  rw[DW hsz,Bool.and_false]
  exact Zr
 refine call_meets F.slot_list_extend ⟨_,e,rfl⟩ F.entry_list_extend (F.args_list_extend_2 _ _)
  (AutoSeq1.list_extend_list_list_0 l its.toArray n b its2.toArray n2 hlong (by rw[Zd];omega) (by omega)) ⟨e,e2,?_⟩
 refine⟨.non,_,I.lset (its':=its++its2) hH e (by simp) (r.append r2) ?_,rfl,q⟩
 rw[List.length_append]
 omega
def Tt:V->List V->Hp->VK->Prop:=λx vs H Q=>∃l xs i k y,x= .ref l/\vs=[.int i]/\H l=some (.lst xs)/\ -(2 ^ 63)<=i/\i<2 ^ 63/\seqIndex? i xs.length=some k/\xs[k]? =some y/\Q y (upd H l (.lst (xs.eraseIdx k)))
theorem Nr:MtM X "list.pop" Tt:=by
 intro pins s σ H x vs v us Q I rx rv h
 obtain⟨l,xs,i,k,y,rfl,rfl,hH,h1,h2,hk,hy,q⟩:=h
 cases rx
 obtain⟨u,rfl,ru⟩:=rv.one
 obtain⟨t,rfl⟩:=ru
 obtain⟨z,its,n,r,hl,e⟩:=I.lstM hH
 obtain⟨w,hw,rw'⟩:=r.get hy
 refine call_meets F.slot_list_pop ⟨_,e,rfl⟩ F.entry_list_pop (F.args_list_pop_2 _ _)
  (MeetsSeq.list_pop_at l its.toArray n i t k w (fitsIndex_both h1 h2) (by rw[Zd,<-hl];exact hk) (by rw[<-Array.getElem?_toList];exact hw) (by rw[Zd];omega)) ⟨e,?_⟩
 refine⟨y,_,I.lset (its':=its.eraseIdx k) hH e ?_ (r.eraseIdx k) ?_,rw',q⟩
 .show its.toArray.eraseIdxIfInBounds k=(its.eraseIdx k).toArray
  rw[List.eraseIdxIfInBounds_toArray]
 .have:=zy xs k
  omega
def rCat:R2:=λx y H Q=>∃l b xs zs,x= .ref l/\y= .ref b/\H l=some (.lst xs)/\H b=some (.lst zs)/\xs.length+zs.length<=sizeLine/\∀p,H p=none->Q (.ref p) (upd H p (.lst (xs++zs)))
theorem Nf:OpR X (binaryOp .Add) rCat:=by
 intro pins s σ H x y v u Q I rx ry h
 obtain⟨l,b,xs,zs,rfl,rfl,hH,hB,hz,q⟩:=h
 cases rx
 cases ry
 obtain⟨z,its,n,r,hl,e⟩:=I.lstM hH
 obtain⟨z2,its2,n2,r2,hl2,e2⟩:=I.lstM hB
 refine PySem.P.add_list e e2 ?_ (by rw[Zd,Zd];omega)
 have ea:its.toArray++its2.toArray=(its++its2).toArray:=by simp
 rw[ea]
 exact⟨.ref _,_,I.lnew (t':=s.toks) (r.append r2) (by rw[List.length_append];omega),rfl,q _ I.fresh⟩
def rRep:R2:=λx y H Q=>∃l k xs,x= .ref l/\y= .int k/\H l=some (.lst xs)/\ -(2 ^ 63)<=k/\k<2 ^ 63/\xs.length*k.toNat<=sizeLine/\
 ∀p,H p=none->Q (.ref p) (upd H p (.lst (List.replicate k.toNat xs).flatten))
theorem len_rep{α:Type}(xs:List α)(k:Nat):(List.replicate k xs).flatten.length=k*xs.length:=by
 induction k with
 |zero=>simp
 |succ k ih=>rw[List.replicate_succ,List.flatten_cons,List.length_append,ih,Nat.succ_mul,Nat.add_comm]
theorem Up:OpR X (binaryOp .Mult) rRep:=by
 intro pins s σ H x y v u Q I rx ry h
 obtain⟨l,k,xs,rfl,rfl,hH,h1,h2,hz,q⟩:=h
 cases rx
 obtain⟨t,rfl⟩:=ry
 obtain⟨z,its,n,r,hl,e⟩:=I.lstM hH
 have hlen:its.toArray.size*k.toNat<=sizeLine:=by rw[Zd,<-hl];exact hz
 have hcap:¬its.toArray.size*k.toNat>(2 ^ 63-1) / 8:=by
  have:(sizeLine:Nat)<=(2 ^ 63-1) / 8:=by decide
  omega
 have hfit:¬(!Builtin.List.listFitsIndex k)=true:=by
  rw[fitsIndex_both h1 h2]
  exact Zr
 have hlong:¬Builtin.List.listTooLong (its.toArray.size*k.toNat)=true:=by
  rw[DW hlen]
  exact Zr
 have hnew:List.foldl (λx1 x2=>x1++x2) #[] (List.replicate (if its.toArray.isEmpty=true then 0 else k.toNat) its.toArray)=(List.replicate k.toNat its).flatten.toArray:=by
  have f0:∀m:Nat,List.foldl (λx1 x2=>x1++x2) #[] (List.replicate m its.toArray)=(List.replicate m its).flatten.toArray:=λm=>by
   have:=foldl_rep its m []
   rw[List.nil_append]at this
   exact this
  rw[f0]
  cases its with
  |nil=>simp
  |cons a r'=>rw[if_neg (by simp)]
 refine wpAny_binaryOp_repeat_ref (T:="list") (U:="int") (by decide) ⟨_,e,rfl⟩ (λs'=>typeIs_int s' k t) noFill_list_mul F.fills_int_mul F.slot_int_rmul repeat_list F.slot_int_index.lookup
  (call_meets F.slot_int_rmul (typeIs_int s k t) F.entry_int_rmul (F.args_int_rmul_2 _ _) (int___rmul___int_list k t l its.toArray n)
   ⟨e,rfl,⟨_,e,rfl⟩,call_meets F.slot_list_mul ⟨_,e,rfl⟩ F.entry_list_mul (F.args_list_mul_2 _ _) (AutoListH.list___mul___list_int_3 l its.toArray n k t hfit hcap hlong) ⟨e,?_⟩⟩)
 rw[hnew]
 exact⟨.ref _,_,I.lnew (t':=s.toks) (r.rep k.toNat) (by rw[len_rep,Nat.mul_comm];exact hz),rfl,q _ I.fresh⟩
end
end L2
namespace Att
open PySem PySem.W PySem.Calls PyProof.Rows
theorem vW{P:Params}{h:Heap}:∀(ns:List Int)(vs:List Value),WellAll P h vs (ns.map WData.int)->IntsAre vs ns:=by
 intro ns
 induction ns with
 |nil=>
  intro vs w
  rw[List.map_nil]at w
  cases w
  exact .nil
 |cons n ns ih=>
  intro vs w
  rw[Zj]at w
  cases w with
  |cons a b=>
   cases a
   exact .cons _ _ (ih _ b)
theorem Iu{l:OpenLaw}{n:Nat}(hn:l.most=some n){P:Params}{h:Heap}{args:List WData}{vals:List Value}
  (hpre:l.row.toRowW.claim.pre args=true) (hwl:WellAll P h vals args):
  ∃a vs ns,vals=[Value.ref a]/\args=[WData.list (ns.map WData.int)]/\h.get? a=some { cls:=.type "list",data:=.seq vs.toArray}/\IntsAre vs ns/\ns.length<=n:=by
 have hsh:WShape.hasAll [] args [.list .int]=true:=(pre_splitW hpre).1
 have hc:l.pre.holds [] { args:=args}=true:=(pre_splitW hpre).2
 obtain⟨d,r,rfl,h1,h2⟩:=hasAllW_cons hsh
 obtain rfl:=hasAllW_nil h2
 obtain⟨xs,rfl,h3⟩:=hasW_list h1
 obtain⟨ns,rfl⟩:=items_int h3
 have hlen:ns.length<=n:=by
  unfold OpenLaw.pre at hc
  have h4:(WTm.not (.lt (.lit (.int (n:Int))) (.len (.arg 0)))).holds [] { args:=[.list (ns.map .int)] }=true:=by
   have h4:=(holds_andW hc).1
   rw[hn]at h4
   exact h4
  have h5:=condW_of h4 (w_not (w_lt w_lit (w_len_list (w_arg rfl))))
  rw[Zu]at h5
  refine Nat.le_of_not_lt λq=>?_
  have q':(n:Int)<((ns.length:Nat):Int):=by omega
  first
   |(rw[decide_eq_true q']at h5;exact absurd h5 (by decide))
   |(simp at h5;omega)
 cases hwl with
 |cons w1 w2=>
  cases w2
  cases w1 with
  |list ho hall=>exact⟨_,_,ns,rfl,rfl,ho,vW ns _ hall,hlen⟩
theorem Je(l:OpenLaw)(args:List WData):l.row.toRowW.claim.post args (.bool true) args=true:=
 postW_of (r:=l.row.toRowW) (X:=(true==true))
  (show WShape.has [] (.bool true) .bool=true by first|rfl|decide|simp[WShape.has,WShape.arms,WShape.armsAll])
  (show(WTm.eq .res (.lit (.bool true))).value [] { args:=args,res:=some (.bool true),after:=args}=some (.bool (true==true))from w_eq_bool (w_res rfl) w_lit) rfl
theorem attach_call{l:OpenLaw}{n:Nat}{q:Program}{loose:List Str}{XP:(Str->Option Value)->Heap->Prop}{YP:World->Heap->Prop}{d:DefRec}
  (hn:l.most=some n) (hdf:d.params.defaults=[])
  (call:∀(w:World)(s₀ s₁:Shared)(mg mb:Str->Option Value)(fa:Addr)(o:Obj)(pm cd doc:Value)(a:Addr)(vs:List Value)(ns:List Int),
   Ground q loose [] XP w s₀ mg mb s₁.heap->YP w s₁.heap->
   s₁.heap.get? fa=some o->o.data= .func (docDef d.name d.params d.body d.scope pm cd doc)->s₁.heap.CodeRec cd d.name->mg d.name=some (.ref fa)->
   s₁.heap.get? a=some { cls:=.type "list",data:=.seq vs.toArray}->IntsAre vs ns->ns.length<=n->s₁.gens= #[]->
   codeAny (model l.prog w) callerA (.call (.ref fa) ⟨[.ref a],[]⟩) (λr s'=>r= .ok (.ret (.bool true))/\OldK s₁.heap s'.heap/\s'.os=s₁.os/\AllBare s'.gens) s₁):
  WalkO q loose XP YP l.row.toRowW d [] (λf vs=>PySem.call f vs):=by
 intro w s₀ s₁ mg mb G Y fa o pm cd doc dV kV ho hd hcd hD hmg hg args vals as hpre hlay hrd hwl hlo
 obtain rfl:dV= .none:=Dflts.none hD hdf
 obtain rfl:kV= .none:=Dflts.noKw hD
 obtain⟨a,vs,ns,rfl,rfl,hobj,hints,hlen⟩:=Iu hn hpre hwl
 refine enter_call (codeAny_mono (call w s₀ s₁ mg mb fa o pm cd doc a vs ns G Y ho (fd_plain hd) hcd hmg hobj hints hlen hg) λr s' hq=>?_)
 obtain⟨rfl,h2,h3,h4⟩:=hq
 exact⟨.inl ⟨.bool true,.bool true,[],rfl,λ_=>rfl,.bool true,Je l _,λ_=>⟨List.Pairwise.nil,λ_ hm=>(nomatch hm)⟩⟩,h2,h3,h4⟩
end Att
namespace L2
open PySem PySem.Spec PyProof.Rows
theorem uY:∀{vs:List Value}{ns:List Int},IntsAre vs ns->Vals (ns.map V.int) vs
 |_,_,.nil=>.nil
 |_,_,.cons n t h=>.cons ⟨t,rfl⟩ (uY h)
def oH(s:Stmt):Arguments:=match s with
 | .FunctionDef _ a _ _ _ _ _ _ _ _=>a
 |_=>{ posonlyargs:=[],args:=[],vararg:=none,kwonlyargs:=[],kw_defaults:=[],kwarg:=none,defaults:=[] }
def kZ(s:Stmt):List Stmt:=match s with
 | .FunctionDef _ _ b _ _ _ _ _ _ _=>b
 |_=>[]
def aO(s:Stmt):Scope:=match s with
 | .FunctionDef _ _ _ _ _ _ sc _ _ _=>sc
 |_=>{ kind:=.function,names:=[],isGenerator:=false,isCoroutine:=false}
abbrev CX0:CXT:=λ_ _ _ _ _ _=>False
abbrev E0:XK:=λ_ _ _=>False
theorem Sx{X:Cx}:Bk CX0 X E0:=λ_ _ _ _ _ _ _ h=>h.elim
def pD(H H':Hp):Prop:=∀b o,H b=some o->H' b=some o
theorem pD.refl(H:Hp):pD H H:=λ_ _ h=>h
theorem pD.trans{H H1 H2:Hp}(a:pD H H1)(b:pD H1 H2):pD H H2:=λc o h=>b c o (a c o h)
def Dn(X:Cx):List Nat->List Str->Prop
 | [],[]=>True
 |i::is,x::xs=>(X.N[i]? =some x/\(X.env.kindOf x=some .cell∨X.env.kindOf x=some .free))/\Dn X is xs
 |_,_=>False
theorem Dn.length{X:Cx}:∀{is:List Nat}{xs:List Str},Dn X is xs->is.length=xs.length
 | [],[],_=>rfl
 |_::_,_::_,h=>by rw[List.length_cons,List.length_cons,Dn.length h.2]
theorem Dn.get{X:Cx}:∀{is:List Nat}{xs:List Str}{j i:Nat},Dn X is xs->is[j]? =some i->∃x,xs[j]? =some x/\X.N[i]? =some x/\(X.env.kindOf x=some .cell∨X.env.kindOf x=some .free)
 | [],[],_,_,_,e=>by simp at e
 |i::is,x::xs,0,k,h,e=>by
  simp at e;subst e
  exact⟨x,rfl,h.1⟩
 |i::is,x::xs,j+1,k,h,e=>by
  obtain⟨y,e1,e2⟩:=Dn.get (j:=j) (i:=k) h.2 (by simpa using e)
  exact⟨y,by simpa using e1,e2⟩
def xg(σ:St)(is:List Nat):St:=is.map λi=>(σ[i]?).join
theorem Ae{σ:St}{is:List Nat}{j:Nat}{v:V}(e:(xg σ is)[j]? =some (some v)):∃i,is[j]? =some i/\σ[i]? =some (some v):=by
 unfold xg at e
 rw[List.getElem?_map]at e
 cases q:is[j]? with
 |none=>rw[q]at e;cases e
 |some i=>
  rw[q]at e
  have e1:(σ[i]?).join=some v:=by simpa using e
  cases q2:σ[i]? with
  |none=>rw[q2]at e1;cases e1
  |some o=>
   rw[q2]at e1
   have e2:o=some v:=e1
   subst e2
   exact⟨i,rfl,q2⟩
def dI(env:Env):List (Str×NameKind)->List (Str×Addr)->List (Str×Addr)
 | [],acc=>acc
 |(n,k)::r,acc=>dI env r (if k== .free then(match env.cells.lookup n with|some c=>(n,c)::acc|none=>acc)else acc)
theorem Ei{env:Env}:∀(names:List (Str×NameKind))(acc:List (Str×Addr)),(∀y∈names,y.2= .free->∃c,env.cells.lookup y.1=some c)->
  (forIn names acc λ(p:Str×NameKind)(r:List (Str×Addr))=>if p.2== .free then(do let c<-cellOf env p.1;pure (ForInStep.yield ((p.1,c)::r)))else pure (ForInStep.yield r):Sem (List (Str×Addr)))=pure (dI env names acc)
 | [],acc,_=>rfl
 |(n,k)::r,acc,h=>by
  have hr:=Ei (env:=env) r
  rw[List.forIn_cons]
  unfold dI
  by_cases hk:(k==NameKind.free)=true
  .obtain⟨c,hc⟩:=h (n,k) List.mem_cons_self (by simpa using hk)
   simp only[hk,if_true]
   unfold cellOf
   simp only at hc
   rw[hc]
   simp only[pure_bind]
   exact hr _ λy hy=>h y (List.mem_cons_of_mem _ hy)
  .simp only[hk]
   simp only[pure_bind,Bool.false_eq_true,if_false]
   exact hr _ λy hy=>h y (List.mem_cons_of_mem _ hy)
theorem mU{scope:Scope}{env:Env}(h:∀y∈scope.names,y.2= .free->∃c,env.cells.lookup y.1=some c):closureFor scope env=pure (dI env scope.names []):=by
 have e:=Ei (env:=env) scope.names [] h
 rw[<-e]
 unfold closureFor
 simp only[bind_pure]
theorem qM{env:Env}:∀{names:List (Str×NameKind)}{acc:List (Str×Addr)}{p:Str×Addr},p∈dI env names acc->p∈acc∨env.cells.lookup p.1=some p.2
 | [],acc,p,h=>.inl h
 |(n,k)::r,acc,p,h=>by
  unfold dI at h
  rcases qM h with h|h
  .split at h
   .split at h
    .rename_i c hc
     rcases Zi.mp h with e|h
     .subst e;exact .inr hc
     .exact .inl h
    .exact .inl h
   .exact .inl h
  .exact .inr h
theorem uU{env:Env}{x:Str}:∀{names:List (Str×NameKind)}{acc:List (Str×Addr)},(∀k,(x,k)∈names->k≠ .free)->(dI env names acc).lookup x=acc.lookup x
 | [],acc,_=>rfl
 |(n,k)::r,acc,h=>by
  unfold dI
  rw[uU λk hk=>h k (List.mem_cons_of_mem _ hk)]
  by_cases hk:(k==NameKind.free)=true
  .rw[if_pos hk]
   have hne:x≠n:=by
    rintro rfl
    exact h k List.mem_cons_self (by simpa using hk)
   split
   .rw[List.lookup_cons]
    have:(x==n)=false:=by simpa using hne
    rw[this]
   .rfl
  .rw[if_neg hk]
theorem pN{env:Env}{x:Str}{c:Addr}(hc:env.cells.lookup x=some c):∀{names:List (Str×NameKind)}{acc:List (Str×Addr)},(x,NameKind.free)∈names∨acc.lookup x=some c->(dI env names acc).lookup x=some c
 | [],acc,h=>by
  rcases h with h|h
  .simp at h
  .exact h
 |(n,k)::r,acc,h=>by
  unfold dI
  apply pN hc
  by_cases hr:(x,NameKind.free)∈r
  .exact .inl hr
  .right
   by_cases hx:x=n
   .subst hx
    by_cases hk:(k==NameKind.free)=true
    .rw[if_pos hk,hc]
     simp
    .rw[if_neg hk]
     rcases h with h|h
     .rcases Zi.mp h with e|h
      .exfalso;apply hk
       cases e;rfl
      .exact absurd h hr
     .exact h
   .have h':acc.lookup x=some c:=by
     rcases h with h|h
     .rcases Zi.mp h with e|h
      .cases e;exact absurd rfl hx
      .exact absurd h hr
     .exact h
    have hxn:(x==n)=false:=by simpa using hx
    split
    .split
     .rw[List.lookup_cons,hxn];exact h'
     .exact h'
    .exact h'
structure CO(lo:Nat)(h:Heap)(acc:List (Str×Addr)):Prop where
 lt:∀p∈acc,p.2<h.objs.size
 em:∀p∈acc,lo<=p.2->h.IsCell p.2 none
 ap:∀p∈acc,∀q∈acc,p.2=q.2->lo<=p.2->p.1=q.1
theorem CO.go{lo:Nat}:∀(names:List (Str×NameKind))(h:Heap)(acc:List (Str×Addr)),CO lo h acc->lo<=h.objs.size->CO lo (pushCells h names) (cellsFrom h.objs.size names acc)
 | [],h,acc,x,_=>x
 |(n,k)::r,h,acc,x,hl=>by
  unfold pushCells cellsFrom
  by_cases hk:(k==NameKind.cell)=true
  .rw[if_pos hk,if_pos hk]
   have:=CO.go (lo:=lo) r (h.push { cls:=.type "cell",data:=.cell none}) ((n,h.objs.size)::acc) ⟨λp hp=>?_,λp hp hlo=>?_,λp hp q hq e hlo=>?_⟩ (by rw[Heap.size_push];omega)
   .rwa[Heap.size_push]at this
   .rw[Heap.size_push]
    rcases Zi.mp hp with e|hp
    .subst e;exact Nat.lt_succ_self _
    .exact Nat.lt_succ_of_lt (x.lt p hp)
   .rcases Zi.mp hp with e|hp
    .subst e;exact⟨_,Zf _ rfl,rfl⟩
    .exact(x.em p hp hlo).keeps λb o e=>Zb _ e
   .rcases Zi.mp hp with e1|hp<;>rcases Zi.mp hq with e2|hq
    .subst e1;subst e2;rfl
    .subst e1
     have e':h.objs.size=q.2:=e
     exact absurd (x.lt q hq) (by rw[<-e'];exact Nat.lt_irrefl _)
    .subst e2
     have e':p.2=h.objs.size:=e
     exact absurd (x.lt p hp) (by rw[e'];exact Nat.lt_irrefl _)
    .exact x.ap p hp q hq e hlo
  .rw[if_neg hk,if_neg hk]
   exact CO.go r h acc x hl
theorem Bo:∀{names:List (Str×NameKind)}{m:Nat}{acc:List (Str×Addr)}{p:Str×Addr},p∈cellsFrom m names acc->p∈acc∨m<=p.2
 | [],m,acc,p,h=>.inl h
 |(n,k)::r,m,acc,p,h=>by
  unfold cellsFrom at h
  by_cases hk:(k==NameKind.cell)=true
  .rw[if_pos hk]at h
   rcases Bo h with h|h
   .rcases Zi.mp h with e|h
    .subst e;exact .inr (Zg _)
    .exact .inl h
   .exact .inr (by omega)
  .rw[if_neg hk]at h
   exact Bo h
theorem Gy{x:Str}:∀{names:List (Str×NameKind)}{m:Nat}{acc:List (Str×Addr)},(∀k,(x,k)∈names->k≠ .cell)->(cellsFrom m names acc).lookup x=acc.lookup x
 | [],m,acc,_=>rfl
 |(n,k)::r,m,acc,h=>by
  unfold cellsFrom
  by_cases hk:(k==NameKind.cell)=true
  .rw[if_pos hk,Gy λk hk=>h k (List.mem_cons_of_mem _ hk),List.lookup_cons]
   have hne:x≠n:=by
    rintro rfl
    exact h k List.mem_cons_self (by simpa using hk)
   have:(x==n)=false:=by simpa using hne
   rw[this]
  .rw[if_neg hk]
   exact Gy λk hk=>h k (List.mem_cons_of_mem _ hk)
section
variable {M:Model} {A:Around} {E:Value->Shared->Prop} {s:Shared}
theorem rA{scope:Scope}{globals:Addr}{closure:List (Str×Addr)}{qual:Str}{func:Option Addr}{code:Value}{around:Option Env}{builtins:Addr}{Q:Env->Shared->Prop}
  (h:Q (newEnv scope s.heap.objs.size globals (cellsFrom (s.heap.objs.size+1) scope.names closure) qual func code around builtins)
   { s with heap:=pushCells (s.heap.push { cls:=.type (if around.isSome then "dict" else "frame"),data:=.dict #[] }) scope.names}):
  wpAny M A (newFunctionEnv scope globals closure [] qual func code around builtins) Q E s:=by
 simp only[newFunctionEnv]
 refine wpAny_bind (wpAny_alloc ?_)
 refine wpAny_bind (wpAny_layCells _ (λname kind cells=>by cases hkc:kind==NameKind.cell<;>simp[hkc]) _ _ _ _ ?_)
 rw[List.forIn_nil]
 refine wpAny_bind (wpAny_pure (wpAny_pure ?_))
 have e:(s.heap.push ({ cls:=.type (if around.isSome then "dict" else "frame"),data:=.dict #[] }:Obj)).objs.size=s.heap.objs.size+1:=Heap.size_push ..
 rw[<-e]at h
 cases around<;>exact h
end
structure je(X:Cx)(own cap:List Str)(capI:List Nat)(scope:Scope):Prop where
 kind:scope.kind= .function
 nd:(scope.names.map (·.1)).Nodup
 caps:Dn X capI cap
 fre:∀y∈scope.names,y.2= .free->y.1∈cap
 cfr:∀x∈cap,(x,NameKind.free)∈scope.names
theorem wJ{x:Str}{k k':NameKind}:∀{names:List (Str×NameKind)},(names.map (·.1)).Nodup->(x,k)∈names->(x,k')∈names->k=k'
 | [],_,h,_=>by simp at h
 |p::r,nd,h1,h2=>by
  rw[Zj,List.nodup_cons]at nd
  rcases Zi.mp h1 with e1|h1<;>rcases Zi.mp h2 with e2|h2
  .rw[<-e2]at e1;exact(Prod.mk.inj e1).2
  .exact absurd (by rw[<-e1];exact Zq.mpr ⟨_,h2,rfl⟩) nd.1
  .exact absurd (by rw[<-e2];exact Zq.mpr ⟨_,h1,rfl⟩) nd.1
  .exact wJ nd.2 h1 h2
theorem gh{α:Type}{x:Str}{k:α}:∀{names:List (Str×α)},(names.map (·.1)).Nodup->(x,k)∈names->names.lookup x=some k
 | [],_,h=>by simp at h
 |(n,k')::r,nd,h=>by
  rw[Zj,List.nodup_cons]at nd
  rw[List.lookup_cons]
  rcases Zi.mp h with e|hr
  .cases e;simp
  .have hne:x≠n:=by
    intro e
    subst e
    exact nd.1 (Zq.mpr ⟨_,hr,rfl⟩)
   have:(x==n)=false:=by simpa using hne
   rw[this]
   exact gh nd.2 hr
theorem vK{scope:Scope}{env:Env}{x:Str}{k:NameKind}(h:(x,k)∈(relabel scope env).names):(x,k)∈scope.names∨(k= .cell/\(x,NameKind.free)∈scope.names):=by
 unfold relabel at h
 obtain⟨⟨n,k'⟩,hm,e⟩:=Zq.mp h
 dsimp only at e
 split at e
 .rename_i hc
  cases e
  have hk:k'=NameKind.free:=by
   simp only[Zo,beq_iff_eq]at hc
   exact hc.1.1
  subst hk
  exact .inr ⟨rfl,hm⟩
 .cases e;exact .inl hm
theorem Ao{scope:Scope}{env:Env}:(relabel scope env).names.map (·.1)=scope.names.map (·.1):=by
 unfold relabel
 rw[List.map_map]
 apply List.map_congr_left
 rintro⟨n,k⟩ _
 show(if _ then(n,NameKind.cell)else(n,k)).1=n
 split<;>rfl
theorem Bt{scope:Scope}{env:Env}{x:Str}(nd:(scope.names.map (·.1)).Nodup)(h:(x,NameKind.free)∈scope.names):(relabel scope env).names.lookup x=some .cell∨(relabel scope env).names.lookup x=some .free:=by
 have nd':((relabel scope env).names.map (·.1)).Nodup:=by rw[Ao];exact nd
 by_cases hc:(NameKind.free==NameKind.free&&env.scope.kind== .function&&env.kindOf x==some .cell)=true
 .left
  refine gh nd' ?_
  unfold relabel
  refine Zq.mpr ⟨(x,NameKind.free),h,?_⟩
  dsimp only
  rw[if_pos hc]
 .right
  refine gh nd' ?_
  unfold relabel
  refine Zq.mpr ⟨(x,NameKind.free),h,?_⟩
  dsimp only
  rw[if_neg hc]
def gf(X:Cx)(own cap:List Str)(scope:Scope)(cs:List (Str×Addr))(C:Addr)(fp:List Addr)(s2:Shared)(H2:Hp):Cx where
 prog:=X.prog
 w:=X.w
 K:=X.K
 mg:=X.mg
 base:=X.base
 A:=X.A
 N:=own++cap
 s₀:=s2
 H₀:=H2
 env:=compEnvC scope cs C X.env
 outer:=X.stack
 stack:=X.stack
 ex:=fp
 fn:=λx=>own.contains x
 calm:=X.calm
 pn:=[]
 xe:=λ_ _=>False
def dJ(own:List Str)(σ:St)(capI:List Nat):St:=List.replicate own.length none++xg σ capI
section
variable {X:Cx} {pins:List (Addr×Obj)} {σ:St} {H:Hp} {s:Shared} {own cap:List Str} {capI:List Nat} {scope:Scope}
theorem je.cells(B:je X own cap capI scope)(I:Inv X pins σ H s):∀y∈scope.names,y.2= .free->∃c,X.env.cells.lookup y.1=some c:=λy hy e=>by
 have hm:=B.fre y hy e
 obtain⟨j,hj⟩:=List.getElem?_of_mem hm
 have hlt:j<capI.length:=by rw[B.caps.length];exact(Zh.mp hj).1
 obtain⟨x,e1,_,k⟩:=B.caps.get (j:=j) (i:=capI[j]) (by simp[hlt])
 rw[hj]at e1
 cases e1
 exact I.ok.has _ k
theorem Inv.comp{fp:List Addr}{h0 h1:Heap}{C:Addr}{tk:Nat}(I:Inv X pins σ H s)(B:je X own cap capI scope)(hown:∀x∈own,(x,NameKind.free)∉scope.names)(hf:∀b∈fp,nT X pins H b)(ho:∀b∈fp,∃o,s.heap.get? b=some o)
  (hk0:∀b o,s.heap.get? b=some o->h0.get? b=some o) (hsz:s.heap.objs.size<=h0.objs.size) (hC:C=h0.objs.size) (h1e:h1=pushCells (h0.push { cls:=.type "dict",data:=.dict #[] }) scope.names):
  Inv (gf X own cap scope (cellsFrom (C+1) scope.names (dI X.env scope.names [])) C fp s H) [] (dJ own σ capI) H { s with heap:=h1,toks:=tk}:=by
 have hCs:s.heap.objs.size<=C:=by rw[hC];exact hsz
 have hpush:(h0.push ({ cls:=.type "dict",data:=.dict #[] }:Obj)).objs.size=C+1:=by rw[hC];exact Heap.size_push ..
 have keep1:∀b o,h0.get? b=some o->h1.get? b=some o:=λb o e=>by rw[h1e];exact pushCells_keeps _ _ _ _ (Zb _ e)
 have keep:∀b o,s.heap.get? b=some o->h1.get? b=some o:=λb o e=>keep1 b o (hk0 b o e)
 have hCo:h1.get? C=some { cls:=.type "dict",data:=.dict #[] }:=by
  rw[h1e]
  refine pushCells_keeps _ _ _ _ ?_
  rw[hC];exact Zf _ rfl
 have clo_old:∀p∈dI X.env scope.names [],X.env.cells.lookup p.1=some p.2:=λp hp=>(qM hp).elim (λz=>by simp at z) id
 have old_lt:∀x c,X.env.cells.lookup x=some c->c<s.heap.objs.size:=λx c e=>let⟨v,q⟩:=I.cell x c e;q.lt
 have co0:CO (C+1) (h0.push { cls:=.type "dict",data:=.dict #[] }) (dI X.env scope.names []):=by
  refine⟨λp hp=>?_,λp hp hlo=>?_,λp hp q hq e hlo=>?_⟩
  .rw[hpush];exact Nat.lt_succ_of_lt (Zc (old_lt _ _ (clo_old p hp)) hCs)
  .exact absurd (Zc (old_lt _ _ (clo_old p hp)) (Zl hCs (Zl (Nat.le_succ _) hlo))) (Nat.lt_irrefl _)
  .exact absurd (Zc (old_lt _ _ (clo_old p hp)) (Zl hCs (Zl (Nat.le_succ _) hlo))) (Nat.lt_irrefl _)
 have co:=CO.go scope.names _ _ co0 (by rw[hpush];exact Zg _)
 rw[hpush,<-h1e]at co
 have csm:∀x c,(cellsFrom (C+1) scope.names (dI X.env scope.names [])).lookup x=some c->(X.env.cells.lookup x=some c/\c<s.heap.objs.size)∨(C+1<=c/\h1.IsCell c none):=λx c e=>by
  have hm:=Zt e
  rcases Bo hm with z|z
  .have q:=clo_old _ z
   exact .inl ⟨q,old_lt _ _ q⟩
  .exact .inr ⟨z,co.em _ hm z⟩
 have fresh:∀b,s.heap.objs.size<=b->H b=none:=λb hb=>I.hok.fresh hb
 have eout:(gf X own cap scope (cellsFrom (C+1) scope.names (dI X.env scope.names [])) C fp s H).fs=frs X.stack:=rfl
 refine⟨⟨I.ok.mod,?_,I.ok.glob,I.ok.blt,hCs,?_,?_,?_,I.ok.hd,I.ok.frames,.inl rfl,?_,I.bs,Zl I.ok.bsz I.sz,?_,?_,I.stack,I.stkFree⟩,rfl,I.bare.again,Un.kept keep,?_,?_,fresh C hCs,?_,?_,I.hok.kept keep,?_⟩
 .exact B.kind
 .
  intro x y c e1 e2
  have e1':(cellsFrom (C+1) scope.names (dI X.env scope.names [])).lookup x=some c:=e1
  have e2':(cellsFrom (C+1) scope.names (dI X.env scope.names [])).lookup y=some c:=e2
  rcases csm x c e1' with⟨z1,l1⟩|⟨z1,_⟩
  .rcases csm y c e2' with⟨z2,_⟩|⟨z2,_⟩
   .exact I.ok.inj x y c z1 z2
   .exact absurd (Zc l1 (Zl hCs (Zl (Nat.le_succ _) z2))) (Nat.lt_irrefl _)
  .exact co.ap _ (Zt e1') _ (Zt e2') rfl z1
 .
  intro x hx
  have hx':(relabel scope X.env).names.lookup x=some .cell∨(relabel scope X.env).names.lookup x=some .free:=hx
  have hm:(x,NameKind.cell)∈scope.names∨(x,NameKind.free)∈scope.names:=by
   rcases hx' with e|e
   .rcases vK (Zt e)with q|q
    .exact .inl q
    .exact .inr q.2
   .rcases vK (Zt e)with q|q
    .exact .inr q
    .cases q.1
  rcases hm with q|q
  .exact Option.isSome_iff_exists.mp (PySem.W.cellsFrom_some scope.names (C+1) _ (.inl (gh B.nd q)))
  .obtain⟨c,hc⟩:=B.cells I _ q rfl
   exact Option.isSome_iff_exists.mp (PySem.W.cellsFrom_some scope.names (C+1) _ (.inr (by rw[pN hc (.inl q)];rfl)))
 .
  intro x c hx e
  have e':(cellsFrom (C+1) scope.names (dI X.env scope.names [])).lookup x=some c:=e
  have hxo:x∈own:=by simpa[gf]using hx
  rcases Bo (Zt e')with z|z
  .exfalso
   have nf:=hown x hxo
   have:(dI X.env scope.names []).lookup x=none:=by
    rw[uU λk hk=>by rintro rfl;exact nf hk];rfl
   have hl:(cellsFrom (C+1) scope.names (dI X.env scope.names [])).lookup x=some c:=e'
   have q:∀(l:List (Str×Addr)),(x,c)∈l->l.lookup x≠none:=by
    intro l
    induction l with
    |nil=>intro h;simp at h
    |cons p r ih=>
     intro h
     obtain⟨n,d⟩:=p
     rw[List.lookup_cons]
     by_cases hn:(x==n)=true
     .rw[hn];simp
     .have hn':(x==n)=false:=by simpa using hn
      rw[hn']
      rcases Zi.mp h with e|h
      .cases e;simp at hn'
      .exact ih h
   exact q _ z this
  .exact Zl hCs (Zl (Nat.le_succ _) z)
 .
  intro b hb
  obtain⟨o,hbo⟩:=ho b hb
  have hlt:=Ze hbo
  refine⟨Zk (Zc hlt hCs),λx c e=>?_⟩
  rcases csm x c e with⟨z,_⟩|⟨z,_⟩
  .exact(hf b hb).2.2.2.2.1 x c z
  .exact Nat.ne_of_gt (Zc hlt (Zl hCs (Zl (Nat.le_succ _) z)))
 .
  intro b o e hb
  rcases(hf b hb).2.2.2.1 with z|z
  .exact I.ok.noex b o e z
  .exact absurd (Zc (Ze e) (Zl I.ok.bsz z)) (Nat.lt_irrefl _)
 .
  intro b hb hz
  rcases Zi.mp (I.stkSub b hz)with z|z
  .exact(hf b hb).2.1 z
  .exact(hf b hb).2.2.1 z
 .
  obtain⟨m,hn,hl⟩:=I.loc
  refine⟨λ_=>none,⟨_,#[],0,hCo,rfl,by intro e he;simp at he,λ_=>rfl⟩,λi x v e1 e2 hv=>?_⟩
  have e2':(dJ own σ capI)[i]? =some (some v):=e2
  have e1':(own++cap)[i]? =some x:=e1
  unfold dJ at e2'
  by_cases hi:i<own.length
  .rw[Zs (by simpa using hi),List.getElem?_replicate]at e2'
   split at e2'<;>cases e2'
  .rw[List.getElem?_append_right (by simpa using hi)]at e2'
   rw[List.getElem?_append_right (by simpa using hi)]at e1'
   rw[List.length_replicate]at e2'
   obtain⟨i0,q1,q2⟩:=Ae e2'
   obtain⟨y,q3,q4,q5⟩:=B.caps.get q1
   rw[e1']at q3
   cases q3
   have hxf:(x,NameKind.free)∈scope.names:=B.cfr x (List.mem_of_getElem? e1')
   have vis:Vis X.env.scope x:=by
    rcases q5 with q5|q5
    .exact .inr (.inl q5)
    .exact .inr (.inr q5)
   obtain⟨u,ru,lk⟩:=hl i0 x v q4 q2 vis
   refine⟨u,ru,.inr ⟨Bt B.nd hxf,?_⟩⟩
   rcases lk with⟨k,_⟩|⟨_,c,ec,hc⟩
   .rcases q5 with q5|q5<;>rw[k]at q5<;>cases q5
   .refine⟨c,?_,hc.keeps keep⟩
    show(cellsFrom (C+1) scope.names (dI X.env scope.names [])).lookup x=some c
    rw[Gy λk hk=>?_]
    .exact pN ec (.inl hxf)
    .rintro rfl
     cases wJ B.nd hk hxf
 .
  intro x c e
  rcases csm x c e with⟨z,_⟩|⟨_,z⟩
  .obtain⟨v,q⟩:=I.cell x c z
   exact⟨v,q.keeps keep⟩
  .exact⟨none,z⟩
 .
  intro x c e
  rcases csm x c e with⟨z,_⟩|⟨z,_⟩
  .exact I.freeC x c z
  .exact fresh c (Zl hCs (Zl (Nat.le_succ _) z))
 .intro p hp
  exact absurd (show p∈([]:List (Addr×Obj))from hp) (by simp)
 .show(dJ own σ capI).length=(own++cap).length
  unfold dJ xg
  rw[List.length_append,List.length_append,List.length_replicate,Zu,B.caps.length]
end
section
variable {prog:Program} {w:World} {A:Around} {R:Result->Shared->Prop} {s:Shared}
theorem zK{elt target iter:Expr}{ifs:List Expr}{scope:Scope}{pos:Pos}{it acc:Value}{env:Env}{E':Value->Shared->Prop}(I:Nat->Shared->Prop)
  (hE:∀e s',E' e s'->notedBy (model prog w) A env (λe s'=>R (.error e) s') e s')
  (turn:∀n s,I n s->wpAny (model prog w) A (pyNext it) (λr s₁=>match r with
   |none=>R (.ok .next) s₁
   |some v=>wpAny (model prog w) A (letOwnedTupleGo target it v) (λ_ s₂=>wpAny (model prog w) A (assign target env v) (λ_ s₃=>
    wpAny (model prog w) A (forIn ifs true λc r=>if r=true then do let ok<-isTrue c env (eval c env);pure (ForInStep.yield ok)else pure (ForInStep.yield r)) (λok s₄=>
     if ok=true then wpAny (model prog w) A (eval elt env) (λx s₅=>
      wpAny (model prog w) A (call (.builtin "list.append") [acc,x]) (λ_ s₆=>∃m,m<n/\I m s₆) E' s₅) E' s₄
     else∃m,m<n/\I m s₄) E' s₃) E' s₂) E' s₁) E' s)
  (n:Nat) (h:I n s):
  codeAny (model prog w) A (.compLoop (.ListComp elt [⟨target,iter,ifs,0⟩] scope pos) 0 it acc env) R s:=by
 refine codeAny_loop rfl I (λn s hI=>?_) n h
 show wpAny _ A ((compTurn (.ListComp elt [⟨target,iter,ifs,0⟩] scope pos) 0 it acc env).onRaise (λx=>do noteFrame x env;theTreesLotGoes x)) _ _ s
 refine wpAny_noted ?_
 rw[compTurn_list]
 refine wpAny_bind (wpAny_standAt (wpAny_bind (wpAny_mono (turn n s hI) (λr s₁ h₁=>?_) hE)))
 cases r with
 |none=>exact wpAny_pure h₁
 |some v=>
  refine wpAny_bind (wpAny_mono h₁ (λ_ s₂ h₂=>?_) hE)
  refine wpAny_bind (wpAny_mono h₂ (λ_ s₂ h₂=>wpAny_bind (wpAny_mono h₂ (λok s₃ h₃=>?_) hE)) hE)
  cases ok with
  |false=>exact wpAny_pure ⟨rfl,h₃⟩
  |true=>
   exact wpAny_bind (wpAny_bind (wpAny_mono h₃ (λx s₄ h₄=>wpAny_bind (wpAny_mono h₄ (λ_ s₅ h₅=>wpAny_pure (wpAny_pure ⟨rfl,h₅⟩)) hE)) hE))
end
def PIf(X:Cx)(ifs:List Expr)(t:TT):Prop:=
 ∀(pins:List (Addr×Obj))(s:Shared)(σ:St)(H:Hp)(Q:Bool->Hp->Prop),Inv X pins σ H s->t σ H Q->
  wpAny (model X.prog X.w) X.A (forIn ifs true λc r=>if r=true then do let ok<-isTrue c X.env (eval c X.env);pure (ForInStep.yield ok)else pure (ForInStep.yield r)) (TP X pins σ Q) X.xe s
def tYes:TT:=λ_ H Q=>Q true H
section
variable {X:Cx} {c:Expr} {t:TT}
theorem OJ:PIf X [] tYes:=λ_ _ _ H _ I h=>wpAny_tests_nil ⟨H,I,h⟩
theorem Rm(h:PT X c t):PIf X [c] t:=λpins s σ H Q I hq=>wpAny_tests_one (h pins s σ H Q I hq)
end
def Fits(a b:St):Prop:=b.length=a.length/\∀(i:Nat) v,a[i]? =some (some v)->b[i]? =some (some v)
def tLC(own:List Str)(capI:List Nat)(wi:TI)(g:TG)(tt:TT)(te:TE):TE:=λσ H Q=>wi σ H λJ H1=>∃W:Nat->Nat->List V->Hp->Prop,(∃m,W 0 m [] H1)/\∀i m ys H,W i m ys H->
 (J.stop i H/\∀l,H l=none->Q (.ref l) (upd H l (.lst ys)))∨
 (J.go i H/\ys.length<sizeLine/\∀x H',J.yld i H x H'->g x (dJ own σ capI) H' λσ2 H2=>Fits (dJ own σ capI) σ2/\tt σ2 H2 λb H3=>
  if b=true then te σ2 H3 (λy H4=>∃m',m'<m/\W (i+1) m' (ys++[y]) H4)else∃m',m'<m/\W (i+1) m' ys H3)
abbrev cH(us:List Value)(k:Nat):Obj:={ cls:=.type "list",data:=.seq us.toArray k}
section
variable {X:Cx} {tg iter elt:Expr} {ifs:List Expr} {wi:TI} {g:TG} {tt:TT} {te:TE} {own cap:List Str} {capI:List Nat} {scope:Scope} {pos:Pos}
theorem Inv.compEnd{X':Cx}{pins pins':List (Addr×Obj)}{σ σ':St}{H H2:Hp}{s2 s1:Shared}{fp:List Addr}{l C:Addr}{ys:List V}{us:List Value}{k:Nat}{h':Heap}
  (I2:Inv X pins σ H2 s2) (f2:∀b∈fp,nT X pins H2 b) (hP:X'.prog=X.prog) (hw:X'.w=X.w) (hfs:X'.fs=frs X.stack) (hex:X'.ex=fp) (hs:X'.s₀=s2) (hH:X'.H₀=H2) (hC:X'.env.locals=C)
  (I:Inv X' pins' σ' H s1) (hl:s2.heap.objs.size<=l) (hlC:l≠C) (hCs:s2.heap.objs.size<=C) (ho:s1.heap.get? l=some (cH us k)) (hn:H l=none) (hv:Vals ys us) (hz:ys.length<=sizeLine)
  (sb:Heap.SameBut C s1.heap h'):Inv X pins σ (upd H l (.lst ys)) { s1 with heap:=h'}:=by
 subst hs hH hC
 have ne2:∀b o,X'.s₀.heap.get? b=some o->b≠X'.env.locals/\b≠l:=λb o e=>⟨Zk (Zc (Ze e) hCs),Zk (Zc (Ze e) hl)⟩
 have ub:=I.base
 rw[hfs,hex]at ub
 have nl:∀b u,H b=some u->b≠l:=λb u e z=>by rw[z,hn]at e;cases e
 have nC:∀b u,H b=some u->b≠X'.env.locals:=λb u e z=>by rw[z,I.free]at e;cases e
 refine I2.call' (ch:=fp) (s':={ s1 with heap:=h'}) I.os ⟨λb o e n hb hx=>?_,λb o e n hb hx=>?_,λb o e n hx=>?_,λb o e hx=>?_,λb xs e=>?_,λb o u e=>?_,λb ps e=>?_⟩ ?_ I.bare λb hb=>?_
 .exact(sb.2 b (ne2 b o e).1).trans (ub.keep b o e n hb hx)
 .obtain⟨sl,q⟩:=ub.slot b o e n hb hx
  exact⟨sl,(sb.2 b (ne2 b o e).1).trans q⟩
 .rw[aX (ne2 b o e).2]
  exact ub.free b o e n hx
 .obtain⟨o',q⟩:=ub.there b o e hx
  exact⟨o',(sb.2 b (ne2 b o e).1).trans q⟩
 .have q:=ub.tups b xs e
  rw[aX (nl b _ q)];exact q
 .have q:=ub.frzs b o u e
  rw[aX (nl b _ q)];exact q
 .obtain⟨more,q⟩:=ub.tbls b ps e
  exact⟨more,by rw[aX (nl b _ q)];exact q⟩
 .intro a o e
  have hok:=I.hok
  rw[hP,hw]at hok
  by_cases ha:a=l
  .subst ha
   rw[gV]at e
   cases e
   exact⟨hz,us,k,hv,(sb.2 a hlC).trans ho⟩
  .rw[aX ha]at e
   refine(hok a o e).stay (λb u hb q=>(sb.2 b ?_).trans q) (λb q=>by rw[aX (nl b _ q)];exact q) λb xs q=>by rw[aX (nl b _ q)];exact q
   rcases hb with z|z
   .rw[z];exact nC a o e
   .exact nC b _ z
 .obtain⟨q0,q1,q2,q3,q4,q5⟩:=f2 b hb
  exact⟨q3.imp id λz=>z,q1,q4,q5⟩
theorem XN(hc:X.calm=true)(B:je X own cap capI scope)(hown:∀x∈own,(x,NameKind.free)∉scope.names)(hi:PI X tg iter wi)
  (hg:∀cs C fp s2 H2,PG (gf X own cap scope cs C fp s2 H2) tg g) (ht:∀cs C fp s2 H2,PIf (gf X own cap scope cs C fp s2 H2) ifs tt) (he:∀cs C fp s2 H2,PE (gf X own cap scope cs C fp s2 H2) elt te)
  (hs:∀x,foldedSetIterable iter X.env x=pure x:=by intro _;rfl):PE X (.ListComp elt [⟨tg,iter,ifs,0⟩] scope pos) (tLC own capI wi g tt te):=by
 intro pins s σ H Q I h
 rw[eval_ListComp]
 refine wpAny_comprehension_free (use:=none) (cl:=dI X.env scope.names []) rfl hs (mU (B.cells I)) B.kind (λy hy e=>gh B.nd (by rw[<-e];exact hy)) ?_
 refine thn (hi pins s σ H _ I h) λv s1 h1=>thn h1 λitv s2 h2=>?_
 obtain⟨it,fp,tn,J,H2,e,I2,T,st2,f2,W,⟨m0,w0⟩,turn⟩:=h2
 subst e
 refine wpAny_newObj_type (rA ?_)
 dsimp only
 generalize hl:s2.heap.objs.size=l
 generalize hh0:s2.heap.push { cls:=.type "list",dict:=none,data:=.seq ([]:List Value).toArray}=h0
 have hsz0:h0.objs.size=l+1:=by rw[<-hh0,Heap.size_push,hl]
 generalize hC:h0.objs.size=C
 generalize hh1:pushCells (h0.push { cls:=.type (if(some X.env).isSome=true then "dict" else "frame"),data:=.dict #[] }) scope.names=h1
 have hl0:h0.get? l=some (cH [] 0):=by rw[<-hh0,<-hl];exact Zf _ rfl
 have hk0:∀b o,s2.heap.get? b=some o->h0.get? b=some o:=λb o e=>by rw[<-hh0];exact Zb _ e
 have hlC:l≠C:=by rw[<-hC,hsz0];exact Zk (Nat.lt_succ_self _)
 have hls:s2.heap.objs.size<=l:=Nat.le_of_eq hl
 have hCs:s2.heap.objs.size<=C:=by rw[<-hC,hsz0,hl];exact Nat.le_succ _
 have ho2:∀b∈fp,∃o,s2.heap.get? b=some o:=λb hb=>let⟨o,e,_⟩:=T.obj 0 _ st2 b hb;⟨o,e⟩
 have hfl:∀b∈fp,b≠l/\b≠C:=λb hb=>let⟨o,e⟩:=ho2 b hb;⟨Zk (Zc (Ze e) hls),Zk (Zc (Ze e) hCs)⟩
 have hl1:h1.get? l=some (cH [] 0):=by rw[<-hh1];exact pushCells_keeps _ _ _ _ (Zb _ hl0)
 have keep1:∀b o,s2.heap.get? b=some o->h1.get? b=some o:=λb o e=>by rw[<-hh1];exact pushCells_keeps _ _ _ _ (Zb _ (hk0 b o e))
 generalize hcs:cellsFrom (C+1) scope.names (dI X.env scope.names [])=cs
 have I0:Inv (gf X own cap scope cs C fp s2 H2) [] (dJ own σ capI) H2 { s2 with heap:=h1}:=by
  have q:=I2.comp (tk:=s2.toks) B hown f2 ho2 hk0 (by rw[hsz0,hl];exact Nat.le_succ _) hC.symm hh1.symm
  rw[hcs]at q
  exact q
 have henv:(newEnv scope C X.env.globals cs X.env.qual none .none (some X.env) builtinsNs)={ compEnvC scope cs C X.env with scope:=scope}:=rfl
 have henv2:({ newEnv scope C X.env.globals cs X.env.qual none .none (some X.env) builtinsNs with scope:=relabel scope X.env}:Env)=(gf X own cap scope cs C fp s2 H2).env:=rfl
 generalize hX':gf X own cap scope cs C fp s2 H2=X' at I0 henv2
 have eP:X'.prog=X.prog:=by rw[<-hX'];rfl
 have eW:X'.w=X.w:=by rw[<-hX'];rfl
 have eK:X'.K=X.K:=by rw[<-hX'];rfl
 have eA:X'.A=X.A:=by rw[<-hX'];rfl
 have eFs:X'.fs=frs X.stack:=by rw[<-hX'];rfl
 have eEx:X'.ex=fp:=by rw[<-hX'];rfl
 have eS:X'.s₀=s2:=by rw[<-hX'];rfl
 have eH:X'.H₀=H2:=by rw[<-hX'];rfl
 have eL:X'.env.locals=C:=by rw[<-hX'];rfl
 have eC:X'.calm=true:=by rw[<-hX'];exact hc
 have eX:X'.xe=λ_ _=>False:=by rw[<-hX'];rfl
 have ePn:X'.pn=[]:=by rw[<-hX'];rfl
 have hg':PG X' tg g:=by rw[<-hX'];exact hg cs C fp s2 H2
 have ht':PIf X' ifs tt:=by rw[<-hX'];exact ht cs C fp s2 H2
 have he':PE X' elt te:=by rw[<-hX'];exact he cs C fp s2 H2
 have stat:∀{H':Hp}{P:List (Addr×Obj)},X'.Ok->(∀b∈fp,H' b=none)->(∀p∈P,p.1=l)->∀b∈fp,nT X' P H' b:=λ{H' P} ok hn hP b hb=>by
  refine⟨hn b hb,?_,?_,.inl (by rw[eEx];exact hb),?_,λp hp=>?_⟩
  .exact(ok.exf b (by rw[eEx];exact hb)).1
  .exact ok.exfs b (by rw[eEx];exact hb)
  .exact(ok.exf b (by rw[eEx];exact hb)).2
  .rw[ePn,List.nil_append]at hp
   rw[hP p hp]
   exact Ne.symm (hfl b hb).1
 have lfs:X'.Ok->l∉X'.fs:=λok hz=>by
  rw[eFs]at hz
  exact(Inv.nofs (X:=X) I2 hls) ((Zi.mp (I2.stkSub l hz)).elim (λz=>absurd I2.lt (by rw[<-z,hl];exact Nat.lt_irrefl _)) id)
 have pinL:∀{σ':St}{H':Hp}{s':Shared}{us:List Value}{k:Nat},Inv X' [] σ' H' s'->s'.heap.get? l=some (cH us k)->H' l=none->Inv X' [(l,cH us k)] σ' H' s':=λ{σ' H' s' us k} I' e n=>
  I'.pins_of λp hp=>by
   obtain rfl:p=(l,cH us k):=by simpa using hp
   exact⟨e,n,by rw[eL];exact hlC,lfs I'.ok,λv z=>by cases z⟩
 have loop:∀s3:Shared,s3={ s2 with heap:=h1}->codeAny (model X.prog X.w) X.A (.compLoop (.ListComp elt [⟨tg,iter,ifs,0⟩] scope pos) 0 (.ref it) (.ref l) X'.env) (compPost (model X.prog X.w) X.A X.xe none (EP X pins σ Q) (.ref l) C) s3:=by
  rintro s3 rfl
  refine zK (E':=λ_ _=>False) (λn s'=>∃i ys us k H',Inv X' [] (dJ own σ capI) H' s'/\tn i s'.heap/\(∀b∈fp,H' b=none)/\W i n ys H'/\Vals ys us/\s'.heap.get? l=some (cH us k)/\H' l=none/\ys.length<=sizeLine) (λ_ _ z=>z.elim) ?_ m0
   ⟨0,[],[],0,H2,I0,T.keep _ _ _ st2 λb _ o e=>keep1 b o e,λb hb=>(f2 b hb).1,w0,.nil,hl1,I2.hok.fresh hls,Nat.zero_le _⟩
  rintro n s3 ⟨i,ys,us,k,H3,I3,st3,fr3,w3,v3,o3,n3,z3⟩
  have I3p:=pinL I3 o3 n3
  have P1:∀p∈[(l,cH us k)],p.1=l:=λp hp=>by
   obtain rfl:p=(l,cH us k):=by simpa using hp
   rfl
  rcases turn i n ys H3 w3 with⟨stop,qn⟩|⟨go,hlt,step⟩
  .have q:=T.done X' eP eW eK eC i _ s3 _ H3 (λ_ _=>False) I3p (stat I3.ok fr3 P1) st3 stop
   rw[eA]at q
   refine wpAny_mono q (λr s4 ⟨hr,I4⟩=>?_) λ_ _ z=>z
   subst hr
   have pl:=I4.pin (l,cH us k) (by simp)
   obtain⟨m4,hn4,_⟩:=I4.loc
   rw[eL]at hn4
   refine⟨m4,hn4,λh' sb=>⟨.ref l,upd H3 l (.lst ys),?_,rfl,qn l n3⟩⟩
   exact I2.compEnd f2 eP eW eFs eEx eS eH eL I4 hls hlC hCs pl.1 n3 v3 z3 sb
  .have q:=T.item X' eP eW eK eC i _ s3 _ H3 (λ_ _=>False) I3p (stat I3.ok fr3 P1) st3 go
   rw[eA]at q
   refine wpAny_mono q (λr s4 ⟨u,hr,h4⟩=>?_) λ_ _ z=>z
   subst hr
   refine wpAny_mono h4 (λ_ s5 ⟨x,H5,I5,r5,y5,st5,fr5⟩=>?_) λ_ _ z=>z
   have I5':=I5.pinned (stat I5.ok fr5 P1) (T.obj _ _ st5)
   have a1:=hg' _ s5 _ H5 x u _ I5' r5 (step x H5 y5)
   rw[eP,eW,eA,eX]at a1
   refine wpAny_mono a1 (λ_ s6 ⟨σ6,H6,I6,ft6,q6⟩=>?_) λ_ _ z=>z
   have a2:=ht' _ s6 σ6 H6 _ I6 q6
   rw[eP,eW,eA,eX]at a2
   refine wpAny_mono a2 (λok s7 ⟨H7,I7,q7⟩=>?_) λ_ _ z=>z
   have back:∀{H8:Hp}{s8:Shared},Inv X' ([(l,cH us k)]++uA fp s5.heap) σ6 H8 s8->Inv X' [] (dJ own σ capI) H8 s8/\tn (i+1) s8.heap/\(∀b∈fp,H8 b=none)/\s8.heap.get? l=some (cH us k)/\H8 l=none:=λ{H8 s8} I8=>by
    have pl:=I8.pin (l,cH us k) (by simp)
    refine⟨(I8.weak ft6.1.symm ft6.2).pins_of λp hp=>absurd hp (by simp),T.keep _ _ _ st5 λb hb o e=>?_,λb hb=>?_,pl.1,pl.2.1⟩
    .exact(I8.pin (b,o) (Zn _ (Zn _ (iT hb e)))).1
    .obtain⟨o,e,d⟩:=T.obj _ _ st5 b hb
     exact(I8.pin (b,o) (Zn _ (Zn _ (iT hb e)))).2.1
   cases ok with
   |false=>
    rw[if_neg Zr]
    rw[if_neg Zr]at q7
    obtain⟨m',hm,w7⟩:=q7
    obtain⟨I8,st8,fr8,o8,n8⟩:=back I7
    exact⟨m',hm,i+1,ys,us,k,H7,I8,st8,fr8,w7,v3,o8,n8,z3⟩
   |true=>
    rw[if_pos rfl]
    rw[if_pos rfl]at q7
    have a3:=he' _ s7 σ6 H7 _ I7 q7
    rw[eP,eW,eA,eX]at a3
    refine wpAny_mono a3 (λyv s8 ⟨y,H8,I8',r8,m',hm,w8⟩=>?_) λ_ _ z=>z
    obtain⟨I8,st8,fr8,o8,n8⟩:=back I8'
    refine append_at (hsz:=by show us.toArray.size<=sizeLine;rw[Zd,<-v3.length];exact z3) o8 λh9 sb9 o9=>?_
    have I9:Inv X' [] (dJ own σ capI) H8 { s8 with heap:=h9}:=I8.turned (t':=s8.toks) (λb o hb e=>(sb9.2 b hb).trans e) n8 (by rw[eL];exact hlC) (.inr (by rw[eS];exact hls)) (λx c e=>by
     rintro rfl
     obtain⟨v',ho',hd',hd''⟩:=I8.cell x c e
     rw[o8]at hd'
     cases hd'
     cases hd'') (λp hp=>by rw[ePn]at hp;exact absurd hp (by simp))
    refine⟨m',hm,i+1,ys++[y],us++[yv],k+1,H8,I9,T.keep _ _ _ st8 λb hb o e=>(sb9.2 b (hfl b hb).1).trans e,fr8,w8,v3.append (.cons r8 .nil),?_,n8,?_⟩
    .rw[o9]
     simp[cH]
    .rw[List.length_append]
     exact hlt
 have T0:=T.keep 0 s2.heap h1 st2 λb _ o e=>keep1 b o e
 rw[henv2]
 exact codeAny_compStart_list (loop _ rfl) (T.self X.A 0 _ _ _ T0 (loop _ rfl))
end
def dq(M:Model)(A:Around)(c:Code)(t:Sem Fin)(fs:List Frame)(s:Shared)(Φ:End->Shared->Prop):Prop:=
 ∀Γ p,Γ.code=c->Γ.Woken A->∃e s',Runs M Γ p t fs s e s'/\Φ e s'
section
variable {M:Model} {A:Around} {c:Code} {fs:List Frame} {s:Shared} {Φ:End->Shared->Prop}
theorem dq.wrap{α:Type}{m:Sem α}{K:α->Sem Fin}{H:Value->Sem Fin}{gd:Bool->Bool}{lv:List Value->List Value}
  (h:wpAny M (A.over c fs) m (λa s'=>dq M A c (K a) fs s' Φ) (λx s'=>dq M A c (H x) fs s' Φ) s):dq M A c (m.wrap K H gd lv) fs s Φ:=by
 rintro Γ p rfl hΓ
 exact runs_wrap_of_wp K H gd lv m (h (Γ.over fs) p (hΓ.over fs)) (λa p' s' h'=>h' Γ p' rfl hΓ) (λx p' s' h'=>h' Γ p' rfl hΓ)
theorem dq.bindWrap{α β:Type}{m:Sem α}{K:α->Sem β}{K':β->Sem Fin}{H':Value->Sem Fin}{gd:Bool->Bool}{lv:List Value->List Value}
  (h:wpAny M (A.over c fs) m (λa s'=>dq M A c ((K a).wrap K' H' gd lv) fs s' Φ) (λx s'=>dq M A c (H' x) fs s' Φ) s):dq M A c ((m >>= K).wrap K' H' gd lv) fs s Φ:=by
 rw[Sem.bind_eq_wrap',Sem.wrap_wrap];exact dq.wrap h
theorem dq.at{p':Pos}{k:Unit->Sem Fin}(h:dq M A c (k ()) fs s Φ):dq M A c (.at p' k) fs s Φ:=
 dq.wrap (m:=standAt p') (K:=k) (H:=.raise) (gd:=id) (lv:=id) (wpAny_standAt h)
theorem dq.again{c':Code}(hq:c'.quiet=true)(hc:dq M A c' (M.den c') fs s Φ):dq M A c (.pure (.again c')) fs s Φ:=by
 rintro Γ p rfl hΓ
 obtain⟨e,s',hr,he⟩:=hc (Γ.goto c') p rfl (hΓ.goto c')
 exact⟨e,s',Runs.head (c₁:=c') (λ_ _ x=>.again hq x) hr,he⟩
theorem dq.end(r:Result)(h:Φ (.ret r) s):dq M A c (leafOf r) [] s Φ:=by
 rintro Γ p rfl _
 exact⟨.ret r,s,Runs.leaf r,h⟩
theorem dq.yield{v:Value}{g:Bool}{l:List Value}{k:Resume->Sem Fin}(hfs:splitAtGen fs=none)(h:∀p,Φ (.susp v g l k c p fs) s):dq M A c (.yield v g l k) fs s Φ:=by
 rintro Γ p rfl _
 exact⟨_,s,Runs.yield' fs hfs,h p⟩
def Sq(M:Model)(A:Around)(gs:GenState)(s:Shared)(Φ:End->Shared->Prop):Prop:=
 match gs with
 | .fresh c=>dq M A c (M.den c) [] s Φ
 | .suspended k _ c _ fs _=>dq M A c (k (.send .none)) fs s Φ
 |_=>False
theorem Rh{E:Value->Shared->Prop}{g:Nat}{gs:GenState}{l:List Value}{α:Type}{k:GenResult->Sem α}{Q:α->Shared->Prop}(hg:s.gens[g]? =some gs)
  (hgo:Sq M A gs (s.setGen g .running) Φ) (hq:∀e s₁,Φ e s₁->e.quiet=true) (hΦ:∀e s₁,Φ e s₁->wpAny M A (k e.result) Q E (s₁.setGen g e.genState)):
  wpAny M A (.resume g (.send .none) l k) Q E s:=by
 intro Γ p hΓ
 rw[Sem.wp_resume]
 have hB:∀c,(Γ.wake c p).Woken A:=λc=>hΓ.wake c p
 cases gs with
 |fresh c=>
  obtain⟨e₁,s₁,hr,he⟩:=hgo (Γ.wake c p) p rfl (hB c)
  exact⟨_,_,by unfold Wakes;rw[hg];exact⟨e₁,s₁,hr,hq e₁ s₁ he,rfl,rfl⟩,hΦ e₁ s₁ he Γ p hΓ⟩
 |suspended k₀ l₀ c₀ p₀ fs₀ cl=>
  obtain⟨e₁,s₁,hr,he⟩:=hgo (Γ.wake c₀ p) p₀ rfl (hB c₀)
  exact⟨_,_,by unfold Wakes;rw[hg];exact⟨e₁,s₁,hr,hq e₁ s₁ he,rfl,rfl⟩,hΦ e₁ s₁ he Γ p hΓ⟩
 |running=>exact hgo.elim
 |finished=>exact hgo.elim
end
section
variable {prog:Program} {w:World} {A:Around} {E:Value->Shared->Prop} {s:Shared} {Φ:End->Shared->Prop}
theorem vG{a:Addr}{g:Nat}{gs:GenState}{Q:Option Value->Shared->Prop}(hh:A.handled=none)(hl:s.heap.NoLimit)(hroom:A.depth<recursionLimit)
  (hg:s.heap.IsGen a g) (hgs:s.gens[g]? =some gs) (hgo:Sq (model prog w) A.in1 gs (s.setGen g .running) Φ) (hq:∀e s₁,Φ e s₁->e.quiet=true)
  (hΦ:∀e s₁,Φ e s₁->(∃v gd l k c p fs,e= .susp v gd l k c p fs/\Q (some v) (s₁.setGen g e.genState))∨
   (e= .ret (.ok .next)/\∀h',(∀b o,s₁.heap.get? b=some o->h'.get? b=some o)->Q none { s₁.setGen g .finished with heap:=h'})):
  wpAny (model prog w) A (pyNext (.ref a)) Q E s:=by
 unfold pyNext
 refine wpAny_bind (wpAny_attempt (wpAny_callSpecial?_slot (name:=Str.ofString "__next__") hg.typeIs slot_gen_next
  (wpAny_call_entry slot_gen_next hg.typeIs entry_gen_next ?_ (args_gen_next _))))
 show wpAny _ A.in1 (Builtin.Generator.genWake (.ref a) (.send .none)) _ _ s
 unfold Builtin.Generator.genWake
 refine wpAny_bind (wpAny_holding (wpAny_genNumber hg (wpAny_bind (wpAny_genState hgs ?_))))
 cases gs with
 |running=>exact hgo.elim
 |finished=>exact hgo.elim
 |_=>
  refine wpAny_bind (wpAny_roomToWake hl hroom ?_)
  show wpAny _ A.in1 (.resume g (.send .none) [] _) _ _ s
  refine Rh hgs hgo hq λe s₁ he=>?_
  rcases hΦ e s₁ he with⟨v,gd,l,k,c,p,fs,rfl,hQ⟩|⟨rfl,hP⟩
  .exact wpAny_pure ⟨v,rfl,wpAny_pure hQ⟩
  .show wpAny _ A.in1 (newExc (.type "StopIteration") [] >>= _) _ _ _
   refine wpAny_bind ?_
   simp only[newExc,newTuple]
   refine wpAny_bind (wpAny_newObj_type ?_ (by size_fits))
   refine wpAny_bind (m:=firstArgMember _ _) (wpAny_of_eq (a:=Value.none) (by first|rfl|(simp only[firstArgMember];rfl)) ?_)
   refine wpAny_newObj_type ?_ (by size_fits)
   simp only[raiseNew]
   refine wpAny_bind (wpAny_bind (wpAny_handled ?_))
   first|rw[show A.in1.handled=none from hh]|rw[hh]
   refine wpAny_throw ?_
   refine wpAny_bind (wpAny_isInstance (T:="StopIteration") (b:=true) ⟨_,Zf _ rfl,rfl⟩ isSubtype_stop ?_)
   exact wpAny_pure (hP _ λb o hb=>Zb _ (Zb _ hb))
end
def yh(X:Cx)(AG:Around)(own cap:List Str)(scope:Scope)(cs:List (Str×Addr))(C:Addr)(code:Value)(fp:List Addr)(s2:Shared)(H2:Hp):Cx where
 prog:=X.prog
 w:=X.w
 K:=X.K
 mg:=X.mg
 base:=X.base
 A:=AG
 N:=own++cap
 s₀:={ s2 with gens:=s2.gens.push .running}
 H₀:=H2
 env:=genEnv scope cs C code builtinsNs X.env
 outer:=X.stack
 stack:=genEnv scope cs C code builtinsNs X.env::X.stack
 ex:=fp
 fn:=λx=>own.contains x
 calm:=true
 pn:=[]
 xe:=λ_ _=>False
section
variable {X:Cx} {pins:List (Addr×Obj)} {σ:St} {H:Hp} {s:Shared} {own cap:List Str} {capI:List Nat} {scope:Scope}
theorem Inv.gen{AG:Around}{fp:List Addr}{h1:Heap}{C:Addr}{tk:Nat}{code:Value}{m:Str->Option Value}(I:Inv X pins σ H s)(B:je X own cap capI scope)(hown:∀x∈own,(x,NameKind.free)∉scope.names)(hnc:∀y∈scope.names,y.2≠ .cell)
  (hf:∀b∈fp,nT X pins H b) (ho:∀b∈fp,∃o,s.heap.get? b=some o)
  (keep:∀b o,s.heap.get? b=some o->h1.get? b=some o) (hCs:s.heap.objs.size<=C) (hm:h1.Ns C m) (hAf:AG.frames=some (genEnv scope (dI X.env scope.names []) C code builtinsNs X.env::X.stack)) (hAh:AG.handled=none):
  Inv (yh X AG own cap scope (dI X.env scope.names []) C code fp s H) [] (dJ own σ capI) H { s with heap:=h1,toks:=tk,gens:=s.gens.push .running}:=by
 have clo_old:∀p∈dI X.env scope.names [],X.env.cells.lookup p.1=some p.2:=λp hp=>(qM hp).elim (λz=>by simp at z) id
 have old_lt:∀x c,X.env.cells.lookup x=some c->c<s.heap.objs.size:=λx c e=>let⟨v,q⟩:=I.cell x c e;q.lt
 have csm:∀x c,(dI X.env scope.names []).lookup x=some c->X.env.cells.lookup x=some c/\c<s.heap.objs.size:=λx c e=>by
  have q:=clo_old _ (Zt e)
  exact⟨q,old_lt _ _ q⟩
 have fresh:∀b,s.heap.objs.size<=b->H b=none:=λb hb=>I.hok.fresh hb
 have brun:AllBare (s.gens.push .running):=AllBare.push I.bare.bare rfl
 refine⟨⟨I.ok.mod,?_,I.ok.glob,rfl,hCs,?_,?_,?_,λ_=>hAh,hAf,.inr ⟨rfl,rfl⟩,?_,I.bs,Zl I.ok.bsz I.sz,?_,?_,I.stack,I.stkFree⟩,rfl,GK.refl brun,Un.kept keep,?_,?_,fresh C hCs,?_,?_,I.hok.kept keep,?_⟩
 .exact B.kind
 .intro x y c e1 e2
  exact I.ok.inj x y c (csm x c e1).1 (csm y c e2).1
 .intro x hx
  have hx':scope.names.lookup x=some .cell∨scope.names.lookup x=some .free:=hx
  rcases hx' with e|e
  .exact absurd rfl (hnc _ (Zt e))
  .have q:=Zt e
   obtain⟨c,hc⟩:=B.cells I _ q rfl
   exact⟨c,pN hc (.inl q)⟩
 .intro x c hx e
  exfalso
  have hxo:x∈own:=by simpa[yh]using hx
  have nf:=hown x hxo
  have q:(dI X.env scope.names []).lookup x=none:=by
   rw[uU λk hk=>by rintro rfl;exact nf hk];rfl
  have e':(dI X.env scope.names []).lookup x=some c:=e
  rw[q]at e';cases e'
 .intro b hb
  obtain⟨o,hbo⟩:=ho b hb
  have hlt:=Ze hbo
  exact⟨Zk (Zc hlt hCs),λx c e=>(hf b hb).2.2.2.2.1 x c (csm x c e).1⟩
 .intro b o e hb
  rcases(hf b hb).2.2.2.1 with z|z
  .exact I.ok.noex b o e z
  .exact absurd (Zc (Ze e) (Zl I.ok.bsz z)) (Nat.lt_irrefl _)
 .intro b hb hz
  rcases Zi.mp (I.stkSub b hz)with z|z
  .exact(hf b hb).2.1 z
  .exact(hf b hb).2.2.1 z
 .obtain⟨m',hn,hl⟩:=I.loc
  refine⟨m,hm,λi x v e1 e2 hv=>?_⟩
  have e2':(dJ own σ capI)[i]? =some (some v):=e2
  have e1':(own++cap)[i]? =some x:=e1
  unfold dJ at e2'
  by_cases hi:i<own.length
  .rw[Zs (by simpa using hi),List.getElem?_replicate]at e2'
   split at e2'<;>cases e2'
  .rw[List.getElem?_append_right (by simpa using hi)]at e2'
   rw[List.getElem?_append_right (by simpa using hi)]at e1'
   rw[List.length_replicate]at e2'
   obtain⟨i0,q1,q2⟩:=Ae e2'
   obtain⟨y,q3,q4,q5⟩:=B.caps.get q1
   rw[e1']at q3
   cases q3
   have hxf:(x,NameKind.free)∈scope.names:=B.cfr x (List.mem_of_getElem? e1')
   have vis:Vis X.env.scope x:=by
    rcases q5 with q5|q5
    .exact .inr (.inl q5)
    .exact .inr (.inr q5)
   obtain⟨u,ru,lk⟩:=hl i0 x v q4 q2 vis
   refine⟨u,ru,.inr ⟨.inr (gh B.nd hxf),?_⟩⟩
   rcases lk with⟨k,_⟩|⟨_,c,ec,hc⟩
   .rcases q5 with q5|q5<;>rw[k]at q5<;>cases q5
   .exact⟨c,pN ec (.inl hxf),hc.keeps keep⟩
 .intro x c e
  obtain⟨v,q⟩:=I.cell x c (csm x c e).1
  exact⟨v,q.keeps keep⟩
 .intro x c e
  exact I.freeC x c (csm x c e).1
 .intro p hp
  exact absurd (show p∈([]:List (Addr×Obj))from hp) (by simp)
 .show(dJ own σ capI).length=(own++cap).length
  unfold dJ xg
  rw[List.length_append,List.length_append,List.length_replicate,Zu,B.caps.length]
end
abbrev IV(elt tg iter:Expr)(scope:Scope)(pos:Pos):Expr:=.GeneratorExp elt [⟨tg,iter,[],0⟩] scope pos
abbrev lW(elt tg iter:Expr)(scope:Scope)(pos:Pos)(it:Addr)(cenv:Env):Code:=.compLoop (IV elt tg iter scope pos) 0 (.ref it) .none cenv
abbrev genS(elt tg iter:Expr)(scope:Scope)(pos:Pos)(it:Addr)(cenv:Env):Code:=.compStart (IV elt tg iter scope pos) 0 (.ref it) .none cenv
section
variable {X':Cx} {A1:Around} {elt tg iter:Expr} {scope:Scope} {pos:Pos} {it:Addr} {fp:List Addr} {tn:Nat->Heap->Prop} {J:It} {σb:St} {g:TG} {te:TE}
theorem Mg(T:Turn X'.prog X'.w X'.K tg J fp it tn)(hA:X'.A=A1.over (lW elt tg iter scope pos it X'.env) [])(hc:X'.calm=true)(hex:X'.ex=fp)(hpn:X'.pn=[])(hco:X'.env.scope.isCoroutine=false)
  (hxe:X'.xe=λ_ _=>False) (hg:PG X' tg g) (he:PE X' elt te) {i:Nat} {H:Hp} {s:Shared} {Q:VK} {P:List (Addr×Obj)} (hP:∀p∈P,p.1∉fp) (I:Inv X' P σb H s) (st:tn i s.heap) (fr:∀b∈fp,H b=none)
  (go:J.go i H) (step:∀x H',J.yld i H x H'->g x σb H' λσ2 H2=>Fits σb σ2/\te σ2 H2 Q):
  dq (model X'.prog X'.w) A1 (lW elt tg iter scope pos it X'.env) ((model X'.prog X'.w).den (lW elt tg iter scope pos it X'.env)) [] s λe s'=>
   ∃v k p y H',e= .susp v false [] k (lW elt tg iter scope pos it X'.env) p []/\k (.send .none)= .pure (.again (lW elt tg iter scope pos it X'.env))/\RelV y v/\Q y H'/\Inv X' P σb H' s'/\tn (i+1) s'.heap/\∀b∈fp,H' b=none:=by
 have stat:∀{H':Hp},X'.Ok->(∀b∈fp,H' b=none)->∀b∈fp,nT X' P H' b:=λ{H'} ok hn b hb=>
  ⟨hn b hb,(ok.exf b (by rw[hex];exact hb)).1,ok.exfs b (by rw[hex];exact hb),.inl (by rw[hex];exact hb),(ok.exf b (by rw[hex];exact hb)).2,λp hp e=>by rw[hpn]at hp;exact hP p hp (e▸hb)⟩
 show dq _ A1 _ ((compTurn (IV elt tg iter scope pos) 0 (.ref it) .none X'.env).onRaise (leaving X'.env)) [] s _
 rw[compTurn_gen,Sem.onRaise_eq_wrap]
 refine dq.bindWrap (wpAny_standAt ?_)
 have q:=T.item X' rfl rfl rfl hc i P s σb H (λ_ _=>False) I (stat I.ok fr) st go
 rw[hA]at q
 refine dq.bindWrap (wpAny_mono q (λr s1 ⟨u,hr,h1⟩=>?_) λ_ _ z=>z.elim)
 subst hr
 refine dq.bindWrap (wpAny_mono h1 (λ_ s2 ⟨x,H2,I2,r2,y2,st2,fr2⟩=>?_) λ_ _ z=>z.elim)
 have I2':=I2.pinned (stat I2.ok fr2) (T.obj _ _ st2)
 have a1:=hg _ s2 σb H2 x u _ I2' r2 (step x H2 y2)
 rw[hA,hxe]at a1
 refine dq.bindWrap (wpAny_mono a1 (λ_ s3 ⟨σ3,H3,I3,ft3,q3⟩=>?_) λ_ _ z=>z.elim)
 refine dq.bindWrap (wpAny_tests_nil ?_)
 simp only[if_true]
 have hy:∀v,yieldOut X'.env v=yieldValue v:=λv=>by simp only[yieldOut,hco,Bool.false_eq_true,if_false]
 simp only[hy]
 rw[Sem.bind_eq_wrap',Sem.bind_eq_wrap',Sem.wrap_wrap,Sem.wrap_wrap]
 have a2:=he _ s3 σ3 H3 _ I3 q3
 rw[hA,hxe]at a2
 refine dq.wrap (wpAny_mono a2 (λv s4 ⟨y,H4,I4,r4,q4⟩=>?_) λ_ _ z=>z.elim)
 refine dq.at (dq.yield rfl λp=>⟨v,_,p,y,H4,rfl,rfl,r4,q4,(I4.weak ft3.1.symm ft3.2).unpinned,T.keep _ _ _ st2 λb hb o e=>?_,λb hb=>?_⟩)
 .exact(I4.pin (b,o) (Zn _ (Zn _ (iT hb e)))).1
 .obtain⟨o,e,d⟩:=T.obj _ _ st2 b hb
  exact(I4.pin (b,o) (Zn _ (Zn _ (iT hb e)))).2.1
theorem Kg(T:Turn X'.prog X'.w X'.K tg J fp it tn)(hA:X'.A=A1.over (lW elt tg iter scope pos it X'.env) [])(hc:X'.calm=true)(hex:X'.ex=fp)(hpn:X'.pn=[])
  {i:Nat} {H:Hp} {s:Shared} {P:List (Addr×Obj)} (hP:∀p∈P,p.1∉fp) (I:Inv X' P σb H s) (st:tn i s.heap) (fr:∀b∈fp,H b=none) (stop:J.stop i H):
  dq (model X'.prog X'.w) A1 (lW elt tg iter scope pos it X'.env) ((model X'.prog X'.w).den (lW elt tg iter scope pos it X'.env)) [] s λe s'=>e= .ret (.ok .next)/\Inv X' P σb H s':=by
 have stat:∀b∈fp,nT X' P H b:=λb hb=>
  ⟨fr b hb,(I.ok.exf b (by rw[hex];exact hb)).1,I.ok.exfs b (by rw[hex];exact hb),.inl (by rw[hex];exact hb),(I.ok.exf b (by rw[hex];exact hb)).2,λp hp e=>by rw[hpn]at hp;exact hP p hp (e▸hb)⟩
 show dq _ A1 _ ((compTurn (IV elt tg iter scope pos) 0 (.ref it) .none X'.env).onRaise (leaving X'.env)) [] s _
 rw[compTurn_gen,Sem.onRaise_eq_wrap]
 refine dq.bindWrap (wpAny_standAt ?_)
 have q:=T.done X' rfl rfl rfl hc i P s σb H (λ_ _=>False) I stat st stop
 rw[hA]at q
 refine dq.bindWrap (wpAny_mono q (λr s1 ⟨hr,I1⟩=>?_) λ_ _ z=>z.elim)
 subst hr
 exact dq.end (.ok .next) ⟨rfl,I1⟩
theorem zP{A0:Around}{P:Program}{w:World}{K:PySem.W.Frag}{cenv:Env}{Φ:End->Shared->Prop}{s:Shared}{i:Nat}(T:Turn P w K tg J fp it tn)(st:tn i s.heap)
  (h:dq (model P w) A0 (lW elt tg iter scope pos it cenv) ((model P w).den (lW elt tg iter scope pos it cenv)) [] s Φ):
  dq (model P w) A0 (genS elt tg iter scope pos it cenv) ((model P w).den (genS elt tg iter scope pos it cenv)) [] s Φ:=by
 show dq _ A0 _ ((compStart (IV elt tg iter scope pos) 0 (.ref it) .none cenv).onRaise (leaving cenv)) [] s _
 unfold compStart
 rw[Sem.onRaise_eq_wrap]
 show dq _ A0 _ ((ask >>= _).wrap _ _ _ _) [] s _
 refine dq.bindWrap (wpAny_askSetting ?_)
 split
 .exact dq.again rfl h
 .first
   |exact dq.bindWrap (wpAny_rule (dq.bindWrap (wpAny_standAt (dq.bindWrap (T.self _ i s _ _ st (dq.again rfl h))))))
   |(refine dq.bindWrap (wpAny_rule ?_);show dq _ A0 _ ((standAt iter.pos >>= _).wrap _ _ _ _) [] s _;exact dq.bindWrap (wpAny_standAt (dq.bindWrap (T.self _ i s _ _ st (dq.again rfl h)))))
end
structure qZ where
 nxt:Nat->Hp->(V->Hp->Prop)->Prop
 fin:Nat->Hp->Prop
structure BK(X:Cx)(pins:List (Addr×Obj))(σ:St)(A':Around)(it:Addr)(lo:Nat)(S:qZ)(SS:List (Addr×Obj)->Nat->Hp->Shared->Prop):Prop where
 inv:∀{P i H s},SS P i H s->Inv X (pins++P) σ H s
 next:∀{P i H s Q}(E:Value->Shared->Prop),SS P i H s->S.nxt i H Q->wpAny (model X.prog X.w) A' (pyNext (.ref it)) (λr s1=>∃u y H',r=some u/\RelV y u/\Q y H'/\SS P (i+1) H' s1) E s
 stop:∀{P i H s}(E:Value->Shared->Prop),SS P i H s->S.fin i H->wpAny (model X.prog X.w) A' (pyNext (.ref it)) (λr s1=>r=none/\Inv X (pins++P) σ H s1) E s
 keep:∀{P i H s h' tk},SS P i H s->(∀b o,s.heap.get? b=some o->h'.get? b=some o)->SS P i H { s with heap:=h',toks:=tk}
 pin:∀{P i H s D o},SS P i H s->lo<=D->s.heap.get? D=some o->H D=none->(∀v,o.data≠ .cell v)->SS ((D,o)::P) i H s
 unpin:∀{p P i H s},SS (p::P) i H s->SS P i H s
 acc:∀{P i H s h' tk D},SS P i H s->lo<=D->H D=none->(∀p∈P,p.1≠D)->(∀b o,b≠D->s.heap.get? b=some o->h'.get? b=some o)->SS P i H { s with heap:=h',toks:=tk}
def Ready(X:Cx)(pins:List (Addr×Obj))(σ:St)(S:qZ)(v:Value)(H:Hp)(s:Shared):Prop:=
 ∀(A':Around)(E:Value->Shared->Prop),A'.handled=none->A'.frames=some X.stack->A'.depth<=X.A.depth+1->A'.units<=X.A.units+8->
  wpAny (model X.prog X.w) A' (pyIter v) (λitv s2=>∃it lo SS,itv= .ref it/\BK X pins σ A' it lo S SS/\SS [] 0 H s2/\lo<=s2.heap.objs.size) E s
abbrev uQ:=St->Hp->(qZ->Hp->Prop)->Prop
def Dg(X:Cx)(e:Expr)(ts:uQ):Prop:=
 ∀(pins:List (Addr×Obj))(s:Shared)(σ:St)(H:Hp)(R:qZ->Hp->Prop),Inv X pins σ H s->ts σ H R->
  wpAny (model X.prog X.w) X.A (eval e X.env) (λv s1=>∃S H1,Inv X pins σ H1 s1/\Ready X pins σ S v H1 s1/\R S H1) X.xe s
def VN(X:Cx)(pins:List (Addr×Obj))(σ:St)(S:qZ)(a:Addr)(H:Hp)(s:Shared):Prop:=
 ∀(A':Around),A'.handled=none->A'.frames=some X.stack->A'.depth<=X.A.depth+1->A'.units<=X.A.units+8->
  ∃lo SS,BK X pins σ A' a lo S SS/\SS [] 0 H s/\a<lo/\lo<=s.heap.objs.size/\∀P i H s,SS P i H s->∃g,s.heap.IsGen a g
def Ai(X:Cx)(e:Expr)(ts:uQ):Prop:=
 ∀(pins:List (Addr×Obj))(s:Shared)(σ:St)(H:Hp)(R:qZ->Hp->Prop),Inv X pins σ H s->ts σ H R->
  wpAny (model X.prog X.w) X.A (eval e X.env) (λv s1=>∃a S H1,v= .ref a/\Inv X pins σ H1 s1/\VN X pins σ S a H1 s1/\R S H1) X.xe s
theorem Dj{X:Cx}{e:Expr}{ts:uQ}(h:Ai X e ts):Dg X e ts:=by
 intro pins s σ H R I hq
 refine thn (h pins s σ H R I hq) λv s1 ⟨a,S,H1,e,I1,rdy,r⟩=>⟨S,H1,I1,?_,r⟩
 subst e
 intro A' E h1 h2 h3 h4
 obtain⟨lo,SS,sm,s0,_,hl,hg⟩:=rdy A' h1 h2 h3 h4
 obtain⟨g,ig⟩:=hg _ _ _ _ s0
 exact wpAny_pyIter_gen ig ⟨a,lo,SS,rfl,sm,s0,hl⟩
section
variable {X:Cx} {pins:List (Addr×Obj)} {σ:St} {H:Hp} {s:Shared}
theorem Inv.grown{h':Heap}{g':Array GenState}{tk:Nat}(I:Inv X pins σ H s)(k:∀b o,s.heap.get? b=some o->h'.get? b=some o)(hg:GK s.gens g'):Inv X pins σ H { s with heap:=h',gens:=g',toks:=tk}:=
 I.call (ch:=[]) (g':=g') (t':=tk) (d':=s.drawn) (Un.kept k) (I.hok.kept k) hg λb hb=>absurd hb (by simp)
theorem Inv.more{Q:List (Addr×Obj)}(I:Inv X pins σ H s)(h:∀p∈Q,s.heap.get? p.1=some p.2/\H p.1=none/\p.1≠X.env.locals/\p.1∉X.fs/\∀v,p.2.data≠ .cell v):Inv X (pins++Q) σ H s:=
 I.pins_of λp hp=>(Zm.mp hp).elim (λz=>I.pin p (Zn _ z)) (h p)
theorem Inv.tbl{P:Addr}{ps ps':Array Value}{h':Heap}{tk:Nat}(I:Inv X pins σ H s)(hP:H P=some (.tbl ps))(hm:∃more,ps'=ps++more)(k:∀b o,b≠P->s.heap.get? b=some o->h'.get? b=some o)
  (ho:h'.get? P=some { cls:=.none,data:=.fields ps'}):Inv X pins σ (upd H P (.tbl ps')) { s with heap:=h',toks:=tk}:=by
 have nP:∀b,H b=none->b≠P:=λb e z=>by rw[z,hP]at e;cases e
 refine I.un ⟨λb o e n _ _=>k b o (nP b n) e,λb o e n _ _=>⟨o.slots,k b o (nP b n) e⟩,λb o e n _=>by rw[aX (nP b n)];exact n,λb o e _=>?_,λb xs e=>?_,λb o u e=>?_,λb qs e=>?_⟩ λa o e=>?_
 .by_cases z:b=P
  .subst z;exact⟨_,ho⟩
  .exact⟨o,k b o z e⟩
 .have z:b≠P:=λz=>by rw[z,hP]at e;cases e
  rw[aX z];exact e
 .have z:b≠P:=λz=>by rw[z,hP]at e;cases e
  rw[aX z];exact e
 .by_cases z:b=P
  .subst z
   rw[hP]at e;cases e
   obtain⟨more,e⟩:=hm
   exact⟨more,by rw[gV,e]⟩
  .exact⟨#[],by rw[aX z,e];simp⟩
 .by_cases z:a=P
  .subst z
   rw[gV]at e;cases e
   exact ho
  .rw[aX z]at e
   refine(I.hok a o e).stay (λb u hb q=>k b u ?_ q) (λb q=>?_) λb xs q=>?_
   .rcases hb with r|r
    .rw[r];exact z
    .exactλy=>by rw[y,hP]at r;cases r
   .have y:b≠P:=λy=>by rw[y,hP]at q;cases q
    rw[aX y];exact q
   .have y:b≠P:=λy=>by rw[y,hP]at q;cases q
    rw[aX y];exact q
def UV(H:Hp)(v:Value):Prop:=∃c o vs u,v= .ref c/\H c=some (.frz o (.own 0))/\o.data= .fields vs/\vs[1]? =some u
def TOk(H:Hp)(ps:Array Value):Prop:=TriplesOk ps.toList/\∀pos v,codeAmong pos ps.toList=some v->UV H v
theorem TOk.mono{H H':Hp}{ps:Array Value}(h:TOk H ps)(k:∀c o,H c=some (.frz o (.own 0))->H' c=some (.frz o (.own 0))):TOk H' ps:=
 ⟨h.1,λpos v e=>let⟨c,o,vs,u,e1,e2,e3⟩:=h.2 pos v e;⟨c,o,vs,u,e1,k c o e2,e3⟩⟩
theorem TOk.nil{H:Hp}:TOk H #[]:=⟨by unfold TriplesOk;trivial,λpos v e=>by simp[codeAmong]at e⟩
theorem Fg{pos:Pos}{a b:Int}{c v:Value}:∀(l:List Value),TriplesOk l->codeAmong pos (l++[rawInt a,rawInt b,c])=some v->codeAmong pos l=some v∨v=c:=λl h=>by
 fun_induction TriplesOk l with
 |case1=>
  intro e
  right
  simp only[List.nil_append,rawInt,codeAmong]at e
  split at e
  .cases e;rfl
  .cases e
 |case2 line t col u x rest ih=>
  intro e
  simp only[List.cons_append,codeAmong]at e ⊢
  split at e
  .rename_i hc
   left;rw[if_pos hc];exact e
  .rename_i hc
   rw[if_neg hc]
   exact ih h e
 |case3=>exact h.elim
structure Ri(lo:Nat)(P:Addr)(ps ps':Array Value)(H H':Hp):Prop where
 tab:H' P=some (.tbl ps')
 more:∃more,ps'=ps++more
 ok:TOk H' ps'
 keep:∀b o,b≠P->H b=some o->H' b=some o
 none:∀b,b<lo->H b=none->H' b=none
theorem Inv.reg{c:Addr}{o:Obj}(I:Inv X pins σ H s)(ho:s.heap.get? c=some o)(hn:H c=none)(hnew:X.s₀.heap.objs.size<=c)(hL:c≠X.env.locals)(hc:∀x d,X.env.cells.lookup x=some d->d≠c)(hp:∀p∈X.pn++pins,p.1≠c):
  Inv X pins σ (upd H c (.frz o (.own 0))) s:=by
 have ne:∀b u,H b=some u->b≠c:=λb u e z=>by rw[z,hn]at e;cases e
 refine⟨I.ok,I.os,I.bare,⟨I.base.keep,I.base.slot,λb ob e n hx=>?_,I.base.there,λb xs e=>?_,λb ob u e=>?_,λb ps e=>?_⟩,I.loc,I.cell,?_,λx d e=>?_,λp hp'=>?_,λa u e=>?_,I.len⟩
 .rw[aX (Zk (Zc (Ze e) hnew))];exact I.base.free b ob e n hx
 .have q:=I.base.tups b xs e
  rw[aX (ne _ _ q)];exact q
 .have q:=I.base.frzs b ob u e
  rw[aX (ne _ _ q)];exact q
 .obtain⟨more,q⟩:=I.base.tbls b ps e
  exact⟨more,by rw[aX (ne _ _ q)];exact q⟩
 .rw[aX (Ne.symm hL)];exact I.free
 .rw[aX (hc x d e)];exact I.freeC x d e
 .obtain⟨a,b,r⟩:=I.pin p hp'
  exact⟨a,by rw[aX (hp p hp')];exact b,r⟩
 .by_cases z:a=c
  .subst z
   rw[gV]at e;cases e
   exact⟨ho,o,ho⟩
  .rw[aX z]at e
   exact(I.hok a u e).stay (λb v _ q=>q) (λb q=>by rw[aX (ne _ _ q)];exact q) λb xs q=>by rw[aX (ne _ _ q)];exact q
theorem Jp{P c':Addr}{ps vs:Array Value}{u:Value}{oc:Obj}{h':Heap}{tk:Nat}{pos:Pos}{G:Prop}(I:Inv X pins σ H s)(hP:H P=some (.tbl ps))(ht:TOk H ps)(hge:s.heap.objs.size<=c')(hoc:h'.get? c'=some oc)(hdd:oc.data= .fields vs)(hv:vs[1]? =some u)
  (k:∀b o,b≠P->s.heap.get? b=some o->h'.get? b=some o) (ho:h'.get? P=some { cls:=.none,data:=.fields (ps++ #[rawInt pos.line,rawInt pos.col,.ref c']) })
  (h:Ri s.heap.objs.size P ps (ps++ #[rawInt pos.line,rawInt pos.col,.ref c']) H (upd (upd H P (.tbl (ps++ #[rawInt pos.line,rawInt pos.col,.ref c']))) c' (.frz oc (.own 0)))->Inv X pins σ (upd (upd H P (.tbl (ps++ #[rawInt pos.line,rawInt pos.col,.ref c']))) c' (.frz oc (.own 0))) { s with heap:=h',toks:=tk}->G):G:=by
 have lt:=λ{b:Addr}{o:Obj}(e:s.heap.get? b=some o)=>Zc (Ze e) hge
 have cP:P≠c':=Zk (lt (I.hok P _ hP))
 have hn:H c'=none:=I.hok.fresh hge
 generalize hps:ps++ #[rawInt pos.line,rawInt pos.col,.ref c']=ps' at *
 have I1:Inv X pins σ (upd H P (.tbl ps')) { s with heap:=h',toks:=tk}:=I.tbl hP ⟨_,hps.symm⟩ k ho
 have I2:Inv X pins σ (upd (upd H P (.tbl ps')) c' (.frz oc (.own 0))) { s with heap:=h',toks:=tk}:=I1.reg hoc (by rw[aX (Ne.symm cP)];exact hn) (Zl I.sz hge) (Nat.ne_of_gt (Zc I.lt hge))
  (λx d e=>by
   obtain⟨v,o,e2,_⟩:=I.cell x d e
   exact Zk (lt e2)) λp hp=>Zk (lt (I.pin p hp).1)
 have kp:∀b o,b≠P->H b=some o->upd (upd H P (.tbl ps')) c' (.frz oc (.own 0)) b=some o:=λb o hb e=>by
  have hbc:b≠c':=λz=>by rw[z,hn]at e;cases e
  rw[aX hbc,aX hb];exact e
 refine h ⟨by rw[aX cP,gV],⟨_,hps.symm⟩,⟨?_,λp v e=>?_⟩,kp,λb hb e=>?_⟩ I2
 .rw[<-hps]
  have hl:(ps++ #[rawInt pos.line,rawInt pos.col,Value.ref c']).toList=ps.toList++[rawInt pos.line,rawInt pos.col,.ref c']:=by simp
  rw[hl];exact TriplesOk_snoc _ _ _ _ ht.1
 .rw[<-hps]at e
  have hl:(ps++ #[rawInt pos.line,rawInt pos.col,Value.ref c']).toList=ps.toList++[rawInt pos.line,rawInt pos.col,.ref c']:=by simp
  rw[hl]at e
  rcases Fg _ ht.1 e with e|e
  .obtain⟨c,o,ws,w,q1,q2,q3⟩:=ht.2 p v e
   exact⟨c,o,ws,w,q1,kp c _ (λz=>by rw[z,hP]at q2;cases q2) q2,q3⟩
  .exact⟨c',oc,vs,u,e,gV,hdd,hv⟩
 .have hbc:b≠c':=Zk (Zc hb hge)
  have hbP:b≠P:=λz=>by rw[z,hP]at e;cases e
  rw[aX hbc,aX hbP];exact e
theorem XD{c P:Addr}{ps:Array Value}{pos:Pos}{q:Str}{scope:Scope}{Q:Value->Shared->Prop}{A:Around}{E:Value->Shared->Prop}(I:Inv X pins σ H s)(hc:X.env.code= .ref c)(hd:PySem.W.CodeHd X.base c P)(hP:H P=some (.tbl ps))(ht:TOk H ps)
  (h:∀code s' H' ps',Ri s.heap.objs.size P ps ps' H H'->Inv X pins σ H' s'->s'.gens=s.gens->(∀b o,b≠P->s.heap.get? b=some o->s'.heap.get? b=some o)->Q code s'):
  wpAny (model X.prog X.w) A (genexprCode X.env pos q scope) Q E s:=by
 have hd':PySem.W.CodeHd s.heap c P:=hd.keeps I.bk
 have oP:s.heap.get? P=some (PySem.W.tabObj ps):=I.hok P _ hP
 have hok:s.heap.IsCode c P ps:=hd'.code oP ht.1
 have htab:s.heap.TableAt c P ps:=hd'.tab oP
 cases hnf:codeAmong pos ps.toList with
 |some cv=>
  obtain⟨o,vs,file,tf,flags,tg,inF,text,tt,op,ho,hdd,h11,h2,h7,h9,h10,hop,hpd,htr,hne⟩:=id hok
  unfold genexprCode codeAt
  rw[hc,if_neg (show¬((Value.ref c==Value.none)=true)from Zr)]
  refine wpAny_bind (wpAny_fieldsOf ho hdd ?_)
  rw[h11]
  refine wpAny_bind (wpAny_fieldsOf hop hpd ?_)
  rw[hnf]
  exact wpAny_pure (h cv s H ps ⟨hP,⟨#[],by simp⟩,ht,λ_ _ _ e=>e,λ_ _ e=>e⟩ I rfl λb o _ e=>e)
 |none=>
  refine wpAny_genexprCodeX hc hok htab hnf λc' h' tk hx hge hlt hcode hrec htab' _=>?_
  obtain⟨c2,oc,vs,t,e2,hoc,hdd,hv⟩:=hrec
  cases e2
  exact Jp I hP ht hge hoc hdd hv (λb o hb e=>hx b o hb e) htab'.2 λhG I'=>h (.ref c') _ _ _ hG I' rfl λb o hb e=>hx b o hb e
end
def Oe(J:It)(g:TG)(te:TE)(σb:St):qZ where
 nxt:=λi H Q=>J.go i H/\∀x H',J.yld i H x H'->g x σb H' λσ2 H2=>Fits σb σ2/\te σ2 H2 Q
 fin:=λi H=>J.stop i H
def tGen(own:List Str)(capI:List Nat)(P:Addr)(wi:TI)(g:TG)(te:TE):uQ:=λσ H R=>wi σ H λJ H1=>∃ps,H1 P=some (.tbl ps)/\TOk H1 ps/\
 ∀lo H2 ps',Ri lo P ps ps' H1 H2->R (Oe J g te (dJ own σ capI)) H2
theorem Dh{A:Around}{elt tg iter:Expr}{scope:Scope}{pos:Pos}{it:Addr}{cenv:Env}{l:List Env}(h:A.frames=some l):(A.over (lW elt tg iter scope pos it cenv) []).frames=some (cenv::l):=by
 unfold Around.over
 show pushEnvs (Code.envs (lW elt tg iter scope pos it cenv)) (pushEnvs (envsOf []) A.frames)=_
 rw[h];rfl
theorem Jl{X:Cx}{A':Around}{elt tg iter:Expr}{scope:Scope}{pos:Pos}{it:Addr}{cenv:Env}(hh:A'.handled=none)(hd:A'.depth<=X.A.depth+1)(hu:A'.units<=X.A.units+8):
  ∀k,iB (k+1) X.A->iB k (A'.in1.over (lW elt tg iter scope pos it cenv) []):=λk r=>by
 have e1:(A'.in1.over (lW elt tg iter scope pos it cenv) []).depth=A'.depth+1:=rfl
 have e2:(A'.in1.over (lW elt tg iter scope pos it cenv) []).units=A'.units+1+3:=rfl
 have e3:(A'.in1.over (lW elt tg iter scope pos it cenv) []).handled=A'.handled:=rfl
 have:=r.dp
 have:=r.un
 exact⟨e3.trans hh,by rw[e1];omega,by rw[e2];omega⟩
section
variable {X:Cx} {tg iter elt:Expr} {wi:TI} {g:TG} {te:TE} {own cap:List Str} {capI:List Nat} {scope:Scope} {pos:Pos} {P:Addr} {kr:Nat}
theorem Kl(hc:X.calm=true)(hr:iB kr X.A)(B:je X own cap capI scope)(hown:∀x∈own,(x,NameKind.free)∉scope.names)(hnc:∀y∈scope.names,y.2≠ .cell)(h0:scope.names.lookup (".0":Str)=some NameKind.local)
  (hco:scope.isCoroutine=false) (htb:∃c,X.env.code= .ref c/\PySem.W.CodeHd X.base c P) (hi:PI X tg iter wi) (hg:∀AG cs C code fp s2 H2,PG (yh X AG own cap scope cs C code fp s2 H2) tg g)
  (he:∀AG cs C code fp s2 H2,(∀k,iB (k+1) X.A->iB k AG)->PE (yh X AG own cap scope cs C code fp s2 H2) elt te) (hs:∀x,genFold iter X.env x=pure x:=by intro _;rfl):
  Ai X (IV elt tg iter scope pos) (tGen own capI P wi g te):=by
 intro pins s σ H R I h
 obtain⟨c,hcode,hhd⟩:=htb
 refine wpAny_GeneratorExp_make hco (mU (B.cells I)) hnc h0 B.kind hr.depth ?_ hs
 refine thn (hi pins s σ H _ I h) λv s1 h1=>thn h1 λitv s2 h2=>?_
 obtain⟨it,fp,tn,J,H2,e,I2,T,st2,f2,ps,hP,htr,hR⟩:=h2
 subst e
 refine⟨I2.nolimit,XD I2 hcode hhd hP htr λcode s4 H4 ps' hG I4 hgens hk4=>?_⟩
 obtain⟨bm,ob,b1,b2,b3,b4,b5,b6⟩:=I4.mod.bmain
 refine wpAny_builtinsFor (bm:=bm) (by rw[I4.ok.glob];exact I4.mod.glob.keeps I4.bk) b1 b2 (I4.bk _ _ b3) b4 b5 b6 ?_
 intro h5 hn5 hs5
 generalize hC:s4.heap.objs.size=C at hn5 hs5 ⊢
 have hCs:s4.heap.objs.size<=C:=Nat.le_of_eq hC
 have hR':=hR _ H4 ps' hG
 have k5:∀b o,s4.heap.get? b=some o->h5.get? b=some o:=λb o e=>hs5.extBut b o (Zk (Zc (Ze e) hCs)) (Zb _ e)
 have sz5:h5.objs.size=C+1:=by rw[hs5.1,Heap.size_push,hC]
 generalize ha:h5.objs.size=a
 have hCa:C<a:=by rw[<-ha,sz5];exact Nat.lt_succ_self _
 generalize hgi:s4.gens.size=gi
 generalize hgo:({ cls:=.type "generator",data:=.fields #[.int (gi:Int) 0,.str "<genexpr>" (s4.toks+1),.str (X.env.qual++"<genexpr>") (s4.toks+1+1)] }:Obj)=gob
 generalize hh6:h5.push gob=h6
 have k6:∀b o,h5.get? b=some o->h6.get? b=some o:=λb o e=>by rw[<-hh6];exact Zb _ e
 have k46:∀b o,s4.heap.get? b=some o->h6.get? b=some o:=λb o e=>k6 b o (k5 b o e)
 have oa6:h6.get? a=some gob:=by rw[<-hh6,<-ha];refine Zf _ ?_;rw[<-hgo];rfl
 have isg:∀{h:Heap},h.get? a=some gob->h.IsGen a gi:=λ{h} e=>⟨gob,.str "<genexpr>" (s4.toks+1),.str (X.env.qual++"<genexpr>") (s4.toks+1+1),e,by rw[<-hgo],by rw[<-hgo],by rw[<-hgo]⟩
 have hfr4:∀b∈fp,H4 b=none:=λb hb=>let⟨o,e,_⟩:=T.obj 0 _ st2 b hb;hG.none b (Ze e) (f2 b hb).1
 have f4:∀b∈fp,nT X pins H4 b:=λb hb=>⟨hfr4 b hb,(f2 b hb).2⟩
 have hbP:∀b∈fp,b≠P:=λb hb z=>by have n2:=(f2 b hb).1;rw[z,hP]at n2;cases n2
 have o4:∀b∈fp,∃o,s4.heap.get? b=some o:=λb hb=>let⟨o,e,_⟩:=T.obj 0 _ st2 b hb;⟨o,hk4 b o (hbP b hb) e⟩
 have st4:tn 0 s4.heap:=T.keep _ _ _ st2 λb hb o e=>hk4 b o (hbP b hb) e
 have hfa:∀b∈fp,b≠a/\b≠C:=λb hb=>let⟨o,e⟩:=o4 b hb
  have l:=Zc (Ze e) hCs
  ⟨Zk (Nat.lt_trans l hCa),Zk l⟩
 generalize hcenv:genEnv scope (dI X.env scope.names []) C code builtinsNs X.env=cenv
 have gk6:GK s4.gens (s4.gens.push (.fresh (genS elt tg iter scope pos it cenv))):=by
  refine⟨AllBare.push I4.bare.bare rfl,λk x e=>?_⟩
  have hlt:k<s4.gens.size:=by
   rcases Nat.lt_or_ge k s4.gens.size with z|z
   .exact z
   .rw[Array.getElem?_eq_none z]at e;cases e
  rw[Array.getElem?_push_lt hlt,<-Array.getElem?_eq_getElem hlt];exact e
 refine⟨a,Oe J g te (dJ own σ capI),H4,rfl,I4.grown k46 gk6,?_,hR'⟩
 intro A' hAh hAf hAd hAu
 have gi6:(s4.gens.push (.fresh (genS elt tg iter scope pos it cenv)))[gi]? =some (.fresh (genS elt tg iter scope pos it cenv)):=by rw[<-hgi];simp
 generalize hX':yh X (A'.in1.over (lW elt tg iter scope pos it cenv) []) own cap scope (dI X.env scope.names []) C code fp s4 H4=X'
 have eP:X'.prog=X.prog:=by rw[<-hX'];rfl
 have eW:X'.w=X.w:=by rw[<-hX'];rfl
 have eK:X'.K=X.K:=by rw[<-hX'];rfl
 have eFs:X'.fs=frs X.stack:=by rw[<-hX'];rfl
 have eEx:X'.ex=fp:=by rw[<-hX'];rfl
 have eS:X'.s₀={ s4 with gens:=s4.gens.push .running}:=by rw[<-hX'];rfl
 have eH:X'.H₀=H4:=by rw[<-hX'];rfl
 have eL:X'.env.locals=C:=by rw[<-hX'];rfl
 have eC:X'.calm=true:=by rw[<-hX'];rfl
 have eX:X'.xe=λ_ _=>False:=by rw[<-hX'];rfl
 have ePn:X'.pn=[]:=by rw[<-hX'];rfl
 have eE:X'.env=cenv:=by rw[<-hX',<-hcenv];rfl
 have eA:X'.A=A'.in1.over (lW elt tg iter scope pos it X'.env) []:=by rw[eE,<-hX'];rfl
 have eCo:X'.env.scope.isCoroutine=false:=by rw[<-hX'];exact hco
 have hg':PG X' tg g:=by rw[<-hX'];exact hg _ _ _ _ _ _ _
 have he':PE X' elt te:=by rw[<-hX'];exact he _ _ _ _ _ _ _ (Jl hAh hAd hAu)
 have T':Turn X'.prog X'.w X'.K tg J fp it tn:=by rw[eP,eW,eK];exact T
 have pfp:∀{Q:List (Addr×Obj)},(∀p∈Q,a<p.1)->∀p∈(a,gob)::Q,p.1∉fp:=λ{Q} hQ p hp hb=>by
  obtain⟨o,e⟩:=o4 _ hb
  have l:=Zc (Ze e) hCs
  rcases Zi.mp hp with z|z
  .subst z;exact absurd (Nat.lt_trans l hCa) (Nat.lt_irrefl _)
  .exact absurd (Nat.lt_trans (Nat.lt_trans l hCa) (hQ p z)) (Nat.lt_irrefl _)
 have afs:a∉X'.fs:=λhz=>by
  rw[eFs]at hz
  have l4:s4.heap.objs.size<=a:=Zl hCs (Nat.le_of_lt hCa)
  rcases Zi.mp (I4.stkSub a hz)with z|z
  .exact absurd I4.lt (by rw[<-z];exact Nat.not_lt.mpr l4)
  .exact I4.nofs l4 z
 have setg:∀(s:Shared)(x:GenState),(s.setGen gi x).gens=s.gens.setIfInBounds gi x:=λs x=>rfl
 have hSS:∀{Q:List (Addr×Obj)}{i:Nat}{H:Hp}{s:Shared},(∀p∈Q,a<p.1)->Inv X' ((a,gob)::Q) (dJ own σ capI) H s->s.heap.get? a=some gob/\s.gens[gi]? =some .running/\
   ∀(x:GenState)(h':Heap)(tk:Nat),x.bare=true->(∀b o,s.heap.get? b=some o->h'.get? b=some o)->Inv X (pins++Q) σ H { s.setGen gi x with heap:=h',toks:=tk}:=λ{Q i H s} hQ I'=>by
  have pa:=(I'.pin (a,gob) (by simp)).1
  have gr:s.gens[gi]? =some .running:=I'.bare.kept gi .running (by rw[eS,<-hgi];simp)
  refine⟨pa,gr,λx h' tk hx hk=>?_⟩
  have ub:=I'.base
  rw[eFs,eEx,eS,eH]at ub
  have hok:=I'.hok
  rw[eP,eW]at hok
  refine Inv.more ?_ λp hp=>by
   have q:=I'.pin p (by simp[hp])
   have l4:s4.heap.objs.size<=p.1:=Zl hCs (Nat.le_of_lt (Nat.lt_trans hCa (hQ p hp)))
   exact⟨hk _ _ q.1,q.2.1,λz=>absurd I4.lt (by rw[<-z];exact Nat.not_lt.mpr l4),I4.nofs l4,q.2.2.2.2⟩
  refine I4.call' (ch:=fp) (s':={ s.setGen gi x with heap:=h',toks:=tk}) (by have:=I'.os;rw[eS]at this;exact this)
   ⟨λb o e n hb hx'=>hk b o (ub.keep b o e n hb hx'),λb o e n hb hx'=>let⟨sl,q⟩:=ub.slot b o e n hb hx';⟨sl,hk b _ q⟩,ub.free,λb o e hx'=>let⟨o',q⟩:=ub.there b o e hx';⟨o',hk b o' q⟩,ub.tups,ub.frzs,ub.tbls⟩
   (hok.kept hk) ⟨λy hy=>?_,λk y e=>?_⟩ λb hb=>?_
  .have hy':y∈s.gens.setIfInBounds gi x:=hy
   rcases Array.mem_or_eq_of_mem_setIfInBounds hy' with z|z
   .exact I'.bare.bare y z
   .rw[z];exact hx
  .have hlt:k<gi:=by
    rw[<-hgi]
    rcases Nat.lt_or_ge k s4.gens.size with z|z
    .exact z
    .rw[Array.getElem?_eq_none z]at e;cases e
   have q:=I'.bare.kept k y (by rw[eS];show(s4.gens.push .running)[k]? =some y;rw[Array.getElem?_push_lt (by rw[hgi];exact hlt),<-Array.getElem?_eq_getElem (by rw[hgi];exact hlt)];exact e)
   show(s.gens.setIfInBounds gi x)[k]? =some y
   rw[Array.getElem?_setIfInBounds_ne (Nat.ne_of_gt hlt)]
   exact q
  .obtain⟨q0,q1,q2,q3,q4,q5⟩:=f4 b hb
   exact⟨q3,q1,q4,q5⟩
 refine⟨a+1,λQ i H s=>(∀p∈Q,a<p.1)/\Inv X (pins++Q) σ H s/\(∃gs,s.gens[gi]? =some gs/\gs.bare=true/\(gs= .fresh (genS elt tg iter scope pos it X'.env)∨∃k l p cl,gs= .suspended k l (lW elt tg iter scope pos it X'.env) p [] cl/\k (.send .none)= .pure (.again (lW elt tg iter scope pos it X'.env))))/\
   Inv X' ((a,gob)::Q) (dJ own σ capI) H (s.setGen gi .running)/\tn i s.heap/\∀b∈fp,H b=none,⟨λst=>st.2.1,?_,?_,?_,?_,?_,?_⟩,?_,Nat.lt_succ_self _,?_,λQ i H s st=>⟨gi,isg (hSS (i:=i) st.1 st.2.2.2.1).1⟩⟩
 .
  rintro PP i H s Q E ⟨hQ,I1,⟨gs,hgs,hb,hgs'⟩,Ib,st,fr⟩ ⟨go,step⟩
  have tr:=Mg (A1:=A'.in1) (elt:=elt) (tg:=tg) (iter:=iter) (scope:=scope) (pos:=pos) T' eA eC eEx ePn eCo eX hg' he' (pfp hQ) Ib st fr go step
  have oa:=(hSS (i:=i) hQ Ib).1
  rw[eP,eW]at tr
  refine vG hAh I1.nolimit (by have:=hr.dp;omega) (isg oa) hgs (Φ:=λe s'=>∃v k p y H',e= .susp v false [] k (lW elt tg iter scope pos it X'.env) p []/\k (.send .none)= .pure (.again (lW elt tg iter scope pos it X'.env))/\RelV y v/\Q y H'/\Inv X' ((a,gob)::PP) (dJ own σ capI) H' s'/\tn (i+1) s'.heap/\∀b∈fp,H' b=none) ?_ ?_ ?_
  .rcases hgs' with e|⟨k,l,p,cl,e,ek⟩
   .subst e
    exact zP (i:=i) T st tr
   .subst e
    show dq _ _ _ (k (.send .none)) [] _ _
    rw[ek]
    exact dq.again rfl tr
  .rintro e s' ⟨v,k,p,y,H',rfl,_⟩
   rfl
  .rintro e s' ⟨v,k,p,y,H',rfl,ek,ry,qy,I',st',fr'⟩
   left
   refine⟨v,false,[],k,_,p,[],rfl,v,y,H',rfl,ry,qy,?_⟩
   obtain⟨oa',gr',mk⟩:=hSS (i:=i) hQ I'
   have e1:((s'.setGen gi (End.susp v false [] k (lW elt tg iter scope pos it X'.env) p []).genState).setGen gi .running)=s':=by
    have hl:gi<s'.gens.size:=by
     rcases Nat.lt_or_ge gi s'.gens.size with z|z
     .exact z
     .rw[Array.getElem?_eq_none z]at gr';cases gr'
    obtain⟨hh,gg,dd,tt,oo⟩:=s'
    show(Shared.mk hh ((gg.setIfInBounds gi _).setIfInBounds gi .running) dd tt oo)=_
    congr 1
    apply Array.ext_getElem?
    intro j
    by_cases hj:gi=j
    .subst hj
     have gr'':gg[gi]? =some .running:=gr'
     have hl':gi<gg.size:=hl
     rw[gr'']
     simp[hl']
    .simp[hj]
   refine⟨hQ,mk _ s'.heap s'.toks rfl λb o e=>e,⟨_,setGen_self gr',rfl,.inr ⟨k,[],p,_,rfl,ek⟩⟩,by rw[e1];exact I',st',fr'⟩
 .
  rintro PP i H s E ⟨hQ,I1,⟨gs,hgs,hb,hgs'⟩,Ib,st,fr⟩ hfin
  have tr:=Kg (A1:=A'.in1) (elt:=elt) (tg:=tg) (iter:=iter) (scope:=scope) (pos:=pos) T' eA eC eEx ePn (pfp hQ) Ib st fr hfin
  have oa:=(hSS (i:=i) hQ Ib).1
  rw[eP,eW]at tr
  refine vG hAh I1.nolimit (by have:=hr.dp;omega) (isg oa) hgs (Φ:=λe s'=>e= .ret (.ok .next)/\Inv X' ((a,gob)::PP) (dJ own σ capI) H s') ?_ ?_ ?_
  .rcases hgs' with e|⟨k,l,p,cl,e,ek⟩
   .subst e
    exact zP (i:=i) T st tr
   .subst e
    show dq _ _ _ (k (.send .none)) [] _ _
    rw[ek]
    exact dq.again rfl tr
  .rintro e s' ⟨rfl,_⟩
   rfl
  .rintro e s' ⟨rfl,I'⟩
   right
   obtain⟨oa',gr',mk⟩:=hSS (i:=i) hQ I'
   exact⟨rfl,λh' hk=>⟨rfl,mk .finished h' s'.toks rfl hk⟩⟩
 .
  rintro PP i H s h' tk ⟨hQ,I1,hgs,Ib,st,fr⟩ hk
  exact⟨hQ,I1.kept hk,hgs,Ib.kept (s:=s.setGen gi .running) hk,T.keep _ _ _ st λb _ o e=>hk b o e,fr⟩
 .
  rintro PP i H s D o ⟨hQ,I1,hgs,Ib,st,fr⟩ hD ho hn hcell
  have hDa:a<D:=hD
  have hD4:s4.heap.objs.size<=D:=Nat.le_of_lt (Nat.lt_of_le_of_lt hCs (Nat.lt_trans hCa hDa))
  refine⟨λp hp=>?_,?_,hgs,?_,st,fr⟩
  .rcases Zi.mp hp with z|z
   .subst z;exact hDa
   .exact hQ p z
  .refine I1.pins_of λp hp=>?_
   rcases Zm.mp hp with z|z
   .exact I1.pin p (by simp[z])
   .rcases Zi.mp z with z|z
    .subst z
     exact⟨ho,hn,λz=>absurd I4.lt (by rw[<-z];exact Nat.not_lt.mpr hD4),I4.nofs hD4,hcell⟩
    .exact I1.pin p (by simp[z])
  .refine Ib.pins_of λp hp=>?_
   rcases Zi.mp hp with z|z
   .exact Ib.pin p (by simp[z])
   .rcases Zi.mp z with z|z
    .subst z
     refine⟨ho,hn,by rw[eL];exact Nat.ne_of_gt (Nat.lt_trans hCa hDa),λhz=>?_,hcell⟩
     rw[eFs]at hz
     rcases Zi.mp (I4.stkSub D hz)with z|z
     .exact absurd I4.lt (by rw[<-z];exact Nat.not_lt.mpr hD4)
     .exact I4.nofs hD4 z
    .exact Ib.pin p (by simp[z])
 .
  rintro p PP i H s ⟨hQ,I1,hgs,Ib,st,fr⟩
  exact⟨λq hq=>hQ q (List.mem_cons_of_mem _ hq),I1.pins_of λq hq=>I1.pin q (by rcases Zm.mp hq with z|z<;>simp[z]),hgs,Ib.pins_of λq hq=>Ib.pin q (by rcases Zi.mp hq with z|z<;>simp[z]),st,fr⟩
 .
  rintro PP i H s h' tk D ⟨hQ,I1,hgs,Ib,st,fr⟩ hD hn hPD hk
  have hDa:a<D:=hD
  have hDC:C<D:=Nat.lt_trans hCa hDa
  have hD4:s4.heap.objs.size<=D:=Nat.le_of_lt (Nat.lt_of_le_of_lt hCs hDC)
  have l4:∀b,b<s4.heap.objs.size->b≠D:=λb hb=>Zk (Zc hb hD4)
  have cl4:∀x c,X.env.cells.lookup x=some c->c≠D:=λx c e=>let⟨v,q⟩:=I4.cell x c e;l4 c q.lt
  refine⟨hQ,I1.turned hk hn (Ne.symm (l4 _ I4.lt)) (.inr (Zl I4.sz hD4)) cl4 (λp hp=>?_),hgs,Ib.turned (s:=s.setGen gi .running) hk hn (by rw[eL];exact Nat.ne_of_gt hDC) (.inr (by rw[eS];exact hD4)) (λx c e=>?_) (λp hp=>?_),T.keep _ _ _ st λb hb o e=>hk b o ?_ e,fr⟩
  .rcases Zm.mp hp with z|z
   .exact l4 _ (Ze (I4.pin p (by simp[z])).1)
   .rcases Zm.mp z with z|z
    .exact l4 _ (Ze (I4.pin p (by simp[z])).1)
    .exact hPD p z
  .obtain⟨v,q⟩:=Ib.cell x c e
   have e':(dI X.env scope.names []).lookup x=some c:=by rw[<-hX']at e;exact e
   exact cl4 x c ((qM (Zt e')).elim (λz=>by simp at z) id)
  .rw[ePn,List.nil_append]at hp
   rcases Zi.mp hp with z|z
   .subst z;exact Zk hDa
   .exact hPD p z
  .obtain⟨o',e'⟩:=o4 b hb
   exact l4 b (Ze e')
 .
  have Ib0:Inv X' [] (dJ own σ capI) H4 { s4 with heap:=h6,toks:=s4.toks+1+1+1,gens:=s4.gens.push .running}:=by
   rw[<-hX']
   refine I4.gen B hown hnc f4 o4 k46 hCs (hn5.at' λo e=>k6 _ o e) ?_ hAh
   rw[hcenv]
   exact Dh hAf
  refine⟨λp hp=>absurd hp (by simp),by rw[List.append_nil];exact(I4.grown k46 gk6:Inv X pins σ H4 _),⟨_,gi6,rfl,.inl (by rw[eE])⟩,?_,T.keep _ _ _ st4 λb _ o e=>k46 b o e,hfr4⟩
  have e1:(Shared.setGen { s4 with gens:=s4.gens.push (.fresh (genS elt tg iter scope pos it cenv)),toks:=s4.toks+1+1+1,heap:=h6} gi .running)={ s4 with heap:=h6,toks:=s4.toks+1+1+1,gens:=s4.gens.push .running}:=by
   show Shared.mk _ ((s4.gens.push _).setIfInBounds gi .running) _ _ _=_
   congr 1
   rw[<-hgi]
   apply Array.ext_getElem?
   intro j
   by_cases hj:s4.gens.size=j
   .subst hj;simp
   .simp[hj,Array.getElem?_push,Ne.symm hj]
  rw[e1]
  exact Ib0.pins_of λp hp=>by
   obtain rfl:p=(a,gob):=by simpa using hp
   refine⟨oa6,?_,by rw[eL];exact Nat.ne_of_gt hCa,afs,λv z=>?_⟩
   .exact I4.hok.fresh (Zl hCs (Nat.le_of_lt hCa))
   .rw[<-hgo]at z;cases z
 .show a+1<=h6.objs.size
  rw[<-hh6,Heap.size_push,ha]
  exact Zg _
end
end L2
namespace L3
open PySem PySem.Spec PyProof.Rows L2
inductive D where
 |non|bl (b:Bool)|int (i:Int)|str (x:Str)|tup (ds:List D)|lst (ds:List D)|ro (ds:List D)|dic (kvs:List (Key×D))|cell (n:Nat)
abbrev Mu:=List (Option (List D))
abbrev En:=List (Option D)
mutual
def bL(K:PySem.W.Frag)(F:Hp)(ad:List Addr):D->V->Prop
 | .non,v=>v= .non
 | .bl b,v=>v= .bl b
 | .int i,v=>v= .int i
 | .str x,v=>v= .str x
 | .tup ds,v=>∃a xs,v= .ref a/\SqT K F a xs/\aC K F ad ds xs
 | .lst ds,v=>∃a xs,v= .ref a/\F a=some (.lst xs)/\aC K F ad ds xs
 | .ro ds,v=>∃a xs,v= .ref a/\SqL K F a xs/\aC K F ad ds xs
 | .dic kvs,v=>∃a ps,v= .ref a/\F a=some (.dK ps)/\iW K F ad kvs ps
 | .cell n,v=>∃a,v= .ref a/\ad[n]? =some a
def aC(K:PySem.W.Frag)(F:Hp)(ad:List Addr):List D->List V->Prop
 | [],vs=>vs=[]
 |d::ds,vs=>∃u us,vs=u::us/\bL K F ad d u/\aC K F ad ds us
def iW(K:PySem.W.Frag)(F:Hp)(ad:List Addr):List (Key×D)->List (Key×V)->Prop
 | [],vs=>vs=[]
 |p::ds,vs=>∃u us,vs=u::us/\(u.1=p.1/\bL K F ad p.2 u.2)/\iW K F ad ds us
end
def qY(a b:List Addr):Prop:=∀(i:Nat) x,a[i]? =some x->b[i]? =some x
theorem qY.refl(a:List Addr):qY a a:=λ_ _ e=>e
theorem qY.trans{a b c:List Addr}(x:qY a b)(y:qY b c):qY a c:=λi z e=>y i z (x i z e)
theorem SqT.mono{K:PySem.W.Frag}{F F':Hp}{a:Addr}{xs:List V}(s:pD F F')(h:SqT K F a xs):SqT K F' a xs:=by
 rcases h with(h|⟨o,h⟩)|h
 .exact .inl (.inl (s _ _ h))
 .exact .inl (.inr ⟨o,s _ _ h⟩)
 .exact .inr h
theorem SqL.mono{K:PySem.W.Frag}{F F':Hp}{a:Addr}{xs:List V}(s:pD F F')(h:SqL K F a xs):SqL K F' a xs:=by
 rcases h with(h|⟨o,h⟩)|h
 .exact .inl (.inl (s _ _ h))
 .exact .inl (.inr ⟨o,s _ _ h⟩)
 .exact .inr h
section
variable {K:PySem.W.Frag} {F F':Hp} {ad ad':List Addr}
mutual
theorem bL.mono(s:pD F F')(l:qY ad ad'):∀(d:D)(v:V),bL K F ad d v->bL K F' ad' d v
 | .non,v,h=>by unfold bL at h ⊢;exact h
 | .bl _,v,h=>by unfold bL at h ⊢;exact h
 | .int _,v,h=>by unfold bL at h ⊢;exact h
 | .str _,v,h=>by unfold bL at h ⊢;exact h
 | .tup ds,v,h=>by
  unfold bL at h ⊢
  obtain⟨a,xs,e,q,r⟩:=h
  exact⟨a,xs,e,SqT.mono s q,aC.mono s l ds xs r⟩
 | .lst ds,v,h=>by
  unfold bL at h ⊢
  obtain⟨a,xs,e,q,r⟩:=h
  exact⟨a,xs,e,s _ _ q,aC.mono s l ds xs r⟩
 | .ro ds,v,h=>by
  unfold bL at h ⊢
  obtain⟨a,xs,e,q,r⟩:=h
  exact⟨a,xs,e,SqL.mono s q,aC.mono s l ds xs r⟩
 | .dic kvs,v,h=>by
  unfold bL at h ⊢
  obtain⟨a,ps,e,q,r⟩:=h
  exact⟨a,ps,e,s _ _ q,iW.mono s l kvs ps r⟩
 | .cell n,v,h=>by
  unfold bL at h ⊢
  obtain⟨a,e,q⟩:=h
  exact⟨a,e,l _ _ q⟩
theorem aC.mono(s:pD F F')(l:qY ad ad'):∀(ds:List D)(vs:List V),aC K F ad ds vs->aC K F' ad' ds vs
 | [],vs,h=>by unfold aC at h ⊢;exact h
 |d::ds,vs,h=>by
  unfold aC at h ⊢
  obtain⟨u,us,e,p,r⟩:=h
  exact⟨u,us,e,bL.mono s l d u p,aC.mono s l ds us r⟩
theorem iW.mono(s:pD F F')(l:qY ad ad'):∀(ds:List (Key×D))(vs:List (Key×V)),iW K F ad ds vs->iW K F' ad' ds vs
 | [],vs,h=>by unfold iW at h ⊢;exact h
 |p::ds,vs,h=>by
  unfold iW at h ⊢
  obtain⟨u,us,e,⟨p1,p2⟩,r⟩:=h
  exact⟨u,us,e,⟨p1,bL.mono s l p.2 u.2 p2⟩,iW.mono s l ds us r⟩
end
theorem aC.nil:aC K F ad [] []:=by unfold aC;rfl
theorem aC.cons{d:D}{v:V}{ds:List D}{vs:List V}(h:bL K F ad d v)(r:aC K F ad ds vs):aC K F ad (d::ds) (v::vs):=by unfold aC;exact⟨v,vs,rfl,h,r⟩
theorem aC.length:∀{ds:List D}{vs:List V},aC K F ad ds vs->ds.length=vs.length
 | [],vs,h=>by unfold aC at h;subst h;rfl
 |d::ds,vs,h=>by
  unfold aC at h
  obtain⟨u,us,rfl,_,r⟩:=h
  rw[List.length_cons,List.length_cons,aC.length r]
theorem aC.get:∀{ds:List D}{vs:List V}{i:Nat}{d:D},aC K F ad ds vs->ds[i]? =some d->∃v,vs[i]? =some v/\bL K F ad d v
 | [],_,_,_,_,e=>by simp at e
 |d::ds,vs,0,x,h,e=>by
  unfold aC at h
  obtain⟨u,us,rfl,p,r⟩:=h
  simp at e;subst e
  exact⟨u,rfl,p⟩
 |d::ds,vs,i+1,x,h,e=>by
  unfold aC at h
  obtain⟨u,us,rfl,p,r⟩:=h
  obtain⟨v,e1,e2⟩:=aC.get (i:=i) r (by simpa using e)
  exact⟨v,by simpa using e1,e2⟩
theorem aC.append:∀{ds es:List D}{vs us:List V},aC K F ad ds vs->aC K F ad es us->aC K F ad (ds++es) (vs++us)
 | [],es,vs,us,h,r=>by unfold aC at h;subst h;exact r
 |d::ds,es,vs,us,h,r=>by
  unfold aC at h
  obtain⟨u,ws,rfl,p,q⟩:=h
  exact aC.cons p (aC.append q r)
theorem aC.drop:∀{ds:List D}{vs:List V}(n:Nat),aC K F ad ds vs->aC K F ad (ds.drop n) (vs.drop n)
 |ds,vs,0,h=>h
 | [],vs,n+1,h=>by unfold aC at h;subst h;exact aC.nil
 |d::ds,vs,n+1,h=>by
  unfold aC at h
  obtain⟨u,ws,rfl,p,q⟩:=h
  exact aC.drop n q
theorem aC.take:∀{ds:List D}{vs:List V}(n:Nat),aC K F ad ds vs->aC K F ad (ds.take n) (vs.take n)
 |ds,vs,0,h=>aC.nil
 | [],vs,n+1,h=>by unfold aC at h;subst h;exact aC.nil
 |d::ds,vs,n+1,h=>by
  unfold aC at h
  obtain⟨u,ws,rfl,p,q⟩:=h
  exact aC.cons p (aC.take n q)
theorem aC.two{d e:D}{vs:List V}(h:aC K F ad [d,e] vs):∃u v,vs=[u,v]/\bL K F ad d u/\bL K F ad e v:=by
 unfold aC at h
 obtain⟨u,us,rfl,p,h⟩:=h
 unfold aC at h
 obtain⟨v,ws,rfl,q,h⟩:=h
 unfold aC at h
 subst h
 exact⟨u,v,rfl,p,q⟩
theorem aC.one{d:D}{vs:List V}(h:aC K F ad [d] vs):∃u,vs=[u]/\bL K F ad d u:=by
 unfold aC at h
 obtain⟨u,us,rfl,p,h⟩:=h
 unfold aC at h
 subst h
 exact⟨u,rfl,p⟩
theorem aC.zero{vs:List V}(h:aC K F ad [] vs):vs=[]:=by unfold aC at h;exact h
end
structure Wd where
 H:Hp
 ad:List Addr
 mu:Mu
def qT(ad:List Addr)(mu:Mu)(b:Addr):Prop:=∃(i:Nat)(ds:List D),ad[i]? =some b/\mu[i]? =some (some ds)
open Classical in
noncomputable def Wd.fz(tb:List Addr)(W:Wd):Hp:=λb=>if qT W.ad W.mu b∨b∈tb then none else W.H b
abbrev Den(K:PySem.W.Frag)(tb:List Addr)(W:Wd):D->V->Prop:=bL K (W.fz tb) W.ad
abbrev cV(K:PySem.W.Frag)(tb:List Addr)(W:Wd):List D->List V->Prop:=aC K (W.fz tb) W.ad
structure WOk(K:PySem.W.Frag)(tb:List Addr)(W:Wd):Prop where
 len:W.ad.length=W.mu.length
 cont:∀(i:Nat) a ds,W.ad[i]? =some a->W.mu[i]? =some (some ds)->∃xs,W.H a=some (.lst xs)/\cV K tb W ds xs
 inj:∀(i j:Nat) a ds es,W.ad[i]? =some a->W.ad[j]? =some a->W.mu[i]? =some (some ds)->W.mu[j]? =some (some es)->i=j
 tab:∀P∈tb,∃ps,W.H P=some (.tbl ps)/\TOk W.H ps
structure Le(tb:List Addr)(W W':Wd):Prop where
 same:pD (W.fz tb) (W'.fz tb)
 ad:qY W.ad W'.ad
theorem Le.refl{tb:List Addr}(W:Wd):Le tb W W:=⟨pD.refl _,qY.refl _⟩
theorem Le.trans{tb:List Addr}{W W1 W2:Wd}(a:Le tb W W1)(b:Le tb W1 W2):Le tb W W2:=⟨a.same.trans b.same,a.ad.trans b.ad⟩
section
variable {K:PySem.W.Frag} {tb:List Addr} {W W':Wd} {d:D} {v:V} {ds:List D} {vs:List V}
theorem Den.mono'(h:Den K tb W d v)(l:Le tb W W'):Den K tb W' d v:=bL.mono l.same l.ad d v h
theorem cV.mono'(h:cV K tb W ds vs)(l:Le tb W W'):cV K tb W' ds vs:=aC.mono l.same l.ad ds vs h
theorem fP{b:Addr}{o:HO}(h:W.fz tb b=some o):W.H b=some o/\¬qT W.ad W.mu b/\b∉tb:=by
 unfold Wd.fz at h
 split at h
 .cases h
 .rename_i q
  exact⟨h,λz=>q (.inl z),λz=>q (.inr z)⟩
theorem tU{b:Addr}(h1:¬qT W.ad W.mu b)(h2:b∉tb):W.fz tb b=W.H b:=by
 unfold Wd.fz
 rw[if_neg]
 rintro(z|z)
 .exact h1 z
 .exact h2 z
theorem SqT.fz{a:Addr}{xs:List V}(h:SqT K (W.fz tb) a xs):SqT K W.H a xs:=by
 rcases h with(h|⟨o,h⟩)|h
 .exact .inl (.inl (fP h).1)
 .exact .inl (.inr ⟨o,(fP h).1⟩)
 .exact .inr h
theorem SqL.fz{a:Addr}{xs:List V}(h:SqL K (W.fz tb) a xs):SqL K W.H a xs:=by
 rcases h with(h|⟨o,h⟩)|h
 .exact .inl (.inl (fP h).1)
 .exact .inl (.inr ⟨o,(fP h).1⟩)
 .exact .inr h
theorem WOk.live(ok:WOk K tb W){b:Addr}(h:qT W.ad W.mu b):∃xs,W.H b=some (.lst xs):=by
 obtain⟨i,ds,e1,e2⟩:=h
 obtain⟨xs,e,_⟩:=ok.cont i b ds e1 e2
 exact⟨xs,e⟩
theorem WOk.alloc(ok:WOk K tb W){p:Addr}{o:HO}(hp:W.H p=none):WOk K tb ⟨upd W.H p o,W.ad,W.mu⟩/\Le tb W ⟨upd W.H p o,W.ad,W.mu⟩/\(Wd.fz tb ⟨upd W.H p o,W.ad,W.mu⟩) p=some o:=by
 have nl:¬qT W.ad W.mu p:=λz=>by obtain⟨xs,e⟩:=ok.live z;rw[hp]at e;cases e
 have nt:p∉tb:=λz=>by obtain⟨ps,e,_⟩:=ok.tab p z;rw[hp]at e;cases e
 have le:Le tb W ⟨upd W.H p o,W.ad,W.mu⟩:=⟨λb u e=>by
  obtain⟨e1,e2,e3⟩:=fP e
  have hb:b≠p:=dz e1 hp
  have q:=tU (tb:=tb) (W:=⟨upd W.H p o,W.ad,W.mu⟩) e2 e3
  rw[q]
  show upd W.H p o b=some u
  rw[aX hb];exact e1,qY.refl _⟩
 refine⟨⟨ok.len,λi a ds e1 e2=>?_,ok.inj,λP hP=>?_⟩,le,?_⟩
 .obtain⟨xs,e,r⟩:=ok.cont i a ds e1 e2
  refine⟨xs,?_,cV.mono' r le⟩
  show upd W.H p o a=_
  rw[aX (dz e hp)];exact e
 .obtain⟨ps,e,r⟩:=ok.tab P hP
  refine⟨ps,?_,r.mono λc u q=>(aX (dz q hp)).trans q⟩
  show upd W.H p o P=_
  rw[aX (dz e hp)];exact e
 .have q:=tU (tb:=tb) (W:=⟨upd W.H p o,W.ad,W.mu⟩) nl nt
  rw[q];exact gV
theorem WOk.new(ok:WOk K tb W){p:Addr}(hp:W.H p=none)(r:cV K tb W ds vs):
  WOk K tb ⟨upd W.H p (.lst vs),W.ad++[p],W.mu++[some ds]⟩/\Le tb W ⟨upd W.H p (.lst vs),W.ad++[p],W.mu++[some ds]⟩/\Den K tb ⟨upd W.H p (.lst vs),W.ad++[p],W.mu++[some ds]⟩ (.cell W.mu.length) (.ref p):=by
 have adl:qY W.ad (W.ad++[p]):=λi x e=>by
  rw[Zs (Zh.mp e).1];exact e
 have lv:∀b,qT (W.ad++[p]) (W.mu++[some ds]) b->qT W.ad W.mu b∨b=p:=λb zq1=>by
  obtain⟨i,es,e1,e2⟩:=zq1
  by_cases hi:i<W.ad.length
  .rw[Zs hi]at e1
   rw[Zs (by rw[<-ok.len];exact hi)]at e2
   exact .inl ⟨i,es,e1,e2⟩
  .rw[List.getElem?_append_right (Nat.le_of_not_lt hi)]at e1
   right
   have:(i-W.ad.length)=0:=by
    have:=(Zh.mp e1).1
    simp at this
    omega
   rw[this]at e1
   simpa using e1.symm
 have le:Le tb W ⟨upd W.H p (.lst vs),W.ad++[p],W.mu++[some ds]⟩:=⟨λb u e=>by
  obtain⟨e1,e2,e3⟩:=fP e
  have hb:b≠p:=dz e1 hp
  have q:=tU (tb:=tb) (W:=⟨upd W.H p (.lst vs),W.ad++[p],W.mu++[some ds]⟩) (b:=b) (λz=>(lv b z).elim e2 hb) e3
  rw[q]
  show upd W.H p (.lst vs) b=some u
  rw[aX hb];exact e1,adl⟩
 refine⟨⟨by simp[ok.len],λi a es e1 e2=>?_,λi j a es fs e1 e2 e3 e4=>?_,λP hP=>?_⟩,le,?_⟩
 .by_cases hi:i<W.ad.length
  .have e1':W.ad[i]? =some a:=by rw[<-Zs (l₂:=[p]) hi];exact e1
   have e2':W.mu[i]? =some (some es):=by rw[<-Zs (l₂:=[some ds]) (by rw[<-ok.len];exact hi)];exact e2
   obtain⟨xs,e,q⟩:=ok.cont i a es e1' e2'
   refine⟨xs,?_,cV.mono' q le⟩
   show upd W.H p (.lst vs) a=_
   rw[aX (dz e hp)];exact e
  .have h0:i=W.ad.length:=by
    have h1:i<(W.ad++[p]).length:=(Zh.mp e1).1
    simp at h1
    omega
   have e1':(W.ad++[p])[i]? =some a:=e1
   have e2':(W.mu++[some ds])[i]? =some (some es):=e2
   rw[h0]at e1' e2'
   rw[ok.len]at e2'
   simp at e1' e2'
   subst e1' e2'
   exact⟨vs,gV,cV.mono' r le⟩
 .have old:∀(k:Nat) es,(W.ad++[p])[k]? =some a->(W.mu++[some ds])[k]? =some (some es)->(k<W.ad.length/\W.ad[k]? =some a/\W.mu[k]? =some (some es))∨(k=W.ad.length/\a=p):=λk es q1 q2=>by
   by_cases hk:k<W.ad.length
   .left
    refine⟨hk,?_,?_⟩
    .rw[<-Zs (l₂:=[p]) hk];exact q1
    .rw[<-Zs (l₂:=[some ds]) (by rw[<-ok.len];exact hk)];exact q2
   .right
    have h1:k<(W.ad++[p]).length:=(Zh.mp q1).1
    simp at h1
    have h0:k=W.ad.length:=by omega
    subst h0
    simp at q1
    exact⟨rfl,q1.symm⟩
  rcases old i es e1 e3 with⟨_,a1,a2⟩|⟨a1,a2⟩<;>rcases old j fs e2 e4 with⟨_,b1,b2⟩|⟨b1,b2⟩
  .exact ok.inj i j a es fs a1 b1 a2 b2
  .obtain⟨xs,e,_⟩:=ok.cont i a es a1 a2
   rw[b2,hp]at e;cases e
  .obtain⟨xs,e,_⟩:=ok.cont j a fs b1 b2
   rw[a2,hp]at e;cases e
  .rw[a1,b1]
 .obtain⟨ps,e,q⟩:=ok.tab P hP
  refine⟨ps,?_,q.mono λc u q=>(aX (dz q hp)).trans q⟩
  show upd W.H p (.lst vs) P=_
  rw[aX (dz e hp)];exact e
 .show bL K _ _ (.cell W.mu.length) (.ref p)
  unfold bL
  refine⟨p,rfl,?_⟩
  rw[<-ok.len]
  simp
theorem WOk.write(ok:WOk K tb W){i:Nat}{a:Addr}{es:List D}(e1:W.ad[i]? =some a)(e2:W.mu[i]? =some (some es))(r:cV K tb W ds vs):
  WOk K tb ⟨upd W.H a (.lst vs),W.ad,W.mu.set i (some ds)⟩/\Le tb W ⟨upd W.H a (.lst vs),W.ad,W.mu.set i (some ds)⟩:=by
 have hi:i<W.mu.length:=(Zh.mp e2).1
 have lv:∀b,qT W.ad (W.mu.set i (some ds)) b->qT W.ad W.mu b:=λb zq2=>by
  obtain⟨j,fs,q1,q2⟩:=zq2
  by_cases hj:i=j
  .subst hj;exact⟨i,es,q1,e2⟩
  .rw[List.getElem?_set_ne hj]at q2;exact⟨j,fs,q1,q2⟩
 have la:qT W.ad W.mu a:=⟨i,es,e1,e2⟩
 have le:Le tb W ⟨upd W.H a (.lst vs),W.ad,W.mu.set i (some ds)⟩:=⟨λb u e=>by
  obtain⟨p1,p2,p3⟩:=fP e
  have hb:b≠a:=λz=>p2 (z▸la)
  have q:=tU (tb:=tb) (W:=⟨upd W.H a (.lst vs),W.ad,W.mu.set i (some ds)⟩) (b:=b) (λz=>p2 (lv b z)) p3
  rw[q]
  show upd W.H a (.lst vs) b=some u
  rw[aX hb];exact p1,qY.refl _⟩
 refine⟨⟨by show W.ad.length=(W.mu.set i (some ds)).length;rw[List.length_set];exact ok.len,λj b fs q1 q2=>?_,λj k b fs gs q1 q2 q3 q4=>?_,λP hP=>?_⟩,le⟩
 .have q2':(W.mu.set i (some ds))[j]? =some (some fs):=q2
  by_cases hj:i=j
  .subst hj
   have q1':W.ad[i]? =some b:=q1
   rw[e1]at q1';cases q1'
   rw[List.getElem?_set_self hi]at q2'
   cases q2'
   exact⟨vs,gV,cV.mono' r le⟩
  .rw[List.getElem?_set_ne hj]at q2'
   obtain⟨xs,e,q⟩:=ok.cont j b fs q1 q2'
   refine⟨xs,?_,cV.mono' q le⟩
   show upd W.H a (.lst vs) b=_
   have hba:b≠a:=by
    intro z
    subst z
    exact hj (ok.inj i j b es fs e1 q1 e2 q2')
   rw[aX hba];exact e
 .have up:∀(j:Nat) fs,(W.mu.set i (some ds))[j]? =some (some fs)->∃gs,W.mu[j]? =some (some gs):=λj fs q=>by
   by_cases hj:i=j
   .subst hj;exact⟨es,e2⟩
   .rw[List.getElem?_set_ne hj]at q;exact⟨fs,q⟩
  obtain⟨fs',q3'⟩:=up j fs q3
  obtain⟨gs',q4'⟩:=up k gs q4
  exact ok.inj j k b fs' gs' q1 q2 q3' q4'
 .obtain⟨ps,e,q⟩:=ok.tab P hP
  obtain⟨xs,ea,_⟩:=ok.cont i a es e1 e2
  refine⟨ps,?_,q.mono λc u q=>(aX (HH q ea (by intro z;cases z))).trans q⟩
  show upd W.H a (.lst vs) P=_
  rw[aX (HH e ea (by intro z;cases z))];exact e
theorem WOk.freeze(ok:WOk K tb W){i:Nat}{a:Addr}{es:List D}(e1:W.ad[i]? =some a)(e2:W.mu[i]? =some (some es)):
  WOk K tb ⟨W.H,W.ad,W.mu.set i none⟩/\Le tb W ⟨W.H,W.ad,W.mu.set i none⟩/\Den K tb ⟨W.H,W.ad,W.mu.set i none⟩ (.lst es) (.ref a):=by
 have hi:i<W.mu.length:=(Zh.mp e2).1
 have up:∀(j:Nat) fs,(W.mu.set i none)[j]? =some (some fs)->i≠j/\W.mu[j]? =some (some fs):=λj fs q=>by
  by_cases hj:i=j
  .subst hj;rw[List.getElem?_set_self hi]at q;cases q
  .rw[List.getElem?_set_ne hj]at q;exact⟨hj,q⟩
 have lv:∀b,qT W.ad (W.mu.set i none) b->qT W.ad W.mu b:=λb ⟨j,fs,q1,q2⟩=>⟨j,fs,q1,(up j fs q2).2⟩
 have le:Le tb W ⟨W.H,W.ad,W.mu.set i none⟩:=⟨λb u e=>by
  obtain⟨p1,p2,p3⟩:=fP e
  have q:=tU (tb:=tb) (W:=⟨W.H,W.ad,W.mu.set i none⟩) (b:=b) (λz=>p2 (lv b z)) p3
  rw[q];exact p1,qY.refl _⟩
 obtain⟨xs,ea,ra⟩:=ok.cont i a es e1 e2
 refine⟨⟨by show W.ad.length=(W.mu.set i none).length;rw[List.length_set];exact ok.len,λj b fs q1 q2=>?_,λj k b fs gs q1 q2 q3 q4=>?_,ok.tab⟩,le,?_⟩
 .obtain⟨xs,e,q⟩:=ok.cont j b fs q1 (up j fs q2).2
  exact⟨xs,e,cV.mono' q le⟩
 .exact ok.inj j k b fs gs q1 q2 (up j fs q3).2 (up k gs q4).2
 .show bL K _ _ (.lst es) (.ref a)
  unfold bL
  refine⟨a,xs,rfl,?_,cV.mono' ra le⟩
  have nl:¬qT W.ad (W.mu.set i none) a:=λzq3=>by
   obtain⟨j,fs,q1,q2⟩:=zq3
   obtain⟨hj,q⟩:=up j fs q2
   exact hj (ok.inj i j a es fs e1 q1 e2 q)
  have nt:a∉tb:=λz=>by
   obtain⟨ps,e,_⟩:=ok.tab a z
   rw[ea]at e;cases e
  have q:=tU (tb:=tb) (W:=⟨W.H,W.ad,W.mu.set i none⟩) nl nt
  rw[q];exact ea
theorem WOk.tbl(ok:WOk K tb W){P:Addr}{lo:Nat}{ps ps':Array Value}{H':Hp}(hP:P∈tb)(e:W.H P=some (.tbl ps))(hG:Ri lo P ps ps' W.H H'):
  WOk K tb ⟨H',W.ad,W.mu⟩/\Le tb W ⟨H',W.ad,W.mu⟩:=by
 have le:Le tb W ⟨H',W.ad,W.mu⟩:=⟨λb u q=>by
  obtain⟨p1,p2,p3⟩:=fP q
  have q:=tU (tb:=tb) (W:=⟨H',W.ad,W.mu⟩) (b:=b) p2 p3
  rw[q]
  exact hG.keep b u (λz=>p3 (z▸hP)) p1,qY.refl _⟩
 refine⟨⟨ok.len,λi a ds e1 e2=>?_,ok.inj,λQ hQ=>?_⟩,le⟩
 .obtain⟨xs,ea,r⟩:=ok.cont i a ds e1 e2
  exact⟨xs,hG.keep a _ (HH ea e (by intro z;cases z)) ea,cV.mono' r le⟩
 .by_cases hq:Q=P
  .subst hq;exact⟨ps',hG.tab,hG.ok⟩
  .obtain⟨qs,e',r⟩:=ok.tab Q hQ
   exact⟨qs,hG.keep Q _ hq e',r.mono λc u q=>hG.keep c _ (HH q e (by intro z;cases z)) q⟩
end
abbrev SV:=L2.St
abbrev EF:=En->Mu->Option (D×Mu)
abbrev AF:=En->Mu->Option (List D×Mu)
abbrev TF:=En->Mu->Option (Bool×Mu)
inductive Fl where
 |nx|bk|ct|rt (d:D)
abbrev SF:=En->Mu->Option (Fl×En×Mu)
def kI(K:PySem.W.Frag)(tb:List Addr)(W:Wd)(δ:En)(σ:SV):Prop:=δ.length=σ.length/\∀(i:Nat) d,δ[i]? =some (some d)->∃v,σ[i]? =some (some v)/\Den K tb W d v
section
variable {K:PySem.W.Frag} {tb:List Addr} {W W':Wd} {δ:En} {σ:SV}
theorem kI.mono'(h:kI K tb W δ σ)(l:Le tb W W'):kI K tb W' δ σ:=⟨h.1,λi d e=>let⟨v,e1,e2⟩:=h.2 i d e;⟨v,e1,Den.mono' e2 l⟩⟩
theorem kI.set(h:kI K tb W δ σ){i:Nat}{d:D}{v:V}(r:Den K tb W d v):kI K tb W (δ.set i (some d)) (σ.set i (some v)):=by
 refine⟨by rw[List.length_set,List.length_set];exact h.1,λj e q=>?_⟩
 by_cases hj:i=j
 .subst hj
  have hi:i<δ.length:=by
   have:=(Zh.mp q).1
   rwa[List.length_set]at this
  rw[List.getElem?_set_self hi]at q
  cases q
  exact⟨v,by rw[List.getElem?_set_self (by rw[<-h.1];exact hi)],r⟩
 .rw[List.getElem?_set_ne hj]at q ⊢
  exact h.2 j e q
end
def tD(K:PySem.W.Frag)(tb:List Addr)(f:EF):TE:=λσ H Q=>∃W δ d μ',W.H=H/\WOk K tb W/\kI K tb W δ σ/\f δ W.mu=some (d,μ')/\
 ∀v W',WOk K tb W'->Le tb W W'->W'.mu=μ'->Den K tb W' d v->Q v W'.H
def tDA(K:PySem.W.Frag)(tb:List Addr)(f:AF):TA:=λσ H Q=>∃W δ ds μ',W.H=H/\WOk K tb W/\kI K tb W δ σ/\f δ W.mu=some (ds,μ')/\
 ∀vs W',WOk K tb W'->Le tb W W'->W'.mu=μ'->cV K tb W' ds vs->Q vs W'.H
def tDT(K:PySem.W.Frag)(tb:List Addr)(f:TF):TT:=λσ H Q=>∃W δ b μ',W.H=H/\WOk K tb W/\kI K tb W δ σ/\f δ W.mu=some (b,μ')/\
 ∀W',WOk K tb W'->Le tb W W'->W'.mu=μ'->Q b W'.H
def EndD(K:PySem.W.Frag)(tb:List Addr)(E:Ends)(fl:Fl)(σ:SV)(W:Wd):Prop:=match fl with
 | .nx=>E.nx σ W.H
 | .bk=>E.bk σ W.H
 | .ct=>E.ct σ W.H
 | .rt d=>∀v,Den K tb W d v->E.rt v W.H
def tDS(K:PySem.W.Frag)(tb:List Addr)(g:SF):TS:=λE σ H=>∃W δ fl δ' μ',W.H=H/\WOk K tb W/\kI K tb W δ σ/\g δ W.mu=some (fl,δ',μ')/\
 ∀σ' W',WOk K tb W'->Le tb W W'->W'.mu=μ'->kI K tb W' δ' σ'->EndD K tb E fl σ' W'
def PD(X:Cx)(tb:List Addr)(e:Expr)(f:EF):Prop:=PE X e (tD X.K tb f)
def PAD(X:Cx)(tb:List Addr)(es:List Expr)(f:AF):Prop:=PA X es (tDA X.K tb f)
def PTD(X:Cx)(tb:List Addr)(e:Expr)(f:TF):Prop:=PT X e (tDT X.K tb f)
def PWD(X:Cx)(tb:List Addr)(e:Expr)(f:TF):Prop:=PW X e (tDT X.K tb f)
def PSD(X:Cx)(tb:List Addr)(st:Stmt)(g:SF):Prop:=PS X st (tDS X.K tb g)
def yS(X:Cx)(tb:List Addr)(st:List Stmt)(g:SF):Prop:=PSs X st (tDS X.K tb g)
theorem fU{X:Cx}{e:Expr}{t t':TE}(h:PE X e t)(k:∀σ H Q,t' σ H Q->t σ H Q):PE X e t':=λpins s σ H Q I hq=>h pins s σ H Q I (k σ H Q hq)
theorem Nz{X:Cx}{e:List Expr}{t t':TA}(h:PA X e t)(k:∀σ H Q,t' σ H Q->t σ H Q):PA X e t':=λpos pins s σ H Q I hq=>h pos pins s σ H Q I (k σ H Q hq)
theorem JP{X:Cx}{e:Expr}{t t':TT}(h:PT X e t)(k:∀σ H Q,t' σ H Q->t σ H Q):PT X e t':=λpins s σ H Q I hq=>h pins s σ H Q I (k σ H Q hq)
theorem RX{X:Cx}{e:Expr}{t t':TT}(h:PW X e t)(k:∀σ H Q,t' σ H Q->t σ H Q):PW X e t':=λwh pins s σ H Q I hq=>h wh pins s σ H Q I (k σ H Q hq)
theorem qu{X:Cx}{e:Stmt}{t t':TS}(h:PS X e t)(k:∀E σ H,t' E σ H->t E σ H):PS X e t':=λpins s σ H E I hq=>h pins s σ H E I (k E σ H hq)
theorem Kd{X:Cx}{e:List Stmt}{t t':TS}(h:PSs X e t)(k:∀E σ H,t' E σ H->t E σ H):PSs X e t':=λpins s σ H E I hq=>h pins s σ H E I (k E σ H hq)
def ao(i:Nat):EF:=λδ μ=>match δ[i]? with
 |some (some d)=>some (d,μ)
 |_=>none
def mC(d:D):EF:=λ_ μ=>some (d,μ)
def M1(fa:EF)(op:D->Mu->Option (D×Mu)):EF:=λδ μ=>(fa δ μ).bind λr=>op r.1 r.2
def M2(fa fb:EF)(op:D->D->Mu->Option (D×Mu)):EF:=λδ μ=>(fa δ μ).bind λr=>(fb δ r.2).bind λq=>op r.1 q.1 q.2
def au:AF:=λ_ μ=>some ([],μ)
def aj(f:EF)(fs:AF):AF:=λδ μ=>(f δ μ).bind λr=>(fs δ r.2).bind λq=>some (r.1::q.1,q.2)
def MC(fs:AF)(op:List D->Mu->Option (D×Mu)):EF:=λδ μ=>(fs δ μ).bind λr=>op r.1 r.2
def RD1(K:PySem.W.Frag)(tb:List Addr)(r:V->Hp->VK->Prop)(op:D->Mu->Option (D×Mu)):Prop:=∀(W:Wd)(x:D)(v:V)(d:D)(μ':Mu)(Q:VK),WOk K tb W->Den K tb W x v->op x W.mu=some (d,μ')->
 (∀v W',WOk K tb W'->Le tb W W'->W'.mu=μ'->Den K tb W' d v->Q v W'.H)->r v W.H Q
def RD2(K:PySem.W.Frag)(tb:List Addr)(r:R2)(op:D->D->Mu->Option (D×Mu)):Prop:=∀(W:Wd)(x y:D)(v u:V)(d:D)(μ':Mu)(Q:VK),WOk K tb W->Den K tb W x v->Den K tb W y u->op x y W.mu=some (d,μ')->
 (∀v W',WOk K tb W'->Le tb W W'->W'.mu=μ'->Den K tb W' d v->Q v W'.H)->r v u W.H Q
def RDN(K:PySem.W.Frag)(tb:List Addr)(r:List V->Hp->VK->Prop)(op:List D->Mu->Option (D×Mu)):Prop:=∀(W:Wd)(xs:List D)(vs:List V)(d:D)(μ':Mu)(Q:VK),WOk K tb W->cV K tb W xs vs->op xs W.mu=some (d,μ')->
 (∀v W',WOk K tb W'->Le tb W W'->W'.mu=μ'->Den K tb W' d v->Q v W'.H)->r vs W.H Q
section
variable {K:PySem.W.Frag} {tb:List Addr}
theorem put{W:Wd}{Q:VK}{d:D}{v:V}(ok:WOk K tb W)(h:∀v W',WOk K tb W'->Le tb W W'->W'.mu=W.mu->Den K tb W' d v->Q v W'.H)(r:Den K tb W d v):Q v W.H:=h v W ok (Le.refl _) rfl r
theorem gH{W:Wd}{i:Int}:Den K tb W (.int i) (.int i):=by show bL _ _ _ _ _;unfold bL;rfl
theorem fG{W:Wd}{b:Bool}:Den K tb W (.bl b) (.bl b):=by show bL _ _ _ _ _;unfold bL;rfl
theorem qJ{W:Wd}:Den K tb W .non .non:=by show bL _ _ _ _ _;unfold bL;rfl
theorem HD{W:Wd}{x:Str}:Den K tb W (.str x) (.str x):=by show bL _ _ _ _ _;unfold bL;rfl
theorem bQ{W:Wd}{i:Int}{v:V}(h:Den K tb W (.int i) v):v= .int i:=by have h:bL _ _ _ _ _:=h;unfold bL at h;exact h
theorem jM{W:Wd}{b:Bool}{v:V}(h:Den K tb W (.bl b) v):v= .bl b:=by have h:bL _ _ _ _ _:=h;unfold bL at h;exact h
theorem nO{W:Wd}{v:V}(h:Den K tb W .non v):v= .non:=by have h:bL _ _ _ _ _:=h;unfold bL at h;exact h
theorem lK{W:Wd}{x:Str}{v:V}(h:Den K tb W (.str x) v):v= .str x:=by have h:bL _ _ _ _ _:=h;unfold bL at h;exact h
theorem iz{W:Wd}{ds:List D}{v:V}(h:Den K tb W (.tup ds) v):∃a xs,v= .ref a/\SqT K (W.fz tb) a xs/\cV K tb W ds xs:=by have h:bL _ _ _ _ _:=h;unfold bL at h;exact h
theorem sZ{W:Wd}{ds:List D}{v:V}(h:Den K tb W (.lst ds) v):∃a xs,v= .ref a/\W.fz tb a=some (.lst xs)/\cV K tb W ds xs:=by have h:bL _ _ _ _ _:=h;unfold bL at h;exact h
theorem mQ{W:Wd}{ds:List D}{v:V}(h:Den K tb W (.lst ds) v):∃a xs,v= .ref a/\SqL K (W.fz tb) a xs/\cV K tb W ds xs:=let⟨a,xs,e,q,r⟩:=sZ h;⟨a,xs,e,SqL.of q,r⟩
theorem zu{W:Wd}{ds:List D}{v:V}(h:Den K tb W (.ro ds) v):∃a xs,v= .ref a/\SqL K (W.fz tb) a xs/\cV K tb W ds xs:=by have h:bL _ _ _ _ _:=h;unfold bL at h;exact h
theorem Lz{W:Wd}{kvs:List (Key×D)}{v:V}(h:Den K tb W (.dic kvs) v):∃a ps,v= .ref a/\W.fz tb a=some (.dK ps)/\iW K (W.fz tb) W.ad kvs ps:=by have h:bL _ _ _ _ _:=h;unfold bL at h;exact h
theorem jo{W:Wd}{n:Nat}{v:V}(h:Den K tb W (.cell n) v):∃a,v= .ref a/\W.ad[n]? =some a:=by have h:bL _ _ _ _ _:=h;unfold bL at h;exact h
theorem qN{W:Wd}{Q:VK}{ds:List D}{vs:List V}{p:Addr}(ok:WOk K tb W)(h:∀v W',WOk K tb W'->Le tb W W'->W'.mu=W.mu->Den K tb W' (.tup ds) v->Q v W'.H)(r:cV K tb W ds vs)(hp:W.H p=none):Q (.ref p) (upd W.H p (.tup vs)):=by
 obtain⟨ok',le,e⟩:=ok.alloc (o:=.tup vs) hp
 refine h (.ref p) _ ok' le rfl ?_
 show bL _ _ _ _ _
 unfold bL
 exact⟨p,vs,rfl,.inl (.inl e),cV.mono' r le⟩
theorem lZ{W:Wd}{Q:VK}{ds:List D}{vs:List V}{p:Addr}(ok:WOk K tb W)(h:∀v W',WOk K tb W'->Le tb W W'->W'.mu=W.mu->Den K tb W' (.lst ds) v->Q v W'.H)(r:cV K tb W ds vs)(hp:W.H p=none):Q (.ref p) (upd W.H p (.lst vs)):=by
 obtain⟨ok',le,e⟩:=ok.alloc (o:=.lst vs) hp
 refine h (.ref p) _ ok' le rfl ?_
 show bL _ _ _ _ _
 unfold bL
 exact⟨p,vs,rfl,e,cV.mono' r le⟩
end
section
variable {X:Cx} {tb:List Addr} {a b c e:Expr} {fa fb fc f:EF} {pos:Pos}
theorem Ve{i:Nat}{x:Str}(hN:X.N[i]? =some x)(hv:Vis X.env.scope x)(hd:(x==("__debug__":Str))=false:=by decide)(hcd:(x==("__classdict__":Str))=false:=by decide):PD X tb (.Name x pos) (ao i):=
 fU (Tq hN hv hd hcd) λσ H Q zq1=>by
  obtain⟨W,δ,d,μ',e,ok,hd,hf,h⟩:=zq1
  subst e
  unfold ao at hf
  split at hf
  .rename_i d' e
   cases hf
   obtain⟨v,ev,r⟩:=hd.2 i _ e
   exact⟨v,ev,put ok h r⟩
  .cases hf
theorem tZ{d:D}{v:V}(hp:PE X e (tC v))(hd:∀W,Den X.K tb W d v):PD X tb e (mC d):=
 fU hp λσ H Q zq2=>by
  obtain⟨W,δ,d',μ',e,ok,_,hf,h⟩:=zq2
  subst e
  cases hf
  exact put ok h (hd W)
theorem az{i j}:PD X tb (.Constant (.int i) j pos) (mC (.int i)):=tZ Jx λ_=>gH
theorem fB{i j}:PD X tb (.Constant (.bool i) j pos) (mC (.bl i)):=tZ Wo λ_=>fG
theorem vd{j}:PD X tb (.Constant .none j pos) (mC .non):=tZ Vj λ_=>qJ
theorem xM{i j}:PD X tb (.Constant (.str i) j pos) (mC (.str i)):=tZ Uo λ_=>HD
theorem Vh{r:V->Hp->VK->Prop}{op:D->Mu->Option (D×Mu)}(hp:∀ta,PE X a ta->PE X e (tUn r ta))(ho:RD1 X.K tb r op)(ha:PD X tb a fa):PD X tb e (M1 fa op):=
 fU (hp _ ha) λσ H Q zq3=>by
  obtain⟨W,δ,d,μ',e,ok,hd,hf,h⟩:=zq3
  unfold M1 at hf
  obtain⟨⟨x,μ1⟩,e1,e2⟩:=Za.mp hf
  exact⟨W,δ,x,μ1,e,ok,hd,e1,λv W1 ok1 l1 m1 d1=>ho W1 x v d μ' Q ok1 d1 (by rw[m1];exact e2) λv' W' ok' l' m' d'=>h v' W' ok' (l1.trans l') m' d'⟩
theorem Fo{r:R2}{op:D->D->Mu->Option (D×Mu)}(hp:∀ta tb,PE X a ta->PE X b tb->PE X e (tOp r ta tb))(ho:RD2 X.K tb r op)(ha:PD X tb a fa)(hb:PD X tb b fb):PD X tb e (M2 fa fb op):=
 fU (hp _ _ ha hb) λσ H Q zq4=>by
  obtain⟨W,δ,d,μ',e,ok,hd,hf,h⟩:=zq4
  unfold M2 at hf
  obtain⟨⟨x,μ1⟩,e1,hf⟩:=Za.mp hf
  obtain⟨⟨y,μ2⟩,e2,e3⟩:=Za.mp hf
  refine⟨W,δ,x,μ1,e,ok,hd,e1,λv W1 ok1 l1 m1 d1=>⟨W1,δ,y,μ2,rfl,ok1,hd.mono' l1,(by rw[m1];exact e2),λu W2 ok2 l2 m2 d2=>?_⟩⟩
  exact ho W2 x y v u d μ' Q ok2 (Den.mono' d1 l2) d2 (by rw[m2];exact e3) λv' W' ok' l' m' d'=>h v' W' ok' ((l1.trans l2).trans l') m' d'
theorem aq:PAD X tb [] au:=Nz Az λσ H Q zq5=>by
 obtain⟨W,δ,d,μ',e,ok,hd,hf,h⟩:=zq5
 subst e;cases hf
 exact h [] W ok (Le.refl _) rfl aC.nil
theorem aa{es:List Expr}{fs:AF}(ha:PD X tb e f)(hr:PAD X tb es fs)(hs:starEach (e::es) X.env=(false,eval e X.env)::starEach es X.env:=by rfl):PAD X tb (e::es) (aj f fs):=
 Nz (uo ha hr hs) λσ H Q zq6=>by
  obtain⟨W,δ,ds,μ',e,ok,hd,hf,h⟩:=zq6
  unfold aj at hf
  obtain⟨⟨x,μ1⟩,e1,hf⟩:=Za.mp hf
  obtain⟨⟨xs,μ2⟩,e2,e3⟩:=Za.mp hf
  cases e3
  refine⟨W,δ,x,μ1,e,ok,hd,e1,λv W1 ok1 l1 m1 d1=>⟨W1,δ,xs,_,rfl,ok1,hd.mono' l1,(by rw[m1];exact e2),λvs W2 ok2 l2 m2 d2=>?_⟩⟩
  exact h (v::vs) W2 ok2 (l1.trans l2) m2 (aC.cons (Den.mono' d1 l2) d2)
theorem Js{es:List Expr}{fs:AF}{r:List V->Hp->VK->Prop}{op:List D->Mu->Option (D×Mu)}(hp:∀ta,PA X es ta->PE X e (tCB r ta))(ho:RDN X.K tb r op)(ha:PAD X tb es fs):PD X tb e (MC fs op):=
 fU (hp _ ha) λσ H Q zq7=>by
  obtain⟨W,δ,d,μ',e,ok,hd,hf,h⟩:=zq7
  unfold MC at hf
  obtain⟨⟨x,μ1⟩,e1,e2⟩:=Za.mp hf
  exact⟨W,δ,x,μ1,e,ok,hd,e1,λv W1 ok1 l1 m1 d1=>ho W1 x v d μ' Q ok1 d1 (by rw[m1];exact e2) λv' W' ok' l' m' d'=>h v' W' ok' (l1.trans l') m' d'⟩
def oTup(ds:List D)(μ:Mu):Option (D×Mu):=if ds.length<=sizeLine then some (.tup ds,μ)else none
def oLst(ds:List D)(μ:Mu):Option (D×Mu):=if ds.length<=sizeLine then some (.lst ds,μ)else none
theorem aR{es:List Expr}{fs:AF}{x1}(h:PAD X tb es fs):PD X tb (.Tuple es x1 pos) (MC fs oTup):=
 Js (r:=λxs H Q=>xs.length<=sizeLine/\∀p,H p=none->Q (.ref p) (upd H p (.tup xs))) (λta h=>Vu h) (λW xs vs d μ' Q ok r ho h=>by
  unfold oTup at ho
  split at ho
  .rename_i hl
   cases ho
   exact⟨by rw[<-aC.length r];exact hl,λp hp=>qN ok h r hp⟩
  .cases ho) h
theorem jP{es:List Expr}{fs:AF}(h:PAD X tb es fs):PD X tb (.List es pos) (MC fs oLst):=
 Js (r:=λxs H Q=>xs.length<=sizeLine/\∀p,H p=none->Q (.ref p) (upd H p (.lst xs))) (λta h=>Oh h) (λW xs vs d μ' Q ok r ho h=>by
  unfold oLst at ho
  split at ho
  .rename_i hl
   cases ho
   exact⟨by rw[<-aC.length r];exact hl,λp hp=>lZ ok h r hp⟩
  .cases ho) h
def Df:D->Mu->Option Bool
 | .bl b,_=>some b
 | .int i,_=>some (i != 0)
 | .non,_=>some false
 | .tup ds,_=>some !ds.isEmpty
 | .lst ds,_=>some !ds.isEmpty
 | .cell n,μ=>match μ[n]? with
  |some (some ds)=>some !ds.isEmpty
  |_=>none
 |_,_=>none
end
section
variable {K:PySem.W.Frag} {tb:List Addr}
theorem Px{W:Wd}{x:D}{v:V}{k:Bool}(ok:WOk K tb W)(h:Den K tb W x v)(e:Df x W.mu=some k):Vf K v W.H k:=by
 cases x with
 |non=>rw[nO h];cases e;rfl
 |bl b=>rw[jM h];cases e;rfl
 |int i=>rw[bQ h];cases e;rfl
 |str y=>cases e
 |dic y=>cases e
 |ro y=>cases e
 |tup ds=>
  obtain⟨a,xs,rfl,q,r⟩:=iz h
  cases e
  refine .inr (.inl ⟨xs,SqT.fz q,?_⟩)
  have:=aC.length r
  cases ds<;>cases xs<;>simp_all
 |lst ds=>
  obtain⟨a,xs,rfl,q,r⟩:=mQ h
  cases e
  refine .inl ⟨xs,SqL.fz q,?_⟩
  have:=aC.length r
  cases ds<;>cases xs<;>simp_all
 |cell n=>
  obtain⟨a,rfl,q⟩:=jo h
  have e':(match W.mu[n]? with|some (some ds)=>some !ds.isEmpty|_=>none)=some k:=e
  cases e2:W.mu[n]? with
  |none=>rw[e2]at e';cases e'
  |some o=>
   cases o with
   |none=>rw[e2]at e';cases e'
   |some ds=>
    rw[e2]at e'
    have e'':some (!ds.isEmpty)=some k:=e'
    cases e''
    obtain⟨xs,e3,r⟩:=ok.cont n a ds q e2
    refine .inl ⟨xs,SqL.of e3,?_⟩
    have:=aC.length r
    cases ds<;>cases xs<;>simp_all
end
section
variable {X:Cx} {tb:List Addr} {a b c e:Expr} {fa fb fc f:EF} {ta tc:TF} {pos:Pos}
def iw(f:EF):TF:=λδ μ=>(f δ μ).bind λr=>(Df r.1 r.2).map λk=>(k,r.2)
theorem cT(h:PD X tb e f)(he:∀whole,isTrue e X.env whole=(do let v<-whole;standAt e.pos;holding [v] (truthy v)):=by intro _;rfl):PTD X tb e (iw f):=
 JP (JV h he) λσ H Q zq1=>by
  obtain⟨W,δ,k,μ',e,ok,hd,hf,h⟩:=zq1
  unfold iw at hf
  obtain⟨⟨x,μ1⟩,e1,e2⟩:=Za.mp hf
  obtain⟨k',e3,e4⟩:=Zp.mp e2
  cases e4
  exact⟨W,δ,x,_,e,ok,hd,e1,λv W1 ok1 l1 m1 d1=>⟨k,Px ok1 d1 (by rw[m1];exact e3),h W1 ok1 l1 m1⟩⟩
structure OpD(X:Cx)(tb:List Addr)(sem:Value->Value->Sem Value)(op:D->D->Mu->Option (D×Mu)):Prop where
 ex:∃r,OpR X sem r/\RD2 X.K tb r op
theorem aK{o:Operator}{op:D->D->Mu->Option (D×Mu)}(ho:OpD X tb (binaryOp o) op)(ha:PD X tb a fa)(hb:PD X tb b fb):PD X tb (.BinOp a o b pos) (M2 fa fb op):=by
 obtain⟨r,h1,h2⟩:=ho.ex
 exact Fo (λta tb ha hb=>RM h1 ha hb) h2 ha hb
theorem kO{o:CmpOp}{op:D->D->Mu->Option (D×Mu)}(ho:OpD X tb (compareOp o) op)(ha:PD X tb a fa)(hb:PD X tb b fb)(hm:behindInMarks o b=false:=by first|exact Cw _ (by decide) (by decide)|rfl):PD X tb (.Compare a [o] [b] pos) (M2 fa fb op):=by
 obtain⟨r,h1,h2⟩:=ho.ex
 exact Fo (λta tb ha hb=>QH h1 ha hb hm) h2 ha hb
def toB(f:EF):TF:=λδ μ=>(f δ μ).bind λr=>match r.1 with
 | .bl k=>some (k,r.2)
 |_=>none
theorem bx{o:CmpOp}{op:D->D->Mu->Option (D×Mu)}(ho:OpD X tb (compareOp o) op)(ha:PD X tb a fa)(hb:PD X tb b fb)(hm:behindInMarks o b=false:=by first|exact Cw _ (by decide) (by decide)|rfl):PTD X tb (.Compare a [o] [b] pos) (toB (M2 fa fb op)):=by
 obtain⟨r,h1,h2⟩:=ho.ex
 refine JP (Ry h1 ha hb hm) λσ H Q zq2=>?_
 obtain⟨W,δ,k,μ',e,ok,hd,hf,h⟩:=zq2
 unfold toB at hf
 obtain⟨⟨z,μz⟩,hf,ez⟩:=Za.mp hf
 unfold M2 at hf
 obtain⟨⟨x,μ1⟩,e1,hf⟩:=Za.mp hf
 obtain⟨⟨y,μ2⟩,e2,e3⟩:=Za.mp hf
 cases z with
 |bl k'=>
  cases ez
  refine⟨W,δ,x,μ1,e,ok,hd,e1,λv W1 ok1 l1 m1 d1=>⟨W1,δ,y,μ2,rfl,ok1,hd.mono' l1,(by rw[m1];exact e2),λu W2 ok2 l2 m2 d2=>?_⟩⟩
  refine h2 W2 x y v u _ _ _ ok2 (Den.mono' d1 l2) d2 (by rw[m2];exact e3) λv' W' ok' l' m' d'=>?_
  exact⟨k,jM d',h W' ok' ((l1.trans l2).trans l') m'⟩
 |_=>cases ez
def MCh(fa fb fc:EF)(op op':D->D->Mu->Option (D×Mu)):EF:=λδ μ=>(fa δ μ).bind λr=>(fb δ r.2).bind λq=>(op r.1 q.1 q.2).bind λz=>match z.1 with
 | .bl true=>(fc δ z.2).bind λt=>op' q.1 t.1 t.2
 | .bl false=>some (.bl false,z.2)
 |_=>none
theorem KY{r r':R2}{op op':D->D->Mu->Option (D×Mu)}(h1:RD2 X.K tb r op)(h2:RD2 X.K tb r' op'){σ:SV}{H:Hp}{Q:VK}(h:tD X.K tb (MCh fa fb fc op op') σ H Q):JR r r' (tD X.K tb fa) (tD X.K tb fb) (tD X.K tb fc) σ H Q:=by
 obtain⟨W,δ,d,μ',e,ok,hd,hf,h⟩:=h
 unfold MCh at hf
 obtain⟨⟨x,μ1⟩,e1,hf⟩:=Za.mp hf
 obtain⟨⟨y,μ2⟩,e2,hf⟩:=Za.mp hf
 obtain⟨⟨z,μ3⟩,e3,hf⟩:=Za.mp hf
 refine⟨W,δ,x,μ1,e,ok,hd,e1,λv W1 ok1 l1 m1 d1=>⟨W1,δ,y,μ2,rfl,ok1,hd.mono' l1,(by rw[m1];exact e2),λu W2 ok2 l2 m2 d2=>?_⟩⟩
 refine h1 W2 x y v u _ _ _ ok2 (Den.mono' d1 l2) d2 (by rw[m2];exact e3) λv' W3 ok3 l3 m3 d3=>?_
 cases z with
 |bl k=>
  cases k with
  |true=>
  refine⟨true,jM d3,?_⟩
  rw[if_pos rfl]
  obtain⟨⟨t,μ4⟩,e4,e5⟩:=Za.mp hf
  refine⟨W3,δ,t,μ4,rfl,ok3,hd.mono' ((l1.trans l2).trans l3),(by rw[m3];exact e4),λw' W4 ok4 l4 m4 d4=>?_⟩
  exact h2 W4 y t u w' _ _ _ ok4 (Den.mono' d2 (l3.trans l4)) d4 (by rw[m4];exact e5) λv'' W' ok' l' m' d'=>h v'' W' ok' ((((l1.trans l2).trans l3).trans l4).trans l') m' d'
  |false=>
  cases hf
  refine⟨false,jM d3,?_⟩
  rw[if_neg Zr]
  exact h _ W3 ok3 ((l1.trans l2).trans l3) m3 fG
 |_=>cases hf
theorem Ec{o o':CmpOp}{op op':D->D->Mu->Option (D×Mu)}(ho:OpD X tb (compareOp o) op)(ho':OpD X tb (compareOp o') op')(ha:PD X tb a fa)(hb:PD X tb b fb)(hc:PD X tb c fc)
  (hm:lastMarks [o,o'] [b,c]=false:=by with_unfolding_all rfl):PD X tb (.Compare a [o,o'] [b,c] pos) (MCh fa fb fc op op'):=by
 obtain⟨r,h1,h2⟩:=ho.ex
 obtain⟨r',h1',h2'⟩:=ho'.ex
 exact fU (Jy h1 h1' ha hb hc hm) λσ H Q h=>KY h2 h2' h
def rQ(ta tc:TF):TF:=λδ μ=>(ta δ μ).bind λr=>if r.1=true then tc δ r.2 else some (false,r.2)
def jm(ta tc:TF):TF:=λδ μ=>(ta δ μ).bind λr=>if r.1=true then some (true,r.2)else tc δ r.2
def eU(ta:TF):TF:=λδ μ=>(ta δ μ).bind λr=>some (!r.1,r.2)
theorem Lj(ha:PTD X tb a ta):PWD X tb (.BoolOp .And [a] pos) ta:=Pb ha
theorem gQ(ha:PTD X tb a ta):PWD X tb (.BoolOp .Or [a] pos) ta:=Vg ha
theorem Oj{rest:List Expr}(ha:PTD X tb a ta)(hb:PWD X tb (.BoolOp .And (b::rest) pos) tc):PWD X tb (.BoolOp .And (a::b::rest) pos) (rQ ta tc):=
 RX (Vi ha hb) λσ H Q zq4=>by
  obtain⟨W,δ,k,μ',e,ok,hd,hf,h⟩:=zq4
  unfold rQ at hf
  obtain⟨⟨z,μz⟩,e1,e2⟩:=Za.mp hf
  refine⟨W,δ,z,μz,e,ok,hd,e1,λW1 ok1 l1 m1=>?_⟩
  cases z with
  |true=>exact⟨W1,δ,k,μ',rfl,ok1,hd.mono' l1,(by rw[m1];exact e2),λW' ok' l' m'=>h W' ok' (l1.trans l') m'⟩
  |false=>cases e2;exact h W1 ok1 l1 m1
theorem fY{rest:List Expr}(ha:PTD X tb a ta)(hb:PWD X tb (.BoolOp .Or (b::rest) pos) tc):PWD X tb (.BoolOp .Or (a::b::rest) pos) (jm ta tc):=
 RX (Xe ha hb) λσ H Q zq5=>by
  obtain⟨W,δ,k,μ',e,ok,hd,hf,h⟩:=zq5
  unfold jm at hf
  obtain⟨⟨z,μz⟩,e1,e2⟩:=Za.mp hf
  refine⟨W,δ,z,μz,e,ok,hd,e1,λW1 ok1 l1 m1=>?_⟩
  cases z with
  |false=>exact⟨W1,δ,k,μ',rfl,ok1,hd.mono' l1,(by rw[m1];exact e2),λW' ok' l' m'=>h W' ok' (l1.trans l') m'⟩
  |true=>cases e2;exact h W1 ok1 l1 m1
theorem iY(h:PWD X tb a ta):PTD X tb a ta:=PW.pt h
theorem di(ha:PTD X tb a ta):PTD X tb (.UnaryOp .Not a pos) (eU ta):=
 JP (Vn ha) λσ H Q zq6=>by
  obtain⟨W,δ,k,μ',e,ok,hd,hf,h⟩:=zq6
  unfold eU at hf
  obtain⟨⟨z,μz⟩,e1,e2⟩:=Za.mp hf
  cases e2
  exact⟨W,δ,z,_,e,ok,hd,e1,λW1 ok1 l1 m1=>h W1 ok1 l1 m1⟩
def nj(fa fb:EF):EF:=λδ μ=>(fa δ μ).bind λr=>match r.1 with
 | .bl true=>fb δ r.2
 | .bl false=>some (.bl false,r.2)
 |_=>none
def wB(fa:EF):EF:=λδ μ=>(fa δ μ).bind λr=>match r.1 with
 | .bl k=>some (.bl !k,r.2)
 |_=>none
theorem kY{o}(ha:PD X tb a fa):PD X tb (.BoolOp o [a] pos) fa:=Um ha
theorem oE{rest:List Expr}(ha:PD X tb a fa)(hb:PD X tb (.BoolOp .And (b::rest) pos) fb):PD X tb (.BoolOp .And (a::b::rest) pos) (nj fa fb):=
 fU (Tj ha hb) λσ H Q zq7=>by
  obtain⟨W,δ,d,μ',e,ok,hd,hf,h⟩:=zq7
  unfold nj at hf
  obtain⟨⟨z,μz⟩,e1,e2⟩:=Za.mp hf
  refine⟨W,δ,z,μz,e,ok,hd,e1,λv W1 ok1 l1 m1 d1=>?_⟩
  cases z with
  |bl k=>
   cases k with
   |true=>
   refine⟨true,jM d1,?_⟩
   rw[if_pos rfl]
   exact⟨W1,δ,d,μ',rfl,ok1,hd.mono' l1,(by rw[m1];exact e2),λv W' ok' l' m' d'=>h v W' ok' (l1.trans l') m' d'⟩
   |false=>
   cases e2
   refine⟨false,jM d1,?_⟩
   rw[if_neg Zr]
   exact h _ W1 ok1 l1 m1 fG
  |_=>cases e2
theorem Gz(ha:PD X tb a fa):PD X tb (.UnaryOp .Not a pos) (wB fa):=
 fU (Vd ha) λσ H Q zq9=>by
  obtain⟨W,δ,d,μ',e,ok,hd,hf,h⟩:=zq9
  unfold wB at hf
  obtain⟨⟨z,μz⟩,e1,e2⟩:=Za.mp hf
  refine⟨W,δ,z,μz,e,ok,hd,e1,λv W1 ok1 l1 m1 d1=>?_⟩
  cases z with
  |bl k=>
   cases e2
   exact⟨k,jM d1,h _ W1 ok1 l1 m1 fG⟩
  |_=>cases e2
def mIf(tc:TF)(fa fb:EF):EF:=λδ μ=>(tc δ μ).bind λr=>if r.1=true then fa δ r.2 else fb δ r.2
theorem Wt(hc:PTD X tb c tc)(ha:PD X tb a fa)(hb:PD X tb b fb):PD X tb (.IfExp c a b pos) (mIf tc fa fb):=
 fU (MJ hc ha hb) λσ H Q zq10=>by
  obtain⟨W,δ,d,μ',e,ok,hd,hf,h⟩:=zq10
  unfold mIf at hf
  obtain⟨⟨z,μz⟩,e1,e2⟩:=Za.mp hf
  refine⟨W,δ,z,μz,e,ok,hd,e1,λW1 ok1 l1 m1=>?_⟩
  cases z with
  |true=>exact⟨W1,δ,d,μ',rfl,ok1,hd.mono' l1,(by rw[m1];exact e2),λv W' ok' l' m' d'=>h v W' ok' (l1.trans l') m' d'⟩
  |false=>exact⟨W1,δ,d,μ',rfl,ok1,hd.mono' l1,(by rw[m1];exact e2),λv W' ok' l' m' d'=>h v W' ok' (l1.trans l') m' d'⟩
end
def bG:SF:=λδ μ=>some (.nx,δ,μ)
def xj:SF:=λδ μ=>some (.bk,δ,μ)
def aU(g h:SF):SF:=λδ μ=>(g δ μ).bind λr=>match r.1 with
 | .nx=>h r.2.1 r.2.2
 |_=>some r
def iU(f:EF):SF:=λδ μ=>(f δ μ).bind λr=>some (.nx,δ,r.2)
def bA(f:EF):SF:=λδ μ=>(f δ μ).bind λr=>some (.rt r.1,δ,r.2)
def sIf(c:TF)(g h:SF):SF:=λδ μ=>(c δ μ).bind λr=>if r.1=true then g δ r.2 else h δ r.2
def bz(i:Nat)(f:EF):SF:=λδ μ=>(f δ μ).bind λr=>some (.nx,δ.set i (some r.1),r.2)
section
variable {X:Cx} {tb:List Addr} {e:Expr} {f:EF} {g h:SF} {st:Stmt} {rest:List Stmt} {pos:Pos}
theorem bh:yS X tb [] bG:=Kd Pr λE σ H zq11=>by
 obtain⟨W,δ,fl,δ',μ',e,ok,hd,hf,h⟩:=zq11
 subst e;cases hf
 exact h σ W ok (Le.refl _) rfl hd
theorem aF(h1:PSD X tb st g):yS X tb [st] g:=Ow h1
theorem aB(h1:PSD X tb st g)(h2:yS X tb rest h):yS X tb (st::rest) (aU g h):=
 Kd (Kw h1 h2) λE σ H zq12=>by
  obtain⟨W,δ,fl,δ',μ',e,ok,hd,hf,k⟩:=zq12
  unfold aU at hf
  obtain⟨⟨fl1,δ1,μ1⟩,e1,e2⟩:=Za.mp hf
  refine⟨W,δ,fl1,δ1,μ1,e,ok,hd,e1,λσ1 W1 ok1 l1 m1 d1=>?_⟩
  cases fl1 with
  |nx=>exact⟨W1,δ1,fl,δ',μ',rfl,ok1,d1,(by rw[m1];exact e2),λσ' W' ok' l' m' d'=>k σ' W' ok' (l1.trans l') m' d'⟩
  |bk=>cases e2;exact k σ1 W1 ok1 l1 m1 d1
  |ct=>cases e2;exact k σ1 W1 ok1 l1 m1 d1
  |rt d=>cases e2;exact k σ1 W1 ok1 l1 m1 d1
theorem Ih:PSD X tb (.Break pos) xj:=qu Lr λE σ H zq14=>by
 obtain⟨W,δ,fl,δ',μ',e,ok,hd,hf,h⟩:=zq14
 subst e;cases hf
 exact h σ W ok (Le.refl _) rfl hd
theorem lL(he:PD X tb e f)(hs:swapsWith e none pos.line X.env=pure false:=by rfl):PSD X tb (.Expr e pos) (iU f):=
 qu (RJ he hs) λE σ H zq16=>by
  obtain⟨W,δ,fl,δ',μ',e,ok,hd,hf,h⟩:=zq16
  unfold iU at hf
  obtain⟨⟨x,μ1⟩,e1,e2⟩:=Za.mp hf
  cases e2
  exact⟨W,δ,x,_,e,ok,hd,e1,λv W1 ok1 l1 m1 d1=>h σ W1 ok1 l1 m1 (hd.mono' l1)⟩
theorem aN(he:PD X tb e f):PSD X tb (.Return (some e) pos) (bA f):=
 qu (Vm he) λE σ H zq17=>by
  obtain⟨W,δ,fl,δ',μ',e,ok,hd,hf,h⟩:=zq17
  unfold bA at hf
  obtain⟨⟨x,μ1⟩,e1,e2⟩:=Za.mp hf
  cases e2
  exact⟨W,δ,x,_,e,ok,hd,e1,λv W1 ok1 l1 m1 d1=>h σ W1 ok1 l1 m1 (hd.mono' l1) v d1⟩
theorem cg{c:Expr}{tc:TF}{as bs:List Stmt}(hc:PTD X tb c tc)(ha:yS X tb as g)(hb:yS X tb bs h):PSD X tb (.If c as bs pos) (sIf tc g h):=
 qu (Xz hc ha hb) λE σ H zq18=>by
  obtain⟨W,δ,fl,δ',μ',e,ok,hd,hf,k⟩:=zq18
  unfold sIf at hf
  obtain⟨⟨z,μ1⟩,e1,e2⟩:=Za.mp hf
  refine⟨W,δ,z,μ1,e,ok,hd,e1,λW1 ok1 l1 m1=>?_⟩
  cases z with
  |true=>exact⟨W1,δ,fl,δ',μ',rfl,ok1,hd.mono' l1,(by rw[m1];exact e2),λσ' W' ok' l' m' d'=>k σ' W' ok' (l1.trans l') m' d'⟩
  |false=>exact⟨W1,δ,fl,δ',μ',rfl,ok1,hd.mono' l1,(by rw[m1];exact e2),λσ' W' ok' l' m' d'=>k σ' W' ok' (l1.trans l') m' d'⟩
theorem bw{i:Nat}{x:Str}{pos':Pos}(hN:X.N.Nodup)(he:PD X tb e f)(hi:X.N[i]? =some x:=by rfl)(hx:Loc X.env.scope x:=by first|exact Or.inl rfl|exact Or.inr rfl)(hs:swapsWith e (some (.Name x pos')) pos.line X.env=pure false:=by rfl)
  (hf:X.fn x=true∨X.env.scope.names.lookup x=some .local:=by first|exact .inl rfl|exact .inr rfl|assumption):PSD X tb (.Assign [.Name x pos'] e pos) (bz i f):=
 qu (Te hN hi hx he hs hf) λE σ H zq19=>by
  obtain⟨W,δ,fl,δ',μ',e,ok,hd,hf,h⟩:=zq19
  unfold bz at hf
  obtain⟨⟨x,μ1⟩,e1,e2⟩:=Za.mp hf
  cases e2
  exact⟨W,δ,x,_,e,ok,hd,e1,λv W1 ok1 l1 m1 d1=>h _ W1 ok1 l1 m1 ((hd.mono' l1).set d1)⟩
def yX(i j:Nat)(fs:AF):SF:=λδ μ=>(fs δ μ).bind λr=>match r.1 with
 | [x,y]=>some (.nx,(δ.set i (some x)).set j (some y),r.2)
 |_=>none
theorem wk{i j:Nat}{x y:Str}{a b:Expr}{fs:AF}{px py pt:Pos}{kt k2 pt2}(hc:X.calm=true)(hN:X.N.Nodup)(ha:PAD X tb [a,b] fs)(hij:i≠j:=by decide)(hi:X.N[i]? =some x:=by rfl)(hj:X.N[j]? =some y:=by rfl)
  (hx:X.env.scope.names.lookup x=some .local:=by rfl) (hy:X.env.scope.names.lookup y=some .local:=by rfl)
  (hw:swappedStores [.Tuple [.Name x px,.Name y py] kt pt] (.Tuple [a,b] k2 pt2) X.env=pure (some [x,y]):=by rfl)
  (hs:swapsWithSole [.Tuple [.Name x px,.Name y py] kt pt] (.Tuple [a,b] k2 pt2) pos.line X.env=pure false:=by rfl):
  PSD X tb (.Assign [.Tuple [.Name x px,.Name y py] kt pt] (.Tuple [a,b] k2 pt2) pos) (yX i j fs):=
 qu (SQ hc hN hi hj hij hx hy ha hw hs) λE σ H zq20=>by
  obtain⟨W,δ,fl,δ',μ',e,ok,hd,hf,h⟩:=zq20
  unfold yX at hf
  obtain⟨⟨xs,μ1⟩,e1,e2⟩:=Za.mp hf
  match xs,e1,e2 with
  | [x,y],e1,e2=>
   cases e2
   refine⟨W,δ,_,_,e,ok,hd,e1,λvs W1 ok1 l1 m1 d1=>?_⟩
   obtain⟨u,v,rfl,du,dv⟩:=aC.two d1
   exact⟨u,v,rfl,h _ W1 ok1 l1 m1 (((hd.mono' l1).set du).set dv)⟩
def ie(c:TF)(b:SF):Nat->SF
 |0=>λ_ _=>none
 |n+1=>λδ μ=>(c δ μ).bind λr=>if r.1=true then(b δ r.2).bind λq=>match q.1 with
  | .nx=>ie c b n q.2.1 q.2.2
  | .ct=>ie c b n q.2.1 q.2.2
  | .bk=>some (.nx,q.2)
  | .rt d=>some (.rt d,q.2)
  else some (.nx,δ,r.2)
theorem mj{c:TF}{b:SF}:∀{n m:Nat}{δ:En}{μ:Mu}{r:Fl×En×Mu},n<=m->ie c b n δ μ=some r->ie c b m δ μ=some r
 |0,_,_,_,_,_,h=>by cases h
 |n+1,0,_,_,_,hl,_=>by omega
 |n+1,m+1,δ,μ,r,hl,h=>by
  unfold ie at h ⊢
  obtain⟨q,e1,e2⟩:=Za.mp h
  rw[e1]
  show(if q.1=true then _ else _)=_
  by_cases hq:q.1=true
  .rw[if_pos hq]at e2 ⊢
   obtain⟨t,e3,e4⟩:=Za.mp e2
   rw[e3]
   show(match t.1 with| .nx=>_| .ct=>_| .bk=>_| .rt d=>_)=_
   cases ht:t.1 with
   |nx=>rw[ht]at e4;exact mj (by omega) e4
   |ct=>rw[ht]at e4;exact mj (by omega) e4
   |bk=>rw[ht]at e4;exact e4
   |rt d=>rw[ht]at e4;exact e4
  .rw[if_neg hq]at e2 ⊢;exact e2
open Classical in
noncomputable def nU(c:TF)(b:SF):SF:=λδ μ=>if h:∃n r,ie c b n δ μ=some r then some (choose (choose_spec h))else none
theorem uG{c:TF}{b:SF}{n:Nat}{δ:En}{μ:Mu}{r:Fl×En×Mu}(h:ie c b n δ μ=some r):nU c b δ μ=some r:=by
 have hx:∃n r,ie c b n δ μ=some r:=⟨n,r,h⟩
 unfold nU
 rw[dif_pos hx]
 have q:=Classical.choose_spec (Classical.choose_spec hx)
 have a:=mj (Nat.le_max_left n (Classical.choose hx)) h
 have b:=mj (Nat.le_max_right n (Classical.choose hx)) q
 rw[a]at b
 exact b.symm
theorem Jm{c:TF}{b:SF}{δ:En}{μ:Mu}{r:Fl×En×Mu}(h:nU c b δ μ=some r):∃n,ie c b n δ μ=some r:=by
 unfold nU at h
 split at h
 .rename_i hx
  cases h
  exact⟨_,Classical.choose_spec (Classical.choose_spec hx)⟩
 .cases h
theorem uE{c:Expr}{tc:TF}{body:List Stmt}(hp:PassesOwn (model X.prog X.w) X.A X.env X.xe)(hc:PTD X tb c tc)(hb:yS X tb body g):PSD X tb (.While c body [] pos) (nU tc g):=
 qu (Jz hp hc hb) λE σ H zq21=>by
  obtain⟨W,δ,fl,δ',μ',e,ok,hd,hf,h⟩:=zq21
  obtain⟨n0,hn0⟩:=Jm hf
  refine⟨λm σ1 H1=>∃W1 δ1,W1.H=H1/\WOk X.K tb W1/\Le tb W W1/\kI X.K tb W1 δ1 σ1/\ie tc g m δ1 W1.mu=some (fl,δ',μ'),⟨n0,W,δ,e,ok,Le.refl _,hd,hn0⟩,?_⟩
  rintro m σ1 H1 ⟨W1,δ1,rfl,ok1,l1,d1,hn⟩
  cases m with
  |zero=>cases hn
  |succ m=>
   unfold ie at hn
   obtain⟨⟨k,μ2⟩,e1,e2⟩:=Za.mp hn
   refine⟨W1,δ1,k,μ2,rfl,ok1,d1,e1,λW2 ok2 l2 m2=>?_⟩
   cases k with
   |false=>
    cases e2
    rw[if_neg Zr]
    exact h σ1 W2 ok2 (l1.trans l2) m2 (d1.mono' l2)
   |true=>
    rw[if_pos rfl]
    obtain⟨⟨fl3,δ3,μ3⟩,e3,e4⟩:=Za.mp e2
    refine⟨λσ3 H3=>∃W3,W3.H=H3/\WOk X.K tb W3/\Le tb W W3/\kI X.K tb W3 δ3 σ3/\ie tc g m δ3 W3.mu=some (fl,δ',μ'),λσ3 H3 ⟨W3,q1,q2,q3,q4,q5⟩=>⟨m,Nat.lt_succ_self _,W3,δ3,q1,q2,q3,q4,q5⟩,?_⟩
    refine⟨W2,δ1,fl3,δ3,μ3,rfl,ok2,d1.mono' l2,(by rw[m2];exact e3),λσ3 W3 ok3 l3 m3 d3=>?_⟩
    cases fl3 with
    |nx=>exact⟨W3,rfl,ok3,(l1.trans l2).trans l3,d3,by rw[m3];exact e4⟩
    |ct=>exact⟨W3,rfl,ok3,(l1.trans l2).trans l3,d3,by rw[m3];exact e4⟩
    |bk=>cases e4;exact h σ3 W3 ok3 ((l1.trans l2).trans l3) m3 d3
    |rt d=>cases e4;exact h σ3 W3 ok3 ((l1.trans l2).trans l3) m3 d3
end
abbrev GF:=D->En->Mu->Option En
abbrev GsF:=List D->En->Mu->Option En
def tDG(K:PySem.W.Frag)(tb:List Addr)(ts:List Nat)(h:GF):TG:=λv σ H Q=>∃W δ d δ',W.H=H/\WOk K tb W/\kI K tb W δ σ/\Den K tb W d v/\h d δ W.mu=some δ'/\
 ∀σ',kI K tb W δ' σ'->σ'.length=σ.length->(∀i,i∉ts->σ'[i]? =σ[i]?)->Q σ' H
def tDGs(K:PySem.W.Frag)(tb:List Addr)(ts:List Nat)(h:GsF):TGs:=λvs σ H Q=>∃W δ ds δ',W.H=H/\WOk K tb W/\kI K tb W δ σ/\cV K tb W ds vs/\h ds δ W.mu=some δ'/\
 ∀σ',kI K tb W δ' σ'->σ'.length=σ.length->(∀i,i∉ts->σ'[i]? =σ[i]?)->Q σ' H
def PGD(X:Cx)(tb:List Addr)(tg:Expr)(ts:List Nat)(h:GF):Prop:=PG X tg (tDG X.K tb ts h)
def QV(X:Cx)(tb:List Addr)(tg:List Expr)(ts:List Nat)(h:GsF):Prop:=PGs X tg (tDGs X.K tb ts h)
theorem Sy{X:Cx}{e:Expr}{t t':TG}(h:PG X e t)(k:∀v σ H Q,t' v σ H Q->t v σ H Q):PG X e t':=λpins s σ H v u Q I r hq=>h pins s σ H v u Q I r (k v σ H Q hq)
theorem Lf{X:Cx}{e:List Expr}{t t':TGs}(h:PGs X e t)(k:∀v σ H Q,t' v σ H Q->t v σ H Q):PGs X e t':=λpins s σ H v u Q I r hq=>h pins s σ H v u Q I r (k v σ H Q hq)
def hName(i:Nat):GF:=λd δ _=>some (δ.set i (some d))
def jf:GsF:=λds δ _=>match ds with
 | []=>some δ
 |_=>none
def bH(h:GF)(hs:GsF):GsF:=λds δ μ=>match ds with
 | []=>none
 |d::r=>(h d δ μ).bind λδ1=>hs r δ1 μ
def jl(n:Nat)(hs:GsF):GF:=λd δ μ=>match d with
 | .tup ds=>if ds.length=n then hs ds δ μ else none
 |_=>none
section
variable {X:Cx} {tb:List Addr} {e tg iter elt:Expr} {f:EF} {pos:Pos}
theorem aH{i:Nat}{x:Str}(hN:X.N.Nodup)(hi:X.N[i]? =some x:=by rfl)(hx:Loc X.env.scope x:=by first|exact Or.inl rfl|exact Or.inr rfl)
  (hf:X.fn x=true∨X.env.scope.names.lookup x=some .local:=by first|exact .inl rfl|exact .inr rfl|assumption):PGD X tb (.Name x pos) [i] (hName i):=
 Sy (Ci hN hi hx hf) λv σ H Q zq1=>by
  obtain⟨W,δ,d,δ',e,ok,hd,dv,hh,h⟩:=zq1
  cases hh
  refine h _ (hd.set dv) (by rw[List.length_set]) λj hj=>?_
  rw[List.getElem?_set_ne (λz=>hj (by simp[z]))]
theorem dD:QV X tb [] [] jf:=
 Lf GQ λvs σ H Q zq2=>by
  obtain⟨W,δ,ds,δ',e,ok,hd,dv,hh,h⟩:=zq2
  match ds,dv,hh with
  | [],dv,hh=>
   cases hh
   exact⟨aC.zero dv,h σ hd rfl λ_ _=>rfl⟩
theorem bf{es:List Expr}{ts us:List Nat}{h:GF}{hs:GsF}(h1:PGD X tb e ts h)(h2:QV X tb es us hs)
  (ha:(assignEach (e::es) X.env).map (·.2)=assign e X.env::(assignEach es X.env).map (·.2):=by rfl):QV X tb (e::es) (ts++us) (bH h hs):=
 Lf (xG h1 h2 ha) λvs σ H Q zq3=>by
  obtain⟨W,δ,ds,δ',e,ok,hd,dv,hh,k⟩:=zq3
  match ds,dv,hh with
  |d::r,dv,hh=>
   obtain⟨δ1,e1,e2⟩:=Za.mp hh
   have dv':aC _ _ _ _ _:=dv
   unfold aC at dv'
   obtain⟨u,us',rfl,p,q⟩:=dv'
   refine⟨u,us',rfl,W,δ,d,δ1,e,ok,hd,p,e1,λσ1 d1 l1 s1=>⟨W,δ1,r,δ',e,ok,d1,q,e2,λσ2 d2 l2 s2=>?_⟩⟩
   exact k σ2 d2 (l2.trans l1) λi hi=>(s2 i λz=>hi (Zn _ z)).trans (s1 i λz=>hi (List.mem_append_left _ z))
theorem fQ{es:List Expr}{k:Nat}{ts:List Nat}{hs:GsF}{n:Nat}(hc:X.calm=true)(h:QV X tb es ts hs)(hn:(assignEach es X.env).length=n:=by rfl)(hst:(assignEach es X.env).findIdx? (·.1)=none:=by rfl):
  PGD X tb (.Tuple es k pos) ts (jl n hs):=
 Sy (Tn hc h hn hst) λv σ H Q zq4=>by
  obtain⟨W,δ,d,δ',e,ok,hd,dv,hh,k⟩:=zq4
  cases d with
  |tup ds=>
   obtain⟨a,xs,rfl,q,r⟩:=iz dv
   have hh':(if ds.length=n then hs ds δ W.mu else none)=some δ':=hh
   by_cases hl:ds.length=n
   .rw[if_pos hl]at hh'
    have q':SqT X.K H a xs:=by rw[<-e];exact SqT.fz q
    have hl':xs.length=n:=by rw[<-aC.length r];exact hl
    exact⟨a,xs,rfl,q',hl',⟨W,δ,ds,δ',e,ok,hd,r,hh',k⟩⟩
   .rw[if_neg hl]at hh';cases hh'
  |_=>cases hh
def Iz(f:EF)(h:GF):SF:=λδ μ=>(f δ μ).bind λr=>(h r.1 δ r.2).bind λδ'=>some (.nx,δ',r.2)
theorem Bx{ts:List Nat}{h:GF}(he:PD X tb e f)(hg:PGD X tb tg ts h)(hs:swapsWithSole [tg] e pos.line X.env=pure false:=by rfl)(hw:swappedStores [tg] e X.env=pure none:=by rfl)
  (h1:(assignEach [tg] X.env).map (·.2)=[assign tg X.env]:=by rfl):PSD X tb (.Assign [tg] e pos) (Iz f h):=
 qu (Oc he hg hs hw h1) λE σ H zq5=>by
  obtain⟨W,δ,fl,δ',μ',e,ok,hd,hf,k⟩:=zq5
  unfold Iz at hf
  obtain⟨⟨x,μ1⟩,e1,hf⟩:=Za.mp hf
  obtain⟨δ1,e2,e3⟩:=Za.mp hf
  cases e3
  refine⟨W,δ,x,_,e,ok,hd,e1,λv W1 ok1 l1 m1 d1=>⟨W1,δ,x,_,rfl,ok1,hd.mono' l1,d1,(by rw[m1];exact e2),λσ1 d2 _ _=>?_⟩⟩
  exact k σ1 W1 ok1 l1 m1 d2
structure Src where
 items:List D
 cel:Option Nat
def Src.ok(S:Src)(μ:Mu):Prop:=∀n,S.cel=some n->μ[n]? =some (some S.items)
theorem Src.bD{S:Src}{μ:Mu}(h:S.cel=none):S.ok μ:=λn e=>by rw[h]at e;cases e
abbrev IF:=En->Mu->Option (Src×Mu)
structure HY(K:PySem.W.Frag)(tb:List Addr)(J:It)(S:Src)(W0:Wd):Prop where
 go:∀(i:Nat) W d,Le tb W0 W->WOk K tb W->S.ok W.mu->S.items[i]? =some d->J.go i W.H/\∀x H',J.yld i W.H x H'->∃W',W'.H=H'/\WOk K tb W'/\Le tb W W'/\W'.mu=W.mu/\Den K tb W' d x
 stop:∀(i:Nat) W,Le tb W0 W->WOk K tb W->S.ok W.mu->S.items.length<=i->J.stop i W.H
def tDI(K:PySem.W.Frag)(tb:List Addr)(f:IF):TI:=λσ H R=>∃W δ S μ',W.H=H/\WOk K tb W/\kI K tb W δ σ/\f δ W.mu=some (S,μ')/\
 ∀J W',WOk K tb W'->Le tb W W'->W'.mu=μ'->HY K tb J S W'->R J W'.H
def PID(X:Cx)(tb:List Addr)(tg iter:Expr)(f:IF):Prop:=PI X tg iter (tDI X.K tb f)
theorem LC{w w':TI}(h:PI X tg iter w)(k:∀σ H R,w' σ H R->w σ H R):PI X tg iter w':=λpins s σ H R I hq=>h pins s σ H R I (k σ H R hq)
theorem Uu{l:Expr}{tl:TE}(hl:PE X l tl):PI X tg l (λσ H R=>tl σ H λx H1=>∃a,x= .ref a/\((∃xs,SqL X.K H1 a xs)/\R (Itl X.K a) H1∨(∃xs,SqT X.K H1 a xs)/\R (Itt X.K a) H1)):=by
 intro pins s σ H R I h
 refine thn (hl pins s σ H _ I h) λv s1 zq6=>?_
 obtain⟨x,H1,I1,r1,q1⟩:=zq6
 obtain⟨a,e,q⟩:=q1
 subst e
 cases r1
 rcases q with⟨⟨xs,hq⟩,q⟩|⟨⟨xs,hq⟩,q⟩
 .obtain⟨its,rv,p,hz⟩:=I1.list hq
  refine wpAny_pyIter_list p.isList ?_
  refine⟨s1.heap.objs.size,[s1.heap.objs.size],_,_,H1,rfl,I1.kept (t':=s1.toks) λb o e=>Zb _ e,zQ a _,⟨_,Zf _ rfl,rfl,rfl⟩,λb hb=>?_,q⟩
  have e:b=s1.heap.objs.size:=by simpa using hb
  subst e
  exact I1.fpOk (Zg _) (I1.hok.fresh (Zg _))
 .obtain⟨its,rv,p,hz⟩:=I1.tuple hq
  refine wpAny_pyIter_tuple (show s1.heap.IsTuple a its.toArray from p) ?_
  refine⟨s1.heap.objs.size,[s1.heap.objs.size],_,_,H1,rfl,I1.kept (t':=s1.toks) λb o e=>Zb _ e,yx a _,⟨_,Zf _ rfl,rfl,rfl⟩,λb hb=>?_,q⟩
  have e:b=s1.heap.objs.size:=by simpa using hb
  subst e
  exact I1.fpOk (Zg _) (I1.hok.fresh (Zg _))
def srcOf(d:D)(μ:Mu):Option Src:=match d with
 | .tup ds=>some ⟨ds,none⟩
 | .lst ds=>some ⟨ds,none⟩
 | .cell n=>match μ[n]? with
  |some (some ds)=>some ⟨ds,some n⟩
  |_=>none
 |_=>none
theorem Kv{K:PySem.W.Frag}{W0:Wd}{a:Addr}{xs:List V}{ds:List D}(q:SqL K (W0.fz tb) a xs)(r:cV K tb W0 ds xs):HY K tb (Itl K a) ⟨ds,none⟩ W0 where
 go:=λi W d l ok _ e=>by
  have q':SqL K W.H a xs:=SqL.fz (SqL.mono l.same q)
  obtain⟨v,ev,dv⟩:=aC.get (cV.mono' r l) e
  exact⟨⟨xs,v,q',ev⟩,λx H' ⟨e1,e2⟩=>⟨W,e1.symm,ok,Le.refl _,rfl,by have:=e2 xs q';rw[ev]at this;cases this;exact dv⟩⟩
 stop:=λi W l ok _ hi=>⟨xs,SqL.fz (SqL.mono l.same q),by rw[<-aC.length r];exact hi⟩
theorem JF{K:PySem.W.Frag}{W0:Wd}{a:Addr}{xs:List V}{ds:List D}(q:SqT K (W0.fz tb) a xs)(r:cV K tb W0 ds xs):HY K tb (Itt K a) ⟨ds,none⟩ W0 where
 go:=λi W d l ok _ e=>by
  have q':SqT K W.H a xs:=SqT.fz (SqT.mono l.same q)
  obtain⟨v,ev,dv⟩:=aC.get (cV.mono' r l) e
  exact⟨⟨xs,v,q',ev⟩,λx H' ⟨e1,e2⟩=>⟨W,e1.symm,ok,Le.refl _,rfl,by have:=e2 xs q';rw[ev]at this;cases this;exact dv⟩⟩
 stop:=λi W l ok _ hi=>⟨xs,SqT.fz (SqT.mono l.same q),by rw[<-aC.length r];exact hi⟩
theorem Tv{K:PySem.W.Frag}{W0:Wd}{a:Addr}{n:Nat}{ds:List D}(q:W0.ad[n]? =some a):HY K tb (Itl K a) ⟨ds,some n⟩ W0 where
 go:=λi W d l ok hs e=>by
  obtain⟨xs,ex,r⟩:=ok.cont n a ds (l.ad _ _ q) (hs n rfl)
  obtain⟨v,ev,dv⟩:=aC.get r e
  exact⟨⟨xs,v,SqL.of ex,ev⟩,λx H' ⟨e1,e2⟩=>⟨W,e1.symm,ok,Le.refl _,rfl,by have:=e2 xs (SqL.of ex);rw[ev]at this;cases this;exact dv⟩⟩
 stop:=λi W l ok hs hi=>by
  obtain⟨xs,ex,r⟩:=ok.cont n a ds (l.ad _ _ q) (hs n rfl)
  exact⟨xs,SqL.of ex,by rw[<-aC.length r];exact hi⟩
def cI(f:EF):IF:=λδ μ=>(f δ μ).bind λr=>(srcOf r.1 r.2).map λS=>(S,r.2)
theorem bF(he:PD X tb e f):PID X tb tg e (cI f):=
 LC (Uu he) λσ H R zq7=>by
  obtain⟨W,δ,S,μ',e,ok,hd,hf,h⟩:=zq7
  unfold cI at hf
  obtain⟨⟨x,μ1⟩,e1,hf⟩:=Za.mp hf
  obtain⟨S',e2,e3⟩:=Zp.mp hf
  cases e3
  refine⟨W,δ,x,_,e,ok,hd,e1,λv W1 ok1 l1 m1 d1=>?_⟩
  cases x with
  |tup ds=>
   cases e2
   obtain⟨a,xs,rfl,q,r⟩:=iz d1
   exact⟨a,rfl,.inr ⟨⟨xs,SqT.fz q⟩,h _ W1 ok1 l1 m1 (JF q r)⟩⟩
  |lst ds=>
   cases e2
   obtain⟨a,xs,rfl,q,r⟩:=mQ d1
   exact⟨a,rfl,.inl ⟨⟨xs,SqL.fz q⟩,h _ W1 ok1 l1 m1 (Kv q r)⟩⟩
  |cell n=>
   obtain⟨a,rfl,q⟩:=jo d1
   have e2':(match μ1[n]? with|some (some ds)=>some (⟨ds,some n⟩:Src)|_=>none)=some S:=e2
   cases e4:μ1[n]? with
   |none=>rw[e4]at e2';cases e2'
   |some o=>
    cases o with
    |none=>rw[e4]at e2';cases e2'
    |some ds=>
     rw[e4]at e2'
     cases e2'
     obtain⟨xs,ex,_⟩:=ok1.cont n a ds q (by rw[m1];exact e4)
     exact⟨a,rfl,.inl ⟨⟨xs,SqL.of ex⟩,h _ W1 ok1 l1 m1 (Tv q)⟩⟩
  |_=>cases e2
def bO(lo:Int)(n:Nat):List D:=(List.range n).map λ(k:Nat)=>D.int (lo+(k:Int))
theorem TJ{K:PySem.W.Frag}{W0:Wd}{lo:Int}{n:Nat}:HY K tb (Itr lo n) ⟨bO lo n,none⟩ W0 where
 go:=λi W d l ok _ e=>by
  unfold bO at e
  rw[List.getElem?_map]at e
  by_cases hi:i<n
  .rw[List.getElem?_range hi]at e
   cases e
   exact⟨hi,λx H' ⟨e1,e2⟩=>⟨W,e1.symm,ok,Le.refl _,rfl,by rw[e2];exact gH⟩⟩
  .rw[List.getElem?_eq_none (by simpa using hi)]at e;cases e
 stop:=λi W l ok _ hi=>by
  unfold bO at hi
  have hi':n<=i:=by simpa using hi
  exact hi'
def bN(fs:AF):IF:=λδ μ=>(fs δ μ).bind λr=>match r.1 with
 | [.int j]=>if -(2 ^ 62)<=j/\j<2 ^ 62 then some (⟨bO 0 j.toNat,none⟩,r.2)else none
 |_=>none
theorem bM{a:Expr}{fs:AF}{p:Pos}(hm:X.mg "range"=none)(ha:PAD X tb [a] fs)(hg:Gl X "range":=by rfl)(hs:starEach [a] X.env=[(false,eval a X.env)]:=by rfl):PID X tb tg (.Call (.Name "range" p) [a] [] pos) (bN fs):=
 LC (HX hg hm ha hs) λσ H R zq8=>by
  obtain⟨W,δ,S,μ',e,ok,hd,hf,h⟩:=zq8
  unfold bN at hf
  obtain⟨⟨xs,μ1⟩,e1,e2⟩:=Za.mp hf
  match xs,e1,e2 with
  | [.int j],e1,e2=>
   have e2':(if -(2 ^ 62)<=j/\j<2 ^ 62 then some ((⟨bO 0 j.toNat,none⟩:Src),μ1)else none)=some (S,μ'):=e2
   split at e2'
   .rename_i hj
    cases e2'
    refine⟨W,δ,_,_,e,ok,hd,e1,λvs W1 ok1 l1 m1 d1=>?_⟩
    obtain⟨u,rfl,du⟩:=aC.one d1
    rw[bQ du]
    exact⟨j,rfl,hj.1,hj.2,h _ W1 ok1 l1 m1 TJ⟩
   .cases e2'
open Classical in
noncomputable def forL(S:Src)(h:GF)(b:SF):List D->SF
 | [],δ,μ=>if S.ok μ then some (.nx,δ,μ)else none
 |d::r,δ,μ=>if S.ok μ then(h d δ μ).bind λδ1=>(b δ1 μ).bind λq=>match q.1 with
  | .nx=>forL S h b r q.2.1 q.2.2
  | .ct=>forL S h b r q.2.1 q.2.2
  | .bk=>some (.nx,q.2)
  | .rt d=>some (.rt d,q.2)
  else none
noncomputable def km(f:IF)(h:GF)(b:SF):SF:=λδ μ=>(f δ μ).bind λr=>forL r.1 h b r.1.items δ r.2
theorem jX{body:List Stmt}{fi:IF}{ts:List Nat}{h:GF}{b:SF}(hp:PassesOwn (model X.prog X.w) X.A X.env X.xe)(hc:X.calm=true)(hi:PID X tb tg iter fi)(hg:PGD X tb tg ts h)(hb:yS X tb body b)
  (hs:∀x,foldedSetIterable iter X.env x=pure x:=by intro _;rfl):PSD X tb (.For tg iter body [] pos) (km fi h b):=
 qu (UL hp hc hi hg hb hs) λE σ H zq10=>by
  obtain⟨W,δ,fl,δ',μ',e,ok,hd,hf,k⟩:=zq10
  unfold km at hf
  obtain⟨⟨S,μ1⟩,e1,e2⟩:=Za.mp hf
  refine⟨W,δ,S,μ1,e,ok,hd,e1,λJ W1 ok1 l1 m1 io=>?_⟩
  refine⟨λi m σ2 H2=>m=S.items.length-i/\i<=S.items.length/\∃W2 δ2,W2.H=H2/\WOk X.K tb W2/\Le tb W1 W2/\kI X.K tb W2 δ2 σ2/\forL S h b (S.items.drop i) δ2 W2.mu=some (fl,δ',μ'),
   ⟨S.items.length,rfl,Nat.zero_le _,W1,δ,rfl,ok1,Le.refl _,hd.mono' l1,by rw[m1];exact e2⟩,?_⟩
  rintro i m σ2 H2 ⟨hm,hi',W2,δ2,rfl,ok2,l2,d2,hn⟩
  by_cases hlt:i<S.items.length
  .right
   have hdr:S.items.drop i=S.items[i]::S.items.drop (i+1):=List.drop_eq_getElem_cons hlt
   rw[hdr]at hn
   unfold forL at hn
   split at hn
   .rename_i hok
    obtain⟨δ3,e3,hn⟩:=Za.mp hn
    obtain⟨⟨fl4,δ4,μ4⟩,e4,e5⟩:=Za.mp hn
    obtain⟨go,yl⟩:=io.go i W2 S.items[i] l2 ok2 hok (by simp[hlt])
    refine⟨go,λσ5 H5=>∃W5,W5.H=H5/\WOk X.K tb W5/\Le tb W1 W5/\kI X.K tb W5 δ4 σ5/\forL S h b (S.items.drop (i+1)) δ4 W5.mu=some (fl,δ',μ'),λσ5 H5 ⟨W5,q1,q2,q3,q4,q5⟩=>⟨S.items.length-(i+1),by omega,rfl,hlt,W5,δ4,q1,q2,q3,q4,q5⟩,λx H' y=>?_⟩
    obtain⟨W3,rfl,ok3,l3,m3,d3⟩:=yl x H' y
    refine⟨W3,δ2,S.items[i],δ3,rfl,ok3,d2.mono' l3,d3,(by rw[m3];exact e3),λσ3 d3' _ _=>?_⟩
    refine⟨W3,δ3,fl4,δ4,μ4,rfl,ok3,d3',(by rw[m3];exact e4),λσ4 W4 ok4 l4 m4 d4=>?_⟩
    cases fl4 with
    |nx=>exact⟨W4,rfl,ok4,(l2.trans l3).trans l4,d4,by rw[m4];exact e5⟩
    |ct=>exact⟨W4,rfl,ok4,(l2.trans l3).trans l4,d4,by rw[m4];exact e5⟩
    |bk=>cases e5;exact k σ4 W4 ok4 (((l1.trans l2).trans l3).trans l4) m4 d4
    |rt d=>cases e5;exact k σ4 W4 ok4 (((l1.trans l2).trans l3).trans l4) m4 d4
   .cases hn
  .left
   have hdr:S.items.drop i=[]:=List.drop_of_length_le (by omega)
   rw[hdr]at hn
   unfold forL at hn
   split at hn
   .rename_i hok
    have hn':some (Fl.nx,δ2,W2.mu)=some (fl,δ',μ'):=hn
    cases hn'
    exact⟨io.stop i W2 l2 ok2 hok (by omega),k σ2 W2 ok2 (l1.trans l2) rfl d2⟩
   .cases hn
abbrev LF:=En->Mu->Option (List D×Mu)
def tDN(K:PySem.W.Frag)(tb:List Addr)(f:LF):TE:=λσ H Q=>∃W δ ds μ',W.H=H/\WOk K tb W/\kI K tb W δ σ/\f δ W.mu=some (ds,μ')/\
 ∀p vs W',WOk K tb W'->Le tb W W'->W'.mu=μ'->W'.H p=none->cV K tb W' ds vs->Q (.ref p) (upd W'.H p (.lst vs))
def PDN(X:Cx)(tb:List Addr)(e:Expr)(f:LF):Prop:=PE X e (tDN X.K tb f)
def mFz(f:LF):EF:=λδ μ=>(f δ μ).bind λr=>some (.lst r.1,r.2)
def nG(f:LF):EF:=λδ μ=>(f δ μ).bind λr=>some (.cell r.2.length,r.2++[some r.1])
theorem cj{f:LF}(h:PDN X tb e f):PD X tb e (mFz f):=fU h λσ H Q zq11=>by
 obtain⟨W,δ,d,μ',e,ok,hd,hf,k⟩:=zq11
 unfold mFz at hf
 obtain⟨⟨ds,μ1⟩,e1,e2⟩:=Za.mp hf
 cases e2
 refine⟨W,δ,ds,_,e,ok,hd,e1,λp vs W1 ok1 l1 m1 hp r=>?_⟩
 exact lZ ok1 (λv W' ok' l' m' d'=>k v W' ok' (l1.trans l') (m'.trans m1) d') r hp
theorem nW{f:LF}(h:PDN X tb e f):PD X tb e (nG f):=fU h λσ H Q zq12=>by
 obtain⟨W,δ,d,μ',e,ok,hd,hf,k⟩:=zq12
 unfold nG at hf
 obtain⟨⟨ds,μ1⟩,e1,e2⟩:=Za.mp hf
 cases e2
 refine⟨W,δ,ds,μ1,e,ok,hd,e1,λp vs W1 ok1 l1 m1 hp r=>?_⟩
 obtain⟨ok2,l2,d2⟩:=ok1.new hp r
 exact k _ _ ok2 (l1.trans l2) (by show W1.mu++[some ds]=_;rw[m1]) (by rw[<-m1];exact d2)
def qU(fs:AF):LF:=λδ μ=>(fs δ μ).bind λr=>if r.1.length<=sizeLine then some r else none
theorem Bw{es:List Expr}{fs:AF}(h:PAD X tb es fs):PDN X tb (.List es pos) (qU fs):=fU (Oh h) λσ H Q zq13=>by
 obtain⟨W,δ,ds,μ',e,ok,hd,hf,k⟩:=zq13
 unfold qU at hf
 obtain⟨⟨xs,μ1⟩,e1,e2⟩:=Za.mp hf
 split at e2
 .rename_i hl
  cases e2
  exact⟨W,δ,_,_,e,ok,hd,e1,λvs W1 ok1 l1 m1 d1=>⟨by rw[<-aC.length d1];exact hl,λp hp=>k p vs W1 ok1 l1 m1 hp d1⟩⟩
 .cases e2
def bZ(own:List Str)(δ:En)(capI:List Nat):En:=List.replicate own.length none++capI.map λi=>(δ[i]?).join
theorem Ar{K:PySem.W.Frag}{W:Wd}{own:List Str}{capI:List Nat}{δ:En}{σ:SV}(h:kI K tb W δ σ):kI K tb W (bZ own δ capI) (dJ own σ capI):=by
 refine⟨by unfold bZ dJ xg;simp,λi d e=>?_⟩
 unfold bZ at e
 unfold dJ xg
 by_cases hi:i<own.length
 .rw[Zs (by simpa using hi),List.getElem?_replicate]at e
  split at e<;>cases e
 .rw[List.getElem?_append_right (by simpa using hi),List.getElem?_map]at e
  rw[List.getElem?_append_right (by simpa using hi),List.getElem?_map]
  rw[List.length_replicate]at e ⊢
  cases q:capI[i-own.length]? with
  |none=>rw[q]at e;cases e
  |some j=>
   rw[q]at e
   have e':(δ[j]?).join=some d:=by simpa using e
   cases q2:δ[j]? with
   |none=>rw[q2]at e';cases e'
   |some o=>
    rw[q2]at e'
    have e2:o=some d:=e'
    subst e2
    obtain⟨v,ev,dv⟩:=h.2 j d q2
    exact⟨v,by simp[ev],dv⟩
theorem fits_of{own:List Str}{capI:List Nat}{σ σ':SV}{ts:List Nat}(hts:∀i∈ts,i<own.length)(hl:σ'.length=(dJ own σ capI).length)(h:∀i,i∉ts->σ'[i]? =(dJ own σ capI)[i]?):Fits (dJ own σ capI) σ':=
 ⟨hl,λi v e=>by
  rw[h i λz=>?_]
  .exact e
  .unfold dJ at e
   rw[Zs (by simpa using hts i z),List.getElem?_replicate]at e
   split at e<;>cases e⟩
open Classical in
noncomputable def lcL(S:Src)(h:GF)(tt:TF)(fe:EF)(δb:En):List D->Mu->Option (List D×Mu)
 | [],μ=>if S.ok μ then some ([],μ)else none
 |d::r,μ=>if S.ok μ then(h d δb μ).bind λδ1=>(tt δ1 μ).bind λk=>if k.1=true then(fe δ1 k.2).bind λy=>(lcL S h tt fe δb r y.2).bind λys=>some (y.1::ys.1,ys.2)else lcL S h tt fe δb r k.2 else none
noncomputable def lLC(own:List Str)(capI:List Nat)(fi:IF)(h:GF)(tt:TF)(fe:EF):LF:=λδ μ=>(fi δ μ).bind λr=>if r.1.items.length<=sizeLine then lcL r.1 h tt fe (bZ own δ capI) r.1.items r.2 else none
def Qp(X:Cx)(tb:List Addr)(ifs:List Expr)(t:TF):Prop:=PIf X ifs (tDT X.K tb t)
def aQ:TF:=λ_ μ=>some (true,μ)
theorem Uk{X:Cx}{e:List Expr}{t t':TT}(h:PIf X e t)(k:∀σ H Q,t' σ H Q->t σ H Q):PIf X e t':=λpins s σ H Q I hq=>h pins s σ H Q I (k σ H Q hq)
theorem aY:Qp X tb [] aQ:=Uk OJ λσ H Q zq14=>by
 obtain⟨W,δ,k,μ',e,ok,hd,hf,h⟩:=zq14
 subst e;cases hf
 exact h W ok (Le.refl _) rfl
theorem pW{c:Expr}{t:TF}(h:PTD X tb c t):Qp X tb [c] t:=Rm h
theorem bT{ifs:List Expr}{fi:IF}{h:GF}{tt:TF}{fe:EF}{own cap:List Str}{capI ts:List Nat}{scope:Scope}(hc:X.calm=true)(B:je X own cap capI scope)(hown:∀x∈own,(x,NameKind.free)∉scope.names)(hi:PID X tb tg iter fi)
  (hg:∀cs C fp s2 H2,PGD (gf X own cap scope cs C fp s2 H2) tb tg ts h) (ht:∀cs C fp s2 H2,Qp (gf X own cap scope cs C fp s2 H2) tb ifs tt) (he:∀cs C fp s2 H2,PD (gf X own cap scope cs C fp s2 H2) tb elt fe)
  (hts:∀i∈ts,i<own.length:=by decide) (hs:∀x,foldedSetIterable iter X.env x=pure x:=by intro _;rfl):PDN X tb (.ListComp elt [⟨tg,iter,ifs,0⟩] scope pos) (lLC own capI fi h tt fe):=
 fU (XN (g:=tDG X.K tb ts h) (tt:=tDT X.K tb tt) (te:=tD X.K tb fe) hc B hown hi hg ht he hs) λσ H Q zq15=>by
  obtain⟨W,δ,ds,μ',e,ok,hd,hf,k⟩:=zq15
  unfold lLC at hf
  obtain⟨⟨S,μ1⟩,e1,e2⟩:=Za.mp hf
  split at e2
  .rename_i hz
   refine⟨W,δ,S,μ1,e,ok,hd,e1,λJ W1 ok1 l1 m1 io=>?_⟩
   refine⟨λi m ys H2=>m=S.items.length-i/\i<=S.items.length/\ys.length<=i/\∃W2 zs rs,W2.H=H2/\WOk X.K tb W2/\Le tb W1 W2/\cV X.K tb W2 zs ys/\lcL S h tt fe (bZ own δ capI) (S.items.drop i) W2.mu=some (rs,μ')/\zs++rs=ds,
    ⟨S.items.length,rfl,Nat.zero_le _,Nat.zero_le _,W1,[],ds,rfl,ok1,Le.refl _,aC.nil,by rw[m1];exact e2,rfl⟩,?_⟩
   rintro i m ys H2 ⟨hm,hi',hy,W2,zs,rs,rfl,ok2,l2,d2,hn,hzs⟩
   by_cases hlt:i<S.items.length
   .right
    have hdr:S.items.drop i=S.items[i]::S.items.drop (i+1):=List.drop_eq_getElem_cons hlt
    rw[hdr]at hn
    unfold lcL at hn
    split at hn
    .rename_i hok
     obtain⟨δ3,e3,hn⟩:=Za.mp hn
     obtain⟨⟨kk,μ4⟩,e4,hn⟩:=Za.mp hn
     obtain⟨go,yl⟩:=io.go i W2 S.items[i] l2 ok2 hok (by simp[hlt])
     refine⟨go,Zc (Nat.lt_of_le_of_lt hy hlt) hz,λx H' y=>?_⟩
     obtain⟨W3,rfl,ok3,l3,m3,d3⟩:=yl x H' y
     refine⟨W3,bZ own δ capI,S.items[i],δ3,rfl,ok3,(Ar hd).mono' ((l1.trans l2).trans l3),d3,(by rw[m3];exact e3),λσ3 d3' hl3 ht3=>⟨fits_of hts hl3 ht3,?_⟩⟩
     refine⟨W3,δ3,kk,μ4,rfl,ok3,d3',(by rw[m3];exact e4),λW4 ok4 l4 m4=>?_⟩
     cases kk with
     |false=>
      rw[if_neg Zr]
      exact⟨S.items.length-(i+1),by omega,rfl,hlt,by omega,W4,zs,rs,rfl,ok4,(l2.trans l3).trans l4,cV.mono' d2 (l3.trans l4),by rw[m4];exact hn,hzs⟩
     |true=>
      rw[if_pos rfl]
      have hn':((fe δ3 μ4).bind λy=>(lcL S h tt fe (bZ own δ capI) (S.items.drop (i+1)) y.2).bind λys=>some (y.1::ys.1,ys.2))=some (rs,μ'):=hn
      obtain⟨⟨yd,μ5⟩,e5,hn'⟩:=Za.mp hn'
      obtain⟨⟨rs',μ6⟩,e6,e7⟩:=Za.mp hn'
      cases e7
      refine⟨W4,δ3,yd,μ5,rfl,ok4,d3'.mono' l4,(by rw[m4];exact e5),λv W5 ok5 l5 m5 d5=>?_⟩
      refine⟨S.items.length-(i+1),by omega,rfl,hlt,by rw[List.length_append];simp;omega,W5,zs++[yd],rs',rfl,ok5,((l2.trans l3).trans l4).trans l5,aC.append (cV.mono' d2 ((l3.trans l4).trans l5)) (aC.cons d5 aC.nil),by rw[m5];exact e6,by rw[List.append_assoc];exact hzs⟩
    .cases hn
   .left
    have hdr:S.items.drop i=[]:=List.drop_of_length_le (by omega)
    rw[hdr]at hn
    unfold lcL at hn
    split at hn
    .rename_i hok
     cases hn
     rw[List.append_nil]at hzs
     subst hzs
     exact⟨io.stop i W2 l2 ok2 hok (by omega),λl hl=>k l ys W2 ok2 (l1.trans l2) rfl hl d2⟩
    .cases hn
  .cases e2
end
end L3
namespace L2
open PySem PySem.Spec PyProof.Rows
theorem Ce{X:Cx}{pins:List (Addr×Obj)}{σ:L2.St}{H:Hp}{s:Shared}(I:Inv X pins σ H s)(hc:X.calm=true){A':Around}(h1:A'.handled=X.A.handled)(h2:A'.frames=X.A.frames):A'.handled=none/\A'.frames=some X.stack:=
 ⟨h1.trans (I.ok.hd hc),h2.trans I.ok.frames⟩
theorem wg{X:Cx}{e:Expr}{pos:Pos}{s:Shared}{Q:List Value->Shared->Prop}(h:wpAny (model X.prog X.w) X.A (eval e X.env) (λu s1=>Q [u] s1) X.xe s)(hs:starEach [e] X.env=(false,eval e X.env)::starEach [] X.env:=by rfl):
  wpAny (model X.prog X.w) X.A (spliced (backTo pos (starEach [e] X.env))) Q X.xe s:=by
 rw[hs]
 show wpAny _ _ (spliced ((false,eval e X.env)::backTo pos (starEach [] X.env))) _ _ s
 exact Calls.spliced_cons (thn h λu s1 q=>Calls.spliced_nil q)
def Ia(y:V)(k:Bool):Prop:=y= .bl k∨∃i,y= .int i/\k=(i != 0)
theorem Hu{P:Program}{w:World}{A:Around}{E:Value->Shared->Prop}{s:Shared}{y:V}{v:Value}{k:Bool}{Q:Bool->Shared->Prop}(r:RelV y v)(h:Ia y k)(hq:Q k s):wpAny (model P w) A (truthy v) Q E s:=by
 rcases h with rfl|⟨i,rfl,rfl⟩
 .cases r;exact wpAny_truthy_bool hq
 .obtain⟨t,rfl⟩:=r;exact PySem.P.truthy_int hq
theorem CZ{M:Model}{A:Around}{E:Value->Shared->Prop}{s:Shared}{t:Sem (Option Value)}{P:Value->Shared->Prop}{f:Value->Sem Unit}(hf:∀u,f u=pure ())
  (h:wpAny M A t (λr s1=>∃u,r=some u/\wpAny M A (f u) (λ_ s2=>P u s2) E s1) E s):wpAny M A t (λr s1=>∃u,r=some u/\P u s1) E s:=λΓ p hΓ=>
 Sem.wp_mono M Γ t (λa p' s ⟨u,e,q⟩=>⟨u,e,by rw[hf]at q;exact q Γ p' hΓ⟩) (λ_ _ _ e=>e) p s (h Γ p hΓ)
section
variable {X:Cx} {e:Expr} {ts:uQ} {p pos:Pos} {pins:List (Addr×Obj)} {σ:L2.St}
def Xq(ts:uQ):TE:=λσ H Q=>ts σ H λS H1=>∃W:Nat->Nat->Hp->Prop,(∃m,W 0 m H1)/\∀i m H,W i m H->
 (S.fin i H/\Q (.bl true) H)∨S.nxt i H λy H'=>∃k,Ia y k/\if k=true then∃m',m'<m/\W (i+1) m' H' else Q (.bl false) H'
def Wq(ts:uQ):TE:=λσ H Q=>ts σ H λS H1=>∃W:Nat->Nat->Hp->Prop,(∃m,W 0 m H1)/\∀i m H,W i m H->
 (S.fin i H/\Q (.bl false) H)∨S.nxt i H λy H'=>∃k,Ia y k/\if k=true then Q (.bl true) H' else∃m',m'<m/\W (i+1) m' H'
theorem Ko{it:Addr}{lo:Nat}{S:qZ}{SS:List (Addr×Obj)->Nat->Hp->Shared->Prop}{Q:VK}{W:Nat->Nat->Hp->Prop}(sm:BK X pins σ X.A.in1 it lo S SS)
  (st:∀i m H,W i m H->(S.fin i H/\Q (.bl true) H)∨S.nxt i H λy H'=>∃k,Ia y k/\if k=true then∃m',m'<m/\W (i+1) m' H' else Q (.bl false) H'):
  ∀(m i:Nat)(H:Hp)(s:Shared),SS [] i H s->W i m H->codeAny (model X.prog X.w) X.A (.builtin "all.loop" ⟨[.ref it],[]⟩) (λr s'=>∃u,r= .ok (.ret u)/\EP X pins σ Q u s') s:=by
 intro m
 induction m using Nat.strongRecOn with
 |ind m ih=>
  intro i H s hs hw
  refine codeAny_builtin F.entry_all_loop ?_
  rw[Around.under_plainId F.plain_all_loop _]
  show wpAny _ X.A.in1 (pyNext (.ref it) >>= _) _ _ s
  rcases st i m H hw with⟨hf,q⟩|hn
  .refine wpAny_bind (wpAny_mono (sm.stop (λ_ _=>False) hs hf) (λr s1 ⟨hr,I1⟩=>?_) λ_ _ z=>z.elim)
   subst hr
   refine wpAny_bind (wpAny_rule (wpAny_pure ⟨_,rfl,.bl true,H,?_,rfl,q⟩))
   rw[List.append_nil]at I1
   exact I1
  .refine wpAny_bind (wpAny_mono (sm.next (λ_ _=>False) hs hn) (λr s1 ⟨u,y,H',hr,ry,⟨k,tk,q⟩,hs'⟩=>?_) λ_ _ z=>z.elim)
   subst hr
   refine wpAny_bind (wpAny_holding (Hu ry tk ?_))
   refine wpAny_bind (wpAny_letGo ?_)
   cases k with
   |true=>
    simp only[if_true]
    rw[if_pos rfl]at q
    obtain⟨m',hm,hw'⟩:=q
    exact wpAny_pure ⟨plainId_quiet F.plain_all_loop _,ih m' hm (i+1) H' s1 hs' hw'⟩
   |false=>
    simp only[Bool.false_eq_true,if_false]
    rw[if_neg Zr]at q
    refine wpAny_bind (wpAny_rule (wpAny_pure ⟨_,rfl,.bl false,H',?_,rfl,q⟩))
    have I1:=sm.inv hs'
    rw[List.append_nil]at I1
    exact I1
theorem Ka{it:Addr}{lo:Nat}{S:qZ}{SS:List (Addr×Obj)->Nat->Hp->Shared->Prop}{Q:VK}{W:Nat->Nat->Hp->Prop}(sm:BK X pins σ X.A.in1 it lo S SS)
  (st:∀i m H,W i m H->(S.fin i H/\Q (.bl false) H)∨S.nxt i H λy H'=>∃k,Ia y k/\if k=true then Q (.bl true) H' else∃m',m'<m/\W (i+1) m' H'):
  ∀(m i:Nat)(H:Hp)(s:Shared),SS [] i H s->W i m H->codeAny (model X.prog X.w) X.A (.builtin "any.loop" ⟨[.ref it],[]⟩) (λr s'=>∃u,r= .ok (.ret u)/\EP X pins σ Q u s') s:=by
 intro m
 induction m using Nat.strongRecOn with
 |ind m ih=>
  intro i H s hs hw
  refine codeAny_builtin F.entry_any_loop ?_
  rw[Around.under_plainId F.plain_any_loop _]
  show wpAny _ X.A.in1 (pyNext (.ref it) >>= _) _ _ s
  rcases st i m H hw with⟨hf,q⟩|hn
  .refine wpAny_bind (wpAny_mono (sm.stop (λ_ _=>False) hs hf) (λr s1 ⟨hr,I1⟩=>?_) λ_ _ z=>z.elim)
   subst hr
   refine wpAny_bind (wpAny_rule (wpAny_pure ⟨_,rfl,.bl false,H,?_,rfl,q⟩))
   rw[List.append_nil]at I1
   exact I1
  .refine wpAny_bind (wpAny_mono (sm.next (λ_ _=>False) hs hn) (λr s1 ⟨u,y,H',hr,ry,⟨k,tk,q⟩,hs'⟩=>?_) λ_ _ z=>z.elim)
   subst hr
   refine wpAny_bind (wpAny_holding (Hu ry tk ?_))
   refine wpAny_bind (wpAny_letGo ?_)
   cases k with
   |false=>
    simp only[Bool.false_eq_true,if_false]
    rw[if_neg Zr]at q
    obtain⟨m',hm,hw'⟩:=q
    exact wpAny_pure ⟨plainId_quiet F.plain_any_loop _,ih m' hm (i+1) H' s1 hs' hw'⟩
   |true=>
    simp only[if_true]
    rw[if_pos rfl]at q
    refine wpAny_bind (wpAny_rule (wpAny_pure ⟨_,rfl,.bl true,H',?_,rfl,q⟩))
    have I1:=sm.inv hs'
    rw[List.append_nil]at I1
    exact I1
theorem PJ(hc:X.calm=true)(hm:X.mg "all"=none)(hstr:Dg X e ts)(hg:Gl X "all":=by rfl)(hs:starEach [e] X.env=(false,eval e X.env)::starEach [] X.env:=by rfl):PE X (.Call (.Name "all" p) [e] [] pos) (Xq ts):=by
 intro pins s σ H Q I h
 refine wpAny_Call_Name_kw (oX I hg hm boot_all ?_ (by decide) (by decide))
 refine PyProof.Rows.callWith_builtin1 (wg (thn (hstr pins s σ H _ I h) λu s1 ⟨S,H1,I1,rdy,W,⟨m,w0⟩,st⟩=>?_) hs) hs rfl
 refine call_function_tree F.kind_all F.plain_all F.entry_all (F.args_all1 _) ?_
 unfold Builtin.«all»
 refine wpAny_bind (m:=oneArg "all" _) (wpAny_pure ?_)
 obtain⟨a1,a2⟩:=Ce I1 hc (A':=X.A.in1) rfl rfl
 refine wpAny_bind (wpAny_mono (rdy X.A.in1 (λ_ _=>False) a1 a2 (Nat.le_succ _) (by show X.A.units+1<=_;omega)) (λitv s2 ⟨it,lo,SS,e,sm,s0,_⟩=>?_) λ_ _ z=>z.elim)
 subst e
 refine wpAny_pure ⟨plainId_quiet F.plain_all_loop _,codeAny_mono (Ko sm st m 0 H1 s2 s0 w0) λr s' ⟨u,hr,q⟩=>?_⟩
 subst hr
 exact q
theorem Rk(hc:X.calm=true)(hm:X.mg "any"=none)(hstr:Dg X e ts)(hg:Gl X "any":=by rfl)(hs:starEach [e] X.env=(false,eval e X.env)::starEach [] X.env:=by rfl):PE X (.Call (.Name "any" p) [e] [] pos) (Wq ts):=by
 intro pins s σ H Q I h
 refine wpAny_Call_Name_kw (oX I hg hm boot_any ?_ (by decide) (by decide))
 refine PyProof.Rows.callWith_builtin1 (wg (thn (hstr pins s σ H _ I h) λu s1 ⟨S,H1,I1,rdy,W,⟨m,w0⟩,st⟩=>?_) hs) hs rfl
 refine call_function_tree F.kind_any F.plain_any F.entry_any (F.args_any1 _) ?_
 unfold Builtin.«any»
 refine wpAny_bind (m:=oneArg "any" _) (wpAny_pure ?_)
 obtain⟨a1,a2⟩:=Ce I1 hc (A':=X.A.in1) rfl rfl
 refine wpAny_bind (wpAny_mono (rdy X.A.in1 (λ_ _=>False) a1 a2 (Nat.le_succ _) (by show X.A.units+1<=_;omega)) (λitv s2 ⟨it,lo,SS,e,sm,s0,_⟩=>?_) λ_ _ z=>z.elim)
 subst e
 refine wpAny_pure ⟨plainId_quiet F.plain_any_loop _,codeAny_mono (Ka sm st m 0 H1 s2 s0 w0) λr s' ⟨u,hr,q⟩=>?_⟩
 subst hr
 exact q
def GP(J:It):qZ:=⟨λi H Q=>J.go i H/\∀x H',J.yld i H x H'->Q x H',λi H=>J.stop i H⟩
theorem zU{A':Around}{it:Addr}{fp:List Addr}{tn:Nat->Heap->Prop}{J:It}{H:Hp}{s:Shared}(hc:X.calm=true)(hP:A'.handled=none)(hf:A'.frames=some X.stack)
  (T:Turn X.prog X.w X.K (.Name "x" ⟨0,0,0,0⟩) J fp it tn) (I:Inv X pins σ H s) (st:tn 0 s.heap) (fk:∀b∈fp,nT X pins H b):
  ∃lo SS,BK X pins σ A' it lo (GP J) SS/\SS [] 0 H s/\lo<=s.heap.objs.size:=by
 have toA:∀{P:List (Addr×Obj)}{H:Hp}{s:Shared},Inv X P σ H s->Inv ({ X with A:=A'}:Cx) P σ H s:=λI=>
  ⟨⟨I.ok.mod,I.ok.kind,I.ok.glob,I.ok.blt,I.ok.above,I.ok.inj,I.ok.has,I.ok.cab,λ_=>hP,hf,I.ok.stk,I.ok.exf,I.ok.bs,I.ok.bsz,I.ok.noex,I.ok.exfs,I.ok.funs,I.ok.frf⟩,I.os,I.bare,I.base,I.loc,I.cell,I.free,I.freeC,I.pin,I.hok,I.len⟩
 have ofA:∀{P:List (Addr×Obj)}{H:Hp}{s:Shared},X.Ok->Inv ({ X with A:=A'}:Cx) P σ H s->Inv X P σ H s:=λok I=>
  ⟨ok,I.os,I.bare,I.base,I.loc,I.cell,I.free,I.freeC,I.pin,I.hok,I.len⟩
 have flt:∀b∈fp,b<s.heap.objs.size:=λb hb=>let⟨o,e,_⟩:=T.obj 0 _ st b hb;Ze e
 have fkA:∀{P:List (Addr×Obj)}{H':Hp},(∀p∈P,s.heap.objs.size<=p.1)->(∀b∈fp,H' b=none)->∀b∈fp,nT ({ X with A:=A'}:Cx) (pins++P) H' b:=λ{P H'} hP hn b hb=>by
  obtain⟨q0,q1,q2,q3,q4,q5⟩:=fk b hb
  refine⟨hn b hb,q1,q2,q3,q4,λp hp=>?_⟩
  rcases Zm.mp hp with z|z
  .exact q5 p (by simp only[Zm];exact .inl z)
  .rcases Zm.mp z with z|z
   .exact q5 p (by simp only[Zm];exact .inr z)
   .exactλe=>absurd (flt b hb) (by rw[<-e];exact Nat.not_lt.mpr (hP p z))
 refine⟨s.heap.objs.size,λP i H' s'=>(∀p∈P,s.heap.objs.size<=p.1)/\Inv X (pins++P) σ H' s'/\tn i s'.heap/\∀b∈fp,H' b=none,⟨λst=>st.2.1,?_,?_,?_,?_,?_,?_⟩,⟨λp hp=>absurd hp (by simp),by rw[List.append_nil];exact I,st,λb hb=>(fk b hb).1⟩,Zg _⟩
 .rintro P i H1 s1 Q E ⟨hP1,I1,st1,fr1⟩ ⟨go,yl⟩
  have q:=T.item ({ X with A:=A'}:Cx) rfl rfl rfl hc i (pins++P) s1 σ H1 (λ_ _=>False) (toA I1) (fkA hP1 fr1) st1 go
  refine wpAny_mono (CZ (λu=>rfl) q) (λr s2 ⟨u,hr,x,H',I3,r3,y3,st3,fr3⟩=>?_) λ_ _ z=>z.elim
  exact⟨u,x,H',hr,r3,yl x H' y3,hP1,ofA I1.ok I3,st3,fr3⟩
 .rintro P i H1 s1 E ⟨hP1,I1,st1,fr1⟩ hf
  exact wpAny_mono (T.done ({ X with A:=A'}:Cx) rfl rfl rfl hc i (pins++P) s1 σ H1 (λ_ _=>False) (toA I1) (fkA hP1 fr1) st1 hf) (λr s2 ⟨hr,I2⟩=>⟨hr,ofA I1.ok I2⟩) λ_ _ z=>z.elim
 .rintro P i H1 s1 h' tk ⟨hP1,I1,st1,fr1⟩ hk
  exact⟨hP1,I1.kept hk,T.keep _ _ _ st1 λb _ o e=>hk b o e,fr1⟩
 .rintro P i H1 s1 D o ⟨hP1,I1,st1,fr1⟩ hD ho hn hcell
  refine⟨λp hp=>?_,I1.pins_of λp hp=>?_,st1,fr1⟩
  .rcases Zi.mp hp with z|z
   .subst z;exact hD
   .exact hP1 p z
  .rcases Zm.mp hp with z|z
   .exact I1.pin p (by simp[z])
   .rcases Zi.mp z with z|z
    .subst z
     exact⟨ho,hn,λz=>absurd I.lt (by rw[<-z];exact Nat.not_lt.mpr hD),I.nofs hD,hcell⟩
    .exact I1.pin p (by simp[z])
 .rintro p P i H1 s1 ⟨hP1,I1,st1,fr1⟩
  exact⟨λq hq=>hP1 q (List.mem_cons_of_mem _ hq),I1.pins_of λq hq=>I1.pin q (by rcases Zm.mp hq with z|z<;>simp[z]),st1,fr1⟩
 .rintro P i H1 s1 h' tk D ⟨hP1,I1,st1,fr1⟩ hD hn hPD hk
  have l4:∀b,b<s.heap.objs.size->b≠D:=λb hb=>Zk (Zc hb hD)
  refine⟨hP1,I1.turned hk hn (Ne.symm (l4 _ I.lt)) (.inr (Zl I.sz hD)) (λx c e=>let⟨v,q⟩:=I.cell x c e;l4 c q.lt) (λp hp=>?_),T.keep _ _ _ st1 λb hb o e=>hk b o (l4 b (flt b hb)) e,fr1⟩
  rcases Zm.mp hp with z|z
  .exact l4 _ (Ze (I.pin p (by simp[z])).1)
  .rcases Zm.mp z with z|z
   .exact l4 _ (Ze (I.pin p (by simp[z])).1)
   .exact hPD p z
theorem Km{te:TE}(hc:X.calm=true)(he:PE X e te):Dg X e (λσ H R=>te σ H λx H1=>∃a,x= .ref a/\((∃xs,SqL X.K H1 a xs)/\R (GP (Itl X.K a)) H1∨(∃xs,SqT X.K H1 a xs)/\R (GP (Itt X.K a)) H1)):=by
 intro pins s σ H R I h
 refine thn (he pins s σ H _ I h) λv s1 zq1=>?_
 obtain⟨x,H1,I1,r1,a,e,q⟩:=zq1
 subst e
 cases r1
 rcases q with⟨⟨xs,hq⟩,q⟩|⟨⟨xs,hq⟩,q⟩
 .refine⟨_,H1,I1,λA' E h1 h2 h3 h4=>?_,q⟩
  obtain⟨its,rv,p,hz⟩:=I1.list hq
  refine wpAny_pyIter_list p.isList ?_
  obtain⟨lo,SS,sm,s0,hl⟩:=zU (A':=A') (H:=H1) (s:={ s1 with heap:=s1.heap.push { cls:=.type "list_iterator",data:=.fields #[.ref a,.int 0 0] } }) hc h1 h2 (zQ a s1.heap.objs.size) (I1.kept (t':=s1.toks) λb o e=>Zb _ e) ⟨_,Zf _ rfl,rfl,rfl⟩ λb hb=>by
   have e:b=s1.heap.objs.size:=by simpa using hb
   subst e
   exact I1.fpOk (Zg _) (I1.hok.fresh (Zg _))
  exact⟨_,lo,SS,rfl,sm,s0,hl⟩
 .refine⟨_,H1,I1,λA' E h1 h2 h3 h4=>?_,q⟩
  obtain⟨its,rv,p,hz⟩:=I1.tuple hq
  refine wpAny_pyIter_tuple (show s1.heap.IsTuple a its.toArray from p) ?_
  obtain⟨lo,SS,sm,s0,hl⟩:=zU (A':=A') (H:=H1) (s:={ s1 with heap:=s1.heap.push { cls:=.type "tuple_iterator",data:=.fields #[.ref a,.int 0 0] } }) hc h1 h2 (yx a s1.heap.objs.size) (I1.kept (t':=s1.toks) λb o e=>Zb _ e) ⟨_,Zf _ rfl,rfl,rfl⟩ λb hb=>by
   have e:b=s1.heap.objs.size:=by simpa using hb
   subst e
   exact I1.fpOk (Zg _) (I1.hok.fresh (Zg _))
  exact⟨_,lo,SS,rfl,sm,s0,hl⟩
end
section
variable {X:Cx} {e:Expr} {ts:uQ} {p pos:Pos} {pins:List (Addr×Obj)} {σ:L2.St}
def Vq(S:qZ)(Fin:List V->Hp->Prop)(H1:Hp):Prop:=∃W:Nat->Nat->List V->Hp->Prop,(∃m,W 0 m [] H1)/\∀i m ys H,W i m ys H->
 (S.fin i H/\Fin ys H)∨(ys.length<sizeLine/\S.nxt i H λy H'=>∃m',m'<m/\W (i+1) m' (ys++[y]) H')
theorem Cq{A:Around}{it D:Addr}{lo:Nat}{S:qZ}{SS:List (Addr×Obj)->Nat->Hp->Shared->Prop}{Fin:List V->Hp->Prop}{W:Nat->Nat->List V->Hp->Prop}{res:Value}(sm:BK X pins σ A.in1 it lo S SS)(hD:lo<=D)
  (st:∀i m ys H,W i m ys H->(S.fin i H/\Fin ys H)∨(ys.length<sizeLine/\S.nxt i H λy H'=>∃m',m'<m/\W (i+1) m' (ys++[y]) H')):
  ∀(m i:Nat)(ys:List V)(us:List Value)(c:Nat)(H:Hp)(s:Shared),SS [] i H s->W i m ys H->Vals ys us->ys.length<=sizeLine->s.heap.get? D=some (cH us c)->H D=none->
   codeAny (model X.prog X.w) A (.builtin "list.extend.loop" ⟨[.ref D,.ref it,res],[]⟩) (λr s'=>r= .ok (.ret res)/\∃ys us c H',Inv X pins σ H' s'/\Vals ys us/\ys.length<=sizeLine/\s'.heap.get? D=some (cH us c)/\H' D=none/\Fin ys H') s:=by
 intro m
 induction m using Nat.strongRecOn with
 |ind m ih=>
  intro i ys us c H s hs hw hv hz ho hn
  have hsp:=sm.pin hs hD ho hn (λv z=>by cases z)
  refine codeAny_builtin F.entry_extend_loop ?_
  rw[Around.under_plainId F.plain_extend_loop _]
  show wpAny _ A.in1 (pyNext (.ref it) >>= _) _ _ s
  rcases st i m ys H hw with⟨hf,q⟩|⟨hlt,hn'⟩
  .refine wpAny_bind (wpAny_mono (sm.stop (λ_ _=>False) hsp hf) (λr s1 ⟨hr,I1⟩=>?_) λ_ _ z=>z.elim)
   subst hr
   have pl:=I1.pin (D,cH us c) (by simp)
   exact wpAny_pure ⟨rfl,ys,us,c,H,I1.pins_of λp hp=>I1.pin p (by simp[hp]),hv,hz,pl.1,hn,q⟩
  .refine wpAny_bind (wpAny_mono (sm.next (λ_ _=>False) hsp hn') (λr s1 ⟨u,y,H',hr,ry,⟨m',hm,hw'⟩,hs'⟩=>?_) λ_ _ z=>z.elim)
   subst hr
   have pl:=(sm.inv hs').pin (D,cH us c) (by simp)
   have hul:us.length=ys.length:=hv.length.symm
   show wpAny _ A.in1 (updateSeq D (·.push u) >>= _) _ _ _
   refine wpAny_bind ?_
   refine wpAny_updateSeq pl.1 rfl (wpAny_pure ⟨plainId_quiet F.plain_extend_loop _,ih m' hm (i+1) (ys++[y]) (us++[u]) (c+1) H' _ (sm.acc (tk:=s1.toks) (sm.unpin hs') hD pl.2.1 (λp hp=>absurd hp (by simp)) λb o hb e=>(Heap.get?_update_other _ _ (Ne.symm hb)).trans e) hw' (hv.append (.cons ry .nil)) (by rw[List.length_append];exact hlt) ?_ pl.2.1⟩) ?_ ?_
   .rw[Heap.get?_update_self _ pl.1 rfl]
    simp[Obj.mapSeq,cH]
   .show us.toArray.size<=sizeLine
    rw[Zd,hul];exact hz
   .show(us.toArray.push u).size<=sizeLine+1
    rw[Array.size_push,Zd,hul];omega
theorem Ds{A:Around}{E:Value->Shared->Prop}{a:Addr}{lo:Nat}{S:qZ}{SS:List (Addr×Obj)->Nat->Hp->Shared->Prop}{Fin:List V->Hp->Prop}{H:Hp}{s:Shared}{Q:List Value->Shared->Prop}(sm:BK X pins σ A.in1 a lo S SS)(hs:SS [] 0 H s)(hal:a<lo)(hlo:lo<=s.heap.objs.size)
  (hg:∀P i H s,SS P i H s->∃g,s.heap.IsGen a g) (hC:Vq S Fin H) (hQ:∀ys us H' s',Inv X pins σ H' s'->Vals ys us->ys.length<=sizeLine->Fin ys H'->Q us s'):wpAny (model X.prog X.w) A (collect (.ref a)) Q E s:=by
 obtain⟨W,⟨m,w0⟩,st⟩:=hC
 have hT:∀{P i H s},SS P i H s->s.TypeIs (.ref a) "generator":=λh=>let⟨g,ig⟩:=hg _ _ _ _ h;ig.typeIs
 have hSa:s.heap.objs.size≠a:=Nat.ne_of_gt (Zc hal hlo)
 unfold collect
 refine wpAny_bind (wpAny_runValue (codeAny_builtin F.entry_proto_collect ?_))
 rw[Around.under_plainId F.plain_proto_collect _]
 show wpAny _ A.in1 (newList [] >>= λl=>again (.builtin "list.__iadd__" ⟨[l,.ref a],[]⟩)) _ _ s
 refine wpAny_bind (wpAny_newObj_type ?_)
 refine wpAny_pure ⟨plainId_quiet F.plain_list_iadd _,codeAny_builtin F.entry_list_iadd ?_⟩
 rw[Around.under_plainId F.plain_list_iadd _]
 have hn:H s.heap.objs.size=none:=(sm.inv hs).hok.fresh (Zg _)
 have hst₁:=sm.keep (h':=s.heap.push { cls:=.type "list",data:=.seq ([]:List Value).toArray}) (tk:=s.toks) hs λb o e=>Zb _ e
 show wpAny _ A.in1 (Builtin.List.listExtendWith (.ref s.heap.objs.size) (.ref a) (.ref s.heap.objs.size)) _ _ _
 unfold Builtin.List.listExtendWith
 refine wpAny_bind (wpAny_typeOf (hT hst₁) ?_)
 have h1:Builtin.List.listSameRef (.ref s.heap.objs.size) (.ref a)=false:=by simp[Builtin.List.listSameRef,hSa]
 have h2:(Value.type "generator"==Value.type "list")=false:=by decide
 have h3:(Value.type "generator"==Value.type "tuple")=false:=by decide
 simp only[h1,h2,h3,Bool.or_false,Bool.false_eq_true,if_false]
 obtain⟨g1,ig1⟩:=hg _ _ _ _ hst₁
 refine wpAny_bind (wpAny_pyIter_gen ig1 ?_)
 refine wpAny_bind (wpAny_holding ?_)
 unfold Builtin.List.listLengthHint
 refine wpAny_bind (wpAny_specialOf (hT hst₁) F.gen_no_len ?_)
 show wpAny _ A.in1 (specialOf (Value.ref a) (Str.ofString "__length_hint__") >>= _) _ _ _
 refine wpAny_bind (wpAny_specialOf (hT hst₁) F.gen_no_hint ?_)
 refine wpAny_pure ?_
 show wpAny _ A.in1 (rule "list.extend.makes-room" >>= λ_=>Builtin.List.listTouch (.ref s.heap.objs.size) >>= λ_=>
  again (.builtin "list.extend.loop" ⟨[.ref s.heap.objs.size,.ref a,.ref s.heap.objs.size],[]⟩)) _ _ _
 refine wpAny_bind (wpAny_rule ?_)
 have hS₁:(s.heap.push { cls:=.type "list",data:=.seq ([]:List Value).toArray}).get? s.heap.objs.size=some { cls:=.type "list",data:=.seq ([]:List Value).toArray}:=Zf _ rfl
 refine wpAny_bind ?_
 show wpAny _ A.in1 (updateSeq s.heap.objs.size (·.push .none) >>= λ_=>updateSeq s.heap.objs.size (·.pop)) _ _ _
 refine wpAny_bind (wpAny_updateSeq hS₁ rfl ?_)
 have hS₂:=Heap.get?_update_self (Obj.mapSeq (·.push Value.none)) hS₁ rfl
 refine wpAny_updateSeq hS₂ rfl ?_
 have hS₃:=Heap.get?_update_self (Obj.mapSeq (·.pop)) hS₂ rfl
 have oth:∀b o,b≠s.heap.objs.size->(s.heap.push { cls:=.type "list",data:=.seq ([]:List Value).toArray}).get? b=some o->
   (((s.heap.push { cls:=.type "list",data:=.seq ([]:List Value).toArray}).update s.heap.objs.size (Obj.mapSeq (·.push Value.none))).update s.heap.objs.size (Obj.mapSeq (·.pop))).get? b=some o:=
  λb o hb e=>(Heap.get?_update_other _ _ (Ne.symm hb)).trans ((Heap.get?_update_other _ _ (Ne.symm hb)).trans e)
 refine wpAny_pure ⟨plainId_quiet F.plain_extend_loop _,codeAny_mono (Cq (res:=.ref s.heap.objs.size) sm hlo st m 0 [] [] _ H _ (sm.acc (s:=({ s with heap:=s.heap.push { cls:=.type "list",data:=.seq ([]:List Value).toArray} }:Shared)) (h':=((s.heap.push { cls:=.type "list",data:=.seq ([]:List Value).toArray}).update s.heap.objs.size (Obj.mapSeq (·.push Value.none))).update s.heap.objs.size (Obj.mapSeq (·.pop))) (tk:=s.toks) hst₁ hlo hn (λp hp=>absurd hp (by simp)) oth) w0 .nil (Nat.zero_le _) hS₃ hn) λr s' ⟨hr,ys,us,c,H',I',hv,hz,ho,hn',hfin⟩=>?_⟩
 subst hr
 show wpAny _ A (load s.heap.objs.size >>= _) _ _ s'
 refine wpAny_bind (wpAny_load ho ?_)
 refine wpAny_pure ?_
 have e:(us.toArray).toList=us:=by simp
 show Q (us.toArray).toList s'
 rw[e]
 exact hQ ys us H' s' I' hv hz hfin
def Xv(ts:uQ):TE:=λσ H Q=>ts σ H λS H1=>Vq S (λys H'=>∀p,H' p=none->Q (.ref p) (upd H' p (.tup ys))) H1
theorem xO{A:Around}{E:Value->Shared->Prop}{a:Addr}{lo:Nat}{S:qZ}{SS:List (Addr×Obj)->Nat->Hp->Shared->Prop}{Fin:List V->Hp->Prop}{H:Hp}{s:Shared}{Q₁:Value->Shared->Prop}(sm:BK X pins σ A.in1.in1 a lo S SS)(hs:SS [] 0 H s)(hal:a<lo)(hlo:lo<=s.heap.objs.size)
  (hg:∀P i H s,SS P i H s->∃g,s.heap.IsGen a g) (hC:Vq S Fin H) (h:∀ys us H' s',Inv X pins σ H' s'->Vals ys us->ys.length<=sizeLine->Fin ys H'->Q₁ (.ref s'.heap.objs.size) { s' with heap:=s'.heap.push { cls:=.type "tuple",data:=.seq us.toArray} }):
  codeAny (model X.prog X.w) A (.call (.builtin "tuple.__new__") ⟨[.type "tuple",.ref a],[]⟩) (wants Q₁ E) s:=by
 refine codeAny_of_tree ?_
 show wpAny _ A.in1 (do checkBuiltinCall "tuple.__new__" ⟨[.type "tuple",.ref a],[]⟩;again (.builtin "tuple.__new__" ⟨[.type "tuple",.ref a],[]⟩)) _ _ s
 refine wpAny_bind (wpAny_of_eq (F.newCall_tuple_1 _) (wpAny_pure ⟨plainId_quiet F.plain_tuple_new _,codeAny_builtin F.entry_tuple_new ?_⟩))
 rw[Around.under_plainId F.plain_tuple_new _]
 have hsub:=sub_tuple_self
 have hinit:=init_tuple_lookup
 have hmh:=madeHere_tuple
 obtain⟨g0,ig0⟩:=hg _ _ _ _ hs
 have hTI:=ig0.typeIs
 have col:∀{Q:List Value->Shared->Prop}{E:Value->Shared->Prop},(∀ys us H' s',Inv X pins σ H' s'->Vals ys us->ys.length<=sizeLine->Fin ys H'->Q us s')->wpAny (model X.prog X.w) A.in1 (collect (.ref a)) Q E s:=λhQ=>Ds sm hs hal hlo hg hC hQ
 wp_walk using wpAny_typeOf hTI,col
 intro ys us H' s' I' hv hz hfin
 show wpAny _ _ (Builtin.Tuple.tupleExact us.toArray >>= λv=>ret v) _ _ _
 unfold Builtin.Tuple.tupleExact
 refine wpAny_bind (wpAny_newObj_type ?_ (by show us.toArray.size<=sizeLine;rw[Zd,<-hv.length];exact hz))
 refine wpAny_pure ?_
 exact h ys us H' s' I' hv hz hfin
theorem Rg(hc:X.calm=true)(hm:X.mg "tuple"=none)(hstr:Ai X e ts)(hg:Gl X "tuple":=by rfl)(hs:starEach [e] X.env=(false,eval e X.env)::starEach [] X.env:=by rfl):PE X (.Call (.Name "tuple" p) [e] [] pos) (Xv ts):=by
 intro pins s σ H Q I h
 refine wpAny_Call_Name_kw (oX I hg hm PyProof.Rows.boot_tuple ?_ (by decide) (by decide))
 refine PyProof.Rows.callWith_type1 (wg (thn (hstr pins s σ H _ I h) λu s1 ⟨a,S,H1,e,I1,rdy,hC⟩=>?_) hs) hs rfl
 subst e
 obtain⟨a1,a2⟩:=Ce I1 hc (A':=X.A.in1.in1.in1) rfl rfl
 obtain⟨lo,SS,sm,s0,hal,hlo,hgn⟩:=rdy X.A.in1.in1.in1 a1 a2 (Nat.le_succ _) (by show X.A.units+1+1+1<=_;omega)
 refine callType_codes (Q₁:=λobj s₁=>s₁.TypeIs obj "tuple"/\EP X pins σ Q obj s₁) F.called_tuple (F.typeCall_tuple_1 _) F.entry_object_init
  (xO (A:=X.A.in1) sm s0 hal hlo hgn hC λys us H' s' I' hv hz hfin=>⟨⟨_,Zf _ rfl,rfl⟩,?_⟩) λobj s₁ h₁=>?_
 .have hf:H' s'.heap.objs.size=none:=I'.hok.fresh (Zg _)
  refine⟨.ref s'.heap.objs.size,upd H' s'.heap.objs.size (.tup ys),I'.laid (t':=s'.toks) (λb u e=>Zb _ e) (Zg _) ?_,rfl,hfin _ hf⟩
  exact⟨hz,us,hv,⟨_,Zf _ rfl,rfl,_,rfl⟩⟩
 .exact⟨h₁.1,F.args_object_init_2 obj _,object_init_meets F.called_tuple.init.lookup F.called_tuple.made (by decide) X.prog X.w X.A.in1 _ s₁ ⟨h₁.1,rfl,h₁.2⟩⟩
def Wv(ts:uQ):TE:=λσ H Q=>ts σ H λS H1=>∃W:Nat->Nat->Int->Hp->Prop,(∃m,W 0 m 0 H1)/\∀i m t H,W i m t H->
 (S.fin i H/\Q (.int t) H)∨S.nxt i H λy H'=>∃j,y= .int j/\∃m',m'<m/\W (i+1) m' (t+j) H'
theorem KJ{A:Around}{it D:Addr}{lo:Nat}{S:qZ}{SS:List (Addr×Obj)->Nat->Hp->Shared->Prop}{Q:VK}{W:Nat->Nat->Int->Hp->Prop}(sm:BK X pins σ A.in1 it lo S SS)(hD:lo<=D)
  (st:∀i m t H,W i m t H->(S.fin i H/\Q (.int t) H)∨S.nxt i H λy H'=>∃j,y= .int j/\∃m',m'<m/\W (i+1) m' (t+j) H'):
  ∀(m i:Nat)(t:Int)(tA:Tok)(c:Nat)(stage:Int)(H:Hp)(s:Shared),(stage=0∨stage=2)->SS [] i H s->W i m t H->s.heap.get? D=some (cH [.int t tA] c)->H D=none->
   codeAny (model X.prog X.w) A (.builtin "sum.loop" ⟨[.ref it,.ref D,rawInt stage,rawInt 0],[]⟩) (λr s'=>∃u,r= .ok (.ret u)/\EP X pins σ Q u s') s:=by
 intro m
 induction m using Nat.strongRecOn with
 |ind m ih=>
  intro i t tA c stage H s hstg hs hw ho hn
  have hsp:=sm.pin hs hD ho hn (λv z=>by cases z)
  refine codeAny_builtin F.entry_sum_loop ?_
  rw[Around.under_plainId F.plain_sum_loop _]
  show wpAny _ A.in1 (seqItems? (.ref D) >>= _) _ _ s
  refine wpAny_bind (wpAny_seqItems ho rfl ?_)
  show wpAny _ A.in1 (tryCatch (pyNext (.ref it)) _ >>= _) _ _ s
  rcases st i m t H hw with⟨hf,q⟩|hn'
  .refine wpAny_bind (wpAny_tryCatch (wpAny_mono (sm.stop (λ_ _=>False) hsp hf) (λr s1 ⟨hr,I1⟩=>?_) λ_ _ z=>z.elim))
   subst hr
   exact wpAny_pure ⟨_,rfl,.int t,H,I1.pins_of λp hp=>I1.pin p (by simp[hp]),⟨tA,rfl⟩,q⟩
  .refine wpAny_bind (wpAny_tryCatch (wpAny_mono (sm.next (λ_ _=>False) hsp hn') (λr s1 ⟨u,y,H',hr,ry,⟨j,ey,m',hm,hw'⟩,hs'⟩=>?_) λ_ _ z=>z.elim))
   subst hr ey
   obtain⟨tj,rfl⟩:=ry
   have pl:=(sm.inv hs').pin (D,cH [.int t tA] c) (by simp)
   have hs0:=sm.unpin hs'
   have plain:∀(next:Value->Int),(∀r,next r=2)->wpAny (model X.prog X.w) A.in1 (do
     match<-(holding [Value.int j tj] (binaryOp .Add (Value.int t tA) (Value.int j tj))).attempt with
     | .ok r=>updateSeq D λ_=> #[r];letGo [Value.int t tA,Value.int j tj];(do updateSeq D λ_=> #[r];again (.builtin "sum.loop" ⟨[.ref it,.ref D,rawInt (next r),rawInt 0],[]⟩))
     | .error e=>updateSeq D λ_=> #[];letGo [Value.int t tA,Value.int j tj] [e];throw e) (λfin s'=>match fin with
      | .done f=>∃u,(Except.ok f:Result)= .ok (.ret u)/\EP X pins σ Q u s'
      | .again c=>c.quiet=true/\codeAny (model X.prog X.w) A c (λr s'=>∃u,r= .ok (.ret u)/\EP X pins σ Q u s') s') (λe s'=>∃u,(Except.error e:Result)= .ok (.ret u)/\EP X pins σ Q u s') s1:=by
    intro next hnx
    refine wpAny_bind (wpAny_attempt (wpAny_holding (add_int ?_)))
    refine wpAny_bind (wpAny_updateSeq (s:={ s1 with toks:=s1.toks+1}) pl.1 rfl ?_)
    have o1:=Heap.get?_update_self (Obj.mapSeq (λ_=> #[Value.int (t+j) s1.toks])) pl.1 rfl
    refine wpAny_bind (wpAny_letGo ?_)
    refine wpAny_bind (wpAny_updateSeq o1 rfl ?_)
    have o2:=Heap.get?_update_self (Obj.mapSeq (λ_=> #[Value.int (t+j) s1.toks])) o1 rfl
    rw[hnx]
    refine wpAny_pure ⟨plainId_quiet F.plain_sum_loop _,ih m' hm (i+1) (t+j) s1.toks _ 2 H' _ (.inr rfl) (sm.acc (s:=s1) (h':=(s1.heap.update D (Obj.mapSeq (λ_=> #[Value.int (t+j) s1.toks]))).update D (Obj.mapSeq (λ_=> #[Value.int (t+j) s1.toks]))) (tk:=s1.toks+1) hs0 hD pl.2.1 (λp hp=>absurd hp (by simp)) λb o hb e=>(Heap.get?_update_other _ _ (Ne.symm hb)).trans ((Heap.get?_update_other _ _ (Ne.symm hb)).trans e)) hw' o2 pl.2.1⟩
   rcases hstg with rfl|rfl
   .show wpAny _ A.in1 (if(_:Bool)=true then(mkInt (t+j) >>= _)else _) _ _ _
    split
    .refine wpAny_bind (wpAny_mkInt ?_)
     show wpAny _ A.in1 (updateSeq D (λ_=> #[.int (t+j) s1.toks]) >>= _) _ _ _
     refine wpAny_bind (wpAny_updateSeq (s:={ s1 with toks:=s1.toks+1}) pl.1 rfl ?_)
     have o1:=Heap.get?_update_self (Obj.mapSeq (λ_=> #[Value.int (t+j) s1.toks])) pl.1 rfl
     exact wpAny_pure ⟨plainId_quiet F.plain_sum_loop _,ih m' hm (i+1) (t+j) s1.toks _ 0 H' _ (.inl rfl) (sm.acc (s:=s1) (h':=s1.heap.update D (Obj.mapSeq (λ_=> #[Value.int (t+j) s1.toks]))) (tk:=s1.toks+1) hs0 hD pl.2.1 (λp hp=>absurd hp (by simp)) λb o hb e=>(Heap.get?_update_other _ _ (Ne.symm hb)).trans e) hw' o1 pl.2.1⟩
    .exact wpAny_bind (wpAny_rule (plain (λ_=>2) λ_=>rfl))
   .exact plain (λ_=>2) λ_=>rfl
theorem RC(hc:X.calm=true)(hm:X.mg "sum"=none)(hstr:Dg X e ts)(hg:Gl X "sum":=by rfl)(hs:starEach [e] X.env=(false,eval e X.env)::starEach [] X.env:=by rfl):PE X (.Call (.Name "sum" p) [e] [] pos) (Wv ts):=by
 intro pins s σ H Q I h
 refine wpAny_Call_Name_kw (oX I hg hm boot_sum ?_ (by decide) (by decide))
 refine PyProof.Rows.callWith_builtin1 (wg (thn (hstr pins s σ H _ I h) λu s1 ⟨S,H1,I1,rdy,W,⟨m,w0⟩,st⟩=>?_) hs) hs rfl
 refine call_function_tree F.kind_sum F.plain_sum F.entry_sum (F.args_sum1 _) ?_
 unfold Builtin.«sum»
 simp only[List.length_cons,List.length_nil]
 rw[if_neg (by decide)]
 refine wpAny_bind (wpAny_of_eq (show Builtin.Builtins.bindParams "sum" ["start"] 0 { }=pure [none]from rfl) ?_)
 obtain⟨a1,a2⟩:=Ce I1 hc (A':=X.A.in1) rfl rfl
 refine wpAny_bind (wpAny_mono (rdy X.A.in1 (λ_ _=>False) a1 a2 (Nat.le_succ _) (by show X.A.units+1<=_;omega)) (λitv s2 ⟨it,lo,SS,e,sm,s0,hlo⟩=>?_) λ_ _ z=>z.elim)
 subst e
 refine wpAny_bind (wpAny_mkInt ?_)
 refine wpAny_bind (wpAny_pure ?_)
 simp only[List.forIn_cons,List.forIn_nil]
 refine wpAny_bind (wpAny_bind (wpAny_bind (wpAny_isInstance (T:="int") (b:=false) (typeIs_int _ _ _) PySem.sub_int_str ?_)))
 simp only[Bool.false_eq_true,if_false]
 refine wpAny_pure (wpAny_bind (wpAny_bind (wpAny_isInstance (T:="int") (b:=false) (typeIs_int _ _ _) PySem.sub_int_bytes ?_)))
 simp only[Bool.false_eq_true,if_false]
 refine wpAny_pure (wpAny_bind (wpAny_bind (wpAny_isInstance (T:="int") (b:=false) (typeIs_int _ _ _) PySem.sub_int_bytearray ?_)))
 simp only[Bool.false_eq_true,if_false]
 refine wpAny_pure (wpAny_pure ?_)
 refine wpAny_bind (wpAny_newObj_type ?_)
 have hn:H1 s2.heap.objs.size=none:=(sm.inv s0).hok.fresh (Zg _)
 refine wpAny_pure ⟨plainId_quiet F.plain_sum_loop _,codeAny_mono (KJ sm hlo st m 0 0 s2.toks 0 0 H1 _ (.inl rfl) (sm.keep (s:=s2) (h':=s2.heap.push { cls:=.type "list",dict:=none,data:=.seq [Value.int 0 s2.toks].toArray}) (tk:=s2.toks+1) s0 λb o e=>Zb _ e) w0 (Zf _ rfl) hn) λr s' ⟨u,hr,q⟩=>?_⟩
 subst hr
 exact q
end
end L2
namespace L3
open PySem PySem.Spec PyProof.Rows L2
abbrev iZ:=Mu->Option (D×Mu)
structure RP(K:PySem.W.Frag)(tb:List Addr)(S:qZ)(ths:List iZ)(W0:Wd):Prop where
 nxt:∀(i:Nat) W th d μ' Q,Le tb W0 W->WOk K tb W->ths[i]? =some th->th W.mu=some (d,μ')->(∀v W',WOk K tb W'->Le tb W W'->W'.mu=μ'->Den K tb W' d v->Q v W'.H)->S.nxt i W.H Q
 fin:∀(i:Nat) W,Le tb W0 W->WOk K tb W->ths.length<=i->S.fin i W.H
abbrev StF:=En->Mu->Option (List iZ×Mu)
def Sw(K:PySem.W.Frag)(tb:List Addr)(f:StF):uQ:=λσ H R=>∃W δ ths μ',W.H=H/\WOk K tb W/\kI K tb W δ σ/\f δ W.mu=some (ths,μ')/\
 ∀S W',WOk K tb W'->Le tb W W'->W'.mu=μ'->RP K tb S ths W'->R S W'.H
def DP(X:Cx)(tb:List Addr)(e:Expr)(f:StF):Prop:=Dg X e (Sw X.K tb f)
def Gw(X:Cx)(tb:List Addr)(e:Expr)(f:StF):Prop:=Ai X e (Sw X.K tb f)
section
variable {X:Cx} {tb:List Addr} {e tg iter elt:Expr} {f:EF} {pos p:Pos} {fs:StF}
theorem QF{t t':uQ}(h:Dg X e t)(k:∀σ H R,t' σ H R->t σ H R):Dg X e t':=λpins s σ H R I hq=>h pins s σ H R I (k σ H R hq)
theorem Nb{t t':uQ}(h:Ai X e t)(k:∀σ H R,t' σ H R->t σ H R):Ai X e t':=λpins s σ H R I hq=>h pins s σ H R I (k σ H R hq)
theorem jE(h:Gw X tb e fs):DP X tb e fs:=Dj h
def thE(d:D):iZ:=λμ=>some (d,μ)
def mJ(f:EF):StF:=λδ μ=>(f δ μ).bind λr=>match r.1 with
 | .tup ds=>some (ds.map thE,r.2)
 | .lst ds=>some (ds.map thE,r.2)
 |_=>none
theorem JW{K:PySem.W.Frag}{J:It}{ds:List D}{W0:Wd}(io:HY K tb J ⟨ds,none⟩ W0):RP K tb (GP J) (ds.map thE) W0 where
 nxt:=λi W th d μ' Q l ok e1 e2 hQ=>by
  rw[List.getElem?_map]at e1
  cases q:ds[i]? with
  |none=>rw[q]at e1;cases e1
  |some d0=>
   rw[q]at e1
   cases e1
   cases e2
   obtain⟨go,yl⟩:=io.go i W d l ok (Src.bD rfl) q
   exact⟨go,λx H' y=>by
    obtain⟨W',rfl,ok',l',m',d'⟩:=yl x H' y
    exact hQ x W' ok' l' m' d'⟩
 fin:=λi W l ok hi=>io.stop i W l ok (Src.bD rfl) (by simpa using hi)
theorem lC(hc:X.calm=true)(he:PD X tb e f):DP X tb e (mJ f):=
 QF (Km hc he) λσ H R zq1=>by
  obtain⟨W,δ,ths,μ',e,ok,hd,hf,h⟩:=zq1
  unfold mJ at hf
  obtain⟨⟨x,μ1⟩,e1,e2⟩:=Za.mp hf
  refine⟨W,δ,x,μ1,e,ok,hd,e1,λv W1 ok1 l1 m1 d1=>?_⟩
  cases x with
  |tup ds=>
   cases e2
   obtain⟨a,xs,rfl,q,r⟩:=iz d1
   exact⟨a,rfl,.inr ⟨⟨xs,SqT.fz q⟩,h _ W1 ok1 l1 m1 (JW (JF q r))⟩⟩
  |lst ds=>
   cases e2
   obtain⟨a,xs,rfl,q,r⟩:=mQ d1
   exact⟨a,rfl,.inl ⟨⟨xs,SqL.fz q⟩,h _ W1 ok1 l1 m1 (JW (Kv q r))⟩⟩
  |_=>cases e2
def thG(h:GF)(fe:EF)(δb:En)(d:D):iZ:=λμ=>(h d δb μ).bind λδ1=>fe δ1 μ
def mK(own:List Str)(capI:List Nat)(fi:IF)(h:GF)(fe:EF):StF:=λδ μ=>(fi δ μ).bind λr=>match r.1.cel with
 |none=>some (r.1.items.map (thG h fe (bZ own δ capI)),r.2)
 |some _=>none
theorem gZ{fi:IF}{h:GF}{fe:EF}{own cap:List Str}{capI ts:List Nat}{scope:Scope}{P:Addr}{kr:Nat}(hc:X.calm=true)(hr:iB kr X.A)(B:je X own cap capI scope)(hown:∀x∈own,(x,NameKind.free)∉scope.names)(hnc:∀y∈scope.names,y.2≠ .cell)
  (hP:P∈tb) (htb:∃c,X.env.code= .ref c/\PySem.W.CodeHd X.base c P) (hi:PID X tb tg iter fi)
  (hg:∀AG cs C code fp s2 H2,PGD (yh X AG own cap scope cs C code fp s2 H2) tb tg ts h)
  (he:∀AG cs C code fp s2 H2,(∀k,iB (k+1) X.A->iB k AG)->PD (yh X AG own cap scope cs C code fp s2 H2) tb elt fe)
  (hts:∀i∈ts,i<own.length:=by decide) (h0:scope.names.lookup (".0":Str)=some NameKind.local:=by rfl) (hco:scope.isCoroutine=false:=by rfl) (hs:∀x,genFold iter X.env x=pure x:=by intro _;rfl):
  Gw X tb (.GeneratorExp elt [⟨tg,iter,[],0⟩] scope pos) (mK own capI fi h fe):=
 Nb (Kl (g:=tDG X.K tb ts h) (te:=tD X.K tb fe) hc hr B hown hnc h0 hco htb hi hg he hs) λσ H R zq2=>by
  obtain⟨W,δ,ths,μ',e,ok,hd,hf,k⟩:=zq2
  unfold mK at hf
  obtain⟨⟨S,μ1⟩,e1,e2⟩:=Za.mp hf
  obtain⟨items,cel⟩:=S
  cases cel with
  |some n=>cases e2
  |none=>
   cases e2
   refine⟨W,δ,⟨items,none⟩,_,e,ok,hd,e1,λJ W1 ok1 l1 m1 io=>?_⟩
   obtain⟨ps,ep,tp⟩:=ok1.tab P hP
   refine⟨ps,ep,tp,λlo H2 ps' hG=>?_⟩
   obtain⟨ok2,l2⟩:=ok1.tbl hP ep hG
   refine k _ ⟨H2,W1.ad,W1.mu⟩ ok2 (l1.trans l2) m1 ⟨λi W3 th d μ3 Q l3 ok3 e3 e4 hQ=>?_,λi W3 l3 ok3 hi3=>?_⟩
   .rw[List.getElem?_map]at e3
    cases q:items[i]? with
    |none=>rw[q]at e3;cases e3
    |some d0=>
     rw[q]at e3
     cases e3
     unfold thG at e4
     obtain⟨δ1,e5,e6⟩:=Za.mp e4
     obtain⟨go,yl⟩:=io.go i W3 d0 (l2.trans l3) ok3 (Src.bD rfl) q
     refine⟨go,λx H' y=>?_⟩
     obtain⟨W4,rfl,ok4,l4,m4,d4⟩:=yl x H' y
     refine⟨W4,bZ own δ capI,d0,δ1,rfl,ok4,(Ar hd).mono' (((l1.trans l2).trans l3).trans l4),d4,(by rw[m4];exact e5),λσ' d' hl ht=>⟨fits_of hts hl ht,?_⟩⟩
     exact⟨W4,δ1,d,μ3,rfl,ok4,d',(by rw[m4];exact e6),λv W5 ok5 l5 m5 d5=>hQ v W5 ok5 (l4.trans l5) m5 d5⟩
   .exact io.stop i W3 (l2.trans l3) ok3 (Src.bD rfl) (by simpa using hi3)
def Jb:D->Option Bool
 | .bl b=>some b
 | .int i=>some (i != 0)
 |_=>none
theorem Eg{K:PySem.W.Frag}{W:Wd}{x:D}{v:V}{k:Bool}(h:Den K tb W x v)(e:Jb x=some k):Ia v k:=by
 cases x with
 |bl b=>cases e;exact .inl (jM h)
 |int i=>cases e;exact .inr ⟨i,bQ h,rfl⟩
 |_=>cases e
def yN:List iZ->Mu->Option (Bool×Mu)
 | [],μ=>some (true,μ)
 |t::r,μ=>(t μ).bind λx=>(Jb x.1).bind λk=>if k=true then yN r x.2 else some (false,x.2)
def Em:List iZ->Mu->Option (Bool×Mu)
 | [],μ=>some (false,μ)
 |t::r,μ=>(t μ).bind λx=>(Jb x.1).bind λk=>if k=true then some (true,x.2)else Em r x.2
def Dw:List iZ->Mu->Option (List D×Mu)
 | [],μ=>some ([],μ)
 |t::r,μ=>(t μ).bind λx=>(Dw r x.2).bind λq=>some (x.1::q.1,q.2)
def vV:Int->List iZ->Mu->Option (Int×Mu)
 |a,[],μ=>some (a,μ)
 |a,t::r,μ=>(t μ).bind λx=>match x.1 with
  | .int j=>vV (a+j) r x.2
  |_=>none
def yt(f:StF):EF:=λδ μ=>(f δ μ).bind λr=>(yN r.1 r.2).bind λq=>some (.bl q.1,q.2)
def Np(f:StF):EF:=λδ μ=>(f δ μ).bind λr=>(Em r.1 r.2).bind λq=>some (.bl q.1,q.2)
def CV(f:StF):EF:=λδ μ=>(f δ μ).bind λr=>if r.1.length<=sizeLine then(Dw r.1 r.2).bind λq=>some (.tup q.1,q.2)else none
def uP(f:StF):EF:=λδ μ=>(f δ μ).bind λr=>(vV 0 r.1 r.2).bind λq=>some (.int q.1,q.2)
theorem pL(hc:X.calm=true)(hm:X.mg "all"=none)(hstr:DP X tb e fs)(hg:Gl X "all":=by rfl)(hs:starEach [e] X.env=(false,eval e X.env)::starEach [] X.env:=by rfl):PD X tb (.Call (.Name "all" p) [e] [] pos) (yt fs):=
 fU (PJ hc hm hstr hg hs) λσ H Q zq3=>by
  obtain⟨W,δ,d,μ',e,ok,hd,hf,h⟩:=zq3
  unfold yt at hf
  obtain⟨⟨ths,μ1⟩,e1,hf⟩:=Za.mp hf
  obtain⟨⟨b,μ2⟩,e2,e3⟩:=Za.mp hf
  cases e3
  refine⟨W,δ,ths,μ1,e,ok,hd,e1,λS W1 ok1 l1 m1 so=>?_⟩
  refine⟨λi m H2=>m=ths.length-i/\∃W2,W2.H=H2/\WOk X.K tb W2/\Le tb W1 W2/\yN (ths.drop i) W2.mu=some (b,μ2),⟨_,rfl,W1,rfl,ok1,Le.refl _,by rw[m1];exact e2⟩,?_⟩
  rintro i m H2 ⟨rfl,W2,rfl,ok2,l2,ha⟩
  by_cases hlt:i<ths.length
  .right
   rw[List.drop_eq_getElem_cons hlt]at ha
   unfold yN at ha
   obtain⟨⟨x,μ3⟩,e3,ha⟩:=Za.mp ha
   obtain⟨k,e4,ha⟩:=Za.mp ha
   refine so.nxt i W2 ths[i] x μ3 _ l2 ok2 (by simp[hlt]) e3 λv W3 ok3 l3 m3 d3=>⟨k,Eg d3 e4,?_⟩
   cases k with
   |true=>
    rw[if_pos rfl]
    exact⟨ths.length-(i+1),by omega,rfl,W3,rfl,ok3,l2.trans l3,by rw[m3];exact ha⟩
   |false=>
    rw[if_neg Zr]
    cases ha
    exact h _ W3 ok3 ((l1.trans l2).trans l3) m3 fG
  .left
   rw[List.drop_of_length_le (by omega)]at ha
   cases ha
   exact⟨so.fin i W2 l2 ok2 (by omega),h _ W2 ok2 (l1.trans l2) rfl fG⟩
theorem Mp(hc:X.calm=true)(hm:X.mg "any"=none)(hstr:DP X tb e fs)(hg:Gl X "any":=by rfl)(hs:starEach [e] X.env=(false,eval e X.env)::starEach [] X.env:=by rfl):PD X tb (.Call (.Name "any" p) [e] [] pos) (Np fs):=
 fU (Rk hc hm hstr hg hs) λσ H Q zq4=>by
  obtain⟨W,δ,d,μ',e,ok,hd,hf,h⟩:=zq4
  unfold Np at hf
  obtain⟨⟨ths,μ1⟩,e1,hf⟩:=Za.mp hf
  obtain⟨⟨b,μ2⟩,e2,e3⟩:=Za.mp hf
  cases e3
  refine⟨W,δ,ths,μ1,e,ok,hd,e1,λS W1 ok1 l1 m1 so=>?_⟩
  refine⟨λi m H2=>m=ths.length-i/\∃W2,W2.H=H2/\WOk X.K tb W2/\Le tb W1 W2/\Em (ths.drop i) W2.mu=some (b,μ2),⟨_,rfl,W1,rfl,ok1,Le.refl _,by rw[m1];exact e2⟩,?_⟩
  rintro i m H2 ⟨rfl,W2,rfl,ok2,l2,ha⟩
  by_cases hlt:i<ths.length
  .right
   rw[List.drop_eq_getElem_cons hlt]at ha
   unfold Em at ha
   obtain⟨⟨x,μ3⟩,e3,ha⟩:=Za.mp ha
   obtain⟨k,e4,ha⟩:=Za.mp ha
   refine so.nxt i W2 ths[i] x μ3 _ l2 ok2 (by simp[hlt]) e3 λv W3 ok3 l3 m3 d3=>⟨k,Eg d3 e4,?_⟩
   cases k with
   |false=>
    rw[if_neg Zr]
    exact⟨ths.length-(i+1),by omega,rfl,W3,rfl,ok3,l2.trans l3,by rw[m3];exact ha⟩
   |true=>
    rw[if_pos rfl]
    cases ha
    exact h _ W3 ok3 ((l1.trans l2).trans l3) m3 fG
  .left
   rw[List.drop_of_length_le (by omega)]at ha
   cases ha
   exact⟨so.fin i W2 l2 ok2 (by omega),h _ W2 ok2 (l1.trans l2) rfl fG⟩
theorem xn(hc:X.calm=true)(hm:X.mg "sum"=none)(hstr:DP X tb e fs)(hg:Gl X "sum":=by rfl)(hs:starEach [e] X.env=(false,eval e X.env)::starEach [] X.env:=by rfl):PD X tb (.Call (.Name "sum" p) [e] [] pos) (uP fs):=
 fU (RC hc hm hstr hg hs) λσ H Q zq5=>by
  obtain⟨W,δ,d,μ',e,ok,hd,hf,h⟩:=zq5
  unfold uP at hf
  obtain⟨⟨ths,μ1⟩,e1,hf⟩:=Za.mp hf
  obtain⟨⟨b,μ2⟩,e2,e3⟩:=Za.mp hf
  cases e3
  refine⟨W,δ,ths,μ1,e,ok,hd,e1,λS W1 ok1 l1 m1 so=>?_⟩
  refine⟨λi m t H2=>m=ths.length-i/\∃W2,W2.H=H2/\WOk X.K tb W2/\Le tb W1 W2/\vV t (ths.drop i) W2.mu=some (b,μ2),⟨_,rfl,W1,rfl,ok1,Le.refl _,by rw[m1];exact e2⟩,?_⟩
  rintro i m t H2 ⟨rfl,W2,rfl,ok2,l2,ha⟩
  by_cases hlt:i<ths.length
  .right
   rw[List.drop_eq_getElem_cons hlt]at ha
   unfold vV at ha
   obtain⟨⟨x,μ3⟩,e3,ha⟩:=Za.mp ha
   cases x with
   |int j=>
    refine so.nxt i W2 ths[i] _ μ3 _ l2 ok2 (by simp[hlt]) e3 λv W3 ok3 l3 m3 d3=>⟨j,bQ d3,ths.length-(i+1),by omega,rfl,W3,rfl,ok3,l2.trans l3,by rw[m3];exact ha⟩
   |_=>cases ha
  .left
   rw[List.drop_of_length_le (by omega)]at ha
   cases ha
   exact⟨so.fin i W2 l2 ok2 (by omega),h _ W2 ok2 (l1.trans l2) rfl gH⟩
theorem Oq(hc:X.calm=true)(hm:X.mg "tuple"=none)(hstr:Gw X tb e fs)(hg:Gl X "tuple":=by rfl)(hs:starEach [e] X.env=(false,eval e X.env)::starEach [] X.env:=by rfl):PD X tb (.Call (.Name "tuple" p) [e] [] pos) (CV fs):=
 fU (Rg hc hm hstr hg hs) λσ H Q zq6=>by
  obtain⟨W,δ,d,μ',e,ok,hd,hf,h⟩:=zq6
  unfold CV at hf
  obtain⟨⟨ths,μ1⟩,e1,hf⟩:=Za.mp hf
  split at hf
  .rename_i hz
   obtain⟨⟨ds,μ2⟩,e2,e3⟩:=Za.mp hf
   cases e3
   refine⟨W,δ,ths,μ1,e,ok,hd,e1,λS W1 ok1 l1 m1 so=>?_⟩
   refine⟨λi m ys H2=>m=ths.length-i/\ys.length<=i/\i<=ths.length/\∃W2 zs rs,W2.H=H2/\WOk X.K tb W2/\Le tb W1 W2/\cV X.K tb W2 zs ys/\Dw (ths.drop i) W2.mu=some (rs,μ2)/\zs++rs=ds,⟨_,rfl,Zg _,Nat.zero_le _,W1,[],ds,rfl,ok1,Le.refl _,aC.nil,by rw[m1];exact e2,rfl⟩,?_⟩
   rintro i m ys H2 ⟨rfl,hy,hi,W2,zs,rs,rfl,ok2,l2,d2,ha,hzs⟩
   by_cases hlt:i<ths.length
   .right
    rw[List.drop_eq_getElem_cons hlt]at ha
    unfold Dw at ha
    obtain⟨⟨x,μ3⟩,e3,ha⟩:=Za.mp ha
    obtain⟨⟨rs',μ4⟩,e4,e5⟩:=Za.mp ha
    cases e5
    refine⟨by have hz':ths.length<=sizeLine:=hz;omega,so.nxt i W2 ths[i] x μ3 _ l2 ok2 (by simp[hlt]) e3 λv W3 ok3 l3 m3 d3=>?_⟩
    exact⟨ths.length-(i+1),by omega,rfl,by rw[List.length_append];simp;omega,hlt,W3,zs++[x],rs',rfl,ok3,l2.trans l3,aC.append (cV.mono' d2 l3) (aC.cons d3 aC.nil),by rw[m3];exact e4,by rw[List.append_assoc];exact hzs⟩
   .left
    rw[List.drop_of_length_le (by omega)]at ha
    cases ha
    rw[List.append_nil]at hzs
    subst hzs
    exact⟨so.fin i W2 l2 ok2 (by omega),λp hp=>qN ok2 (λv W' ok' l' m' d'=>h v W' ok' ((l1.trans l2).trans l') m' d') d2 hp⟩
  .cases hf
end
abbrev FF:=List D->Mu->Option (D×Mu)
def spD(K:PySem.W.Frag)(tb:List Addr)(n:Nat)(φ:FF):Sp:=λvs H Q _=>∃W ds d μ',W.H=H/\WOk K tb W/\cV K tb W ds vs/\ds.length=n/\φ ds W.mu=some (d,μ')/\
 ∀v W',WOk K tb W'->Le tb W W'->W'.mu=μ'->Den K tb W' d v->Q v W'.H
structure FI(P:Program)(w:World)(K:PySem.W.Frag)(mg:Str->Option Value)(base:Heap)(tb:List Addr)(x:Str)(n k:Nat)(φ:FF):Prop where
 is:∃f fd ps,uv P w K mg base CX0 k f fd ps (spD K tb n φ)/\mg x=some (.ref f)/\PySem.W.keepIn K (.ref f)=true/\Binds K fd ps []
def aJ(m:Nat)(g:SF):FF:=λds μ=>(g (ds.map some++List.replicate (m-ds.length) none) μ).bind λr=>match r.1 with
 | .rt d=>some (d,r.2.2)
 | .nx=>some (.non,r.2.2)
 |_=>none
section
variable {X:Cx} {tb:List Addr} {e:Expr} {es:List Expr} {fs:AF} {x:Str} {n k:Nat} {φ:FF} {p pos:Pos}
theorem aL(F:FI X.prog X.w X.K X.mg X.base tb x n k φ)(hr:iB k X.A)(ha:PAD X tb (e::es) fs)(hn:∀δ μ r,fs δ μ=some r->r.1.length=n)(hg:Gl X x:=by rfl)(hdb:(x==("__debug__":Str))=false:=by decide)
  (he:starEach (e::es) X.env=(false,eval e X.env)::starEach es X.env:=by rfl) (hpl:(backTo pos (starEach es X.env)).any (·.1)=false:=by rfl):PD X tb (.Call (.Name x p) (e::es) [] pos) (MC fs φ):=by
 obtain⟨f,fd,ps,h1,h2,h3,h4⟩:=F.is
 refine fU (Qn (E:=E0) h1 hr hg h2 h3 h4 .nil Sx ha hdb he hpl) λσ H Q zq7=>?_
 obtain⟨W,δ,d,μ',e,ok,hd,hf,h⟩:=zq7
 unfold MC at hf
 obtain⟨⟨xs,μ1⟩,e1,e2⟩:=Za.mp hf
 refine⟨W,δ,xs,μ1,e,ok,hd,e1,λvs W1 ok1 l1 m1 d1=>?_⟩
 refine⟨W1,xs,d,μ',rfl,ok1,by rw[List.append_nil];exact d1,hn _ _ _ e1,(by rw[m1];exact e2),λv W' ok' l' m' d'=>h v W' ok' (l1.trans l') m' d'⟩
theorem Od(F:FI X.prog X.w X.K X.mg X.base tb x 0 k φ)(hr:iB k X.A)(hg:Gl X x:=by rfl)(hdb:(x==("__debug__":Str))=false:=by decide):PD X tb (.Call (.Name x p) [] [] pos) (MC au φ):=by
 obtain⟨f,fd,ps,h1,h2,h3,h4⟩:=F.is
 refine fU (JX (E:=E0) h1 hr hg h2 h3 h4 .nil Sx hdb) λσ H Q zq8=>?_
 obtain⟨W,δ,d,μ',e,ok,hd,hf,h⟩:=zq8
 unfold MC at hf
 obtain⟨⟨xs,μ1⟩,e1,e2⟩:=Za.mp hf
 cases e1
 subst e
 exact⟨W,[],d,μ',rfl,ok,aC.nil,rfl,e2,h⟩
theorem aM(δ:En)(μ:Mu)(r:List D×Mu)(h:au δ μ=some r):r.1.length=0:=by cases h;rfl
theorem aA{f:EF}{fs:AF}{n:Nat}(hk:∀δ μ r,fs δ μ=some r->r.1.length=n)(δ:En)(μ:Mu)(r:List D×Mu)(h:aj f fs δ μ=some r):r.1.length=n+1:=by
 unfold aj at h
 obtain⟨q,_,h⟩:=Za.mp h
 obtain⟨t,e,h⟩:=Za.mp h
 cases h
 rw[List.length_cons,hk _ _ _ e]
end
structure dG(K:PySem.W.Frag)(x qual:Str)(st:Stmt)(f:Addr)(fd:FuncData)(P:Addr):Prop where
 ex:∃(oc:Value)(od:Option Addr)(kV doc pm:Value)(an:Option Addr)(c:Addr)(ct:Value)(osl:Array (Option Value)),
  fd=PySem.W.fnOf x qual (oH st) (kZ st) (aO st) .none kV doc pm an (.ref c) ct/\K.lookup f=some ⟨oc,od,.func fd,osl⟩/\PySem.W.codeIn K (.ref c) qual=true/\∀h:Heap,K.In h->PySem.W.CodeHd h c P
 kp:PySem.W.keepIn K (.ref f)=true
theorem cB{P:Program}{w:World}{K:PySem.W.Frag}{mg:Str->Option Value}{base:Heap}{tb:List Addr}{x qual:Str}{st:Stmt}{f:Addr}{fd:FuncData}{T:Addr}{N ps:List Str}{n k:Nat}{g:SF}(F:dG K x qual st f fd T)(KB:K.In base)(hmg:mg x=some (.ref f))(S:aW N ps (aO st))(hps:ps.length=n)
  (hb:∀(kV doc pm:Value)(an:Option Addr)(cdv ct:Value)(us:List Value),us.length=ps.length->bindArgs (PySem.W.fnOf x qual (oH st) (kZ st) (aO st) .none kV doc pm an cdv ct) ⟨us,[]⟩=pure (ps.zip us))
  (hbody:∀(c:Addr)(A:Around)(outer:List Env)(s:Shared)(H:Hp)(E:XK),PySem.W.CodeHd base c T->iB k (A.deeper (envOfC qual (aO st) s.heap.objs.size f (.ref c)))->
   yS (FJ CX0 P w K mg base N qual (aO st) f (.ref c) A outer s H E).nox tb (kZ st) g):FI P w K mg base tb x n (k+1) (aJ N.length g):=by
 obtain⟨oc,od,kV,doc,pm,an,c,ct,osl,rfl,lk,hcd,hhd⟩:=F.ex
 refine⟨f,_,ps,RV lk hcd S (λvs H Q E ⟨W,ds,d,μ',e,ok,dl,hl,_⟩=>by rw[<-aC.length dl,hl,hps]) λA outer s H vs Q E hr hsp=>?_,hmg,F.kp,.all (hb kV doc pm an (.ref c) ct)⟩
 obtain⟨W,ds,d,μ',e,ok,dl,hl,hf,k⟩:=hsp
 refine⟨_,(hbody c A outer s H E (hhd base KB) hr).nox,?_⟩
 unfold aJ at hf
 obtain⟨⟨fl,δ',μ1⟩,e1,e2⟩:=Za.mp hf
 refine⟨W,_,fl,δ',μ1,e,ok,?_,e1,λσ' W' ok' l' m' d'=>?_⟩
 .have hlen:=aC.length dl
  refine⟨by unfold L2.start;simp[hlen],λi y q=>?_⟩
  unfold L2.start
  by_cases hi:i<ds.length
  .rw[Zs (by simpa using hi),List.getElem?_map]at q
   cases q2:ds[i]? with
   |none=>rw[q2]at q;cases q
   |some z=>
    rw[q2]at q
    cases q
    obtain⟨v,ev,dv⟩:=aC.get dl q2
    exact⟨v,by rw[Zs (by rw[Zu,<-hlen];exact hi),List.getElem?_map,ev];rfl,dv⟩
  .rw[List.getElem?_append_right (by simpa using hi),List.getElem?_replicate]at q
   split at q<;>cases q
 .cases fl with
  |nx=>cases e2;exact k .non W' ok' l' m' qJ
  |rt d0=>cases e2;exactλv dv=>k v W' ok' l' m' dv
  |bk=>cases e2
  |ct=>cases e2
end L3
namespace L2
open PySem PySem.Spec PyProof.Rows
section
variable {X:Cx} {a b c e:Expr} {ta tb tc te:TE} {pos:Pos}
def tV(i j:Int):Nat:=Builtin.Int.intBits i+Builtin.Int.intBits j
theorem Rv:OpR X (binaryOp .Mult) (rI (λi j=>tV i j<=134217728) λi j=>.int (i*j)):=opI λ_ _ _ _ _ _ _ hc q=>mul_int q (IntMulOk.of_le (Zg _) (Zg _) hc)
theorem Ku:OpR X (binaryOp .FloorDiv) (rI (λ_ j=>j≠0/\j.natAbs.log2<9000) λi j=>.int (i.fdiv j)):=opI λ_ _ _ _ _ _ _ hc q=>floordiv_int hc.1 q (.inl (PyProof.noPylong_of_log2 hc.2))
theorem Ou:OpR X (binaryOp .Pow) (rI (λi j=>0<=j/\(Builtin.Int.intBits i:Int)*j<=2 ^ 27) λi j=>.int (i ^ j.toNat)):=opI λ_ _ _ _ _ _ _ hc q=>pow_int hc.1 hc.2 q
def WP(K:PySem.W.Frag):R2:=λx y H Q=>∃a b xs ys,x= .ref a/\y= .ref b/\SqT K H a xs/\SqT K H b ys/\xs.length+ys.length<=sizeLine/\
 (xs=[]->Q (.ref b) H)/\(xs≠[]->ys=[]->Q (.ref a) H)/\(xs≠[]->ys≠[]->∀p,H p=none->Q (.ref p) (upd H p (.tup (xs++ys))))
theorem QW:OpR X (binaryOp .Add) (WP X.K):=by
 intro pins s σ H x y v u Q I rx ry h
 obtain⟨t,b,xs,ys,rfl,rfl,ha,hb,hz,q0,q1,q2⟩:=h
 by_cases hx:xs=[]
 .subst hx
  cases rx
  cases ry
  obtain⟨its,r1,p1,_⟩:=I.tuple ha
  obtain⟨its2,r2,p2,_⟩:=I.tuple hb
  cases r1
  obtain⟨⟨cls,dd,data,sl⟩,ho,hc,n,hd⟩:=id p1
  obtain⟨⟨cls2,dd2,data2,sl2⟩,ho2,hc2,n2,hd2⟩:=id p2
  simp only at hc hd hc2 hd2
  subst hc hd hc2 hd2
  exact concat_meets ⟨_,ho,rfl⟩ ⟨_,ho2,rfl⟩ noFill_tuple_add seq_tuple_add PySem.F.slot_tuple_add PySem.F.entry_tuple_add (PySem.F.args_tuple_add_2 _ _)
   (tuple_addW0 t b _ _ n n2 dd dd2 sl sl2 (by simp)) ⟨ho,ho2,⟨.ref b,H,I,rfl,q0 rfl⟩⟩
 .exact Qw pins s σ H _ _ v u Q I rx ry ⟨t,b,xs,ys,rfl,rfl,ha,hb,hx,hz,q1 hx,q2 hx⟩
theorem uN:fillsNumberSlot (.type "tuple") "mul"=pure false:=
 PySem.fillsNumberSlot_seq (id:="tuple.__mul__") (r:=some (.builtin "tuple.__rmul__")) F.slot_tuple_mul.lookup (by decide +kernel) F.slot_tuple_rmul.lookup (by decide +kernel)
theorem Av:seqRepeat? (.type "tuple")=pure (some (.builtin "tuple.__mul__")):=by
 unfold seqRepeat?
 rw[PySem.seqSlot_of (T:="tuple") (name:="__mul__") (id:="tuple.__mul__") F.slot_tuple_mul.lookup (by decide +kernel),PySem.seqSlot_of (T:="tuple") (name:="__rmul__") (id:="tuple.__rmul__") F.slot_tuple_rmul.lookup (by decide +kernel)]
 rfl
theorem yu(a:Int)(t:Tok)(l:Addr)(items:Array Value)(n:Nat)(dd:Option Addr)(sl:Array (Option Value)):
  Meets (Builtin.«int.__rmul__» ⟨[.int a t,.ref l],[]⟩) (λ_ R s=>s.heap.get? l=some { cls:=.type "tuple",dict:=dd,data:=.seq items n,slots:=sl}/\R (.ok (.ret Value.notImplemented)) s):=
 .of_wp λprog w A R s h=>by obtain⟨hp,g,d,tk,os⟩:=s;obtain⟨hl,h⟩:=h;wp_walk;exact⟨_,rfl,h⟩
theorem xK(l:Addr)(items:Array Value)(n:Nat)(x:Int)(u:Tok)(dd:Option Addr)(sl:Array (Option Value))(h0:(decide (x< -2 ^ 63)||decide (x>=2 ^ 63))=false)(h1:(items.isEmpty||x==1)=true):
  Meets (Builtin.«tuple.__mul__» ⟨[.ref l,.int x u],[]⟩) (λ_ R s=>s.heap.get? l=some { cls:=.type "tuple",dict:=dd,data:=.seq items n,slots:=sl}/\R (.ok (.ret (Value.ref l))) s):=
 .of_wp λprog w A R s h=>by
  obtain⟨hp,g,d,tk,os⟩:=s;obtain⟨hl,h⟩:=h
  unfold Builtin.«tuple.__mul__»
  wp_walk using AutoSeq1.wpAny_loadPart' hl
  refine wpAny_ite_false (decide_eq_false (by rw[h0];exact Zr)) ?_
  wp_walk using AutoSeq1.wpAny_loadPart' hl
  exact⟨_,rfl,h⟩
theorem xX(l:Addr)(items:Array Value)(n:Nat)(x:Int)(u:Tok)(dd:Option Addr)(sl:Array (Option Value))(h0:(decide (x< -2 ^ 63)||decide (x>=2 ^ 63))=false)(h1:(items.isEmpty||x==1)=false)(h2:(decide (x<=0)||items.isEmpty)=true):
  Meets (Builtin.«tuple.__mul__» ⟨[.ref l,.int x u],[]⟩) (λ_ R s=>s.heap.get? l=some { cls:=.type "tuple",dict:=dd,data:=.seq items n,slots:=sl}/\R (.ok (.ret (Value.ref s.heap.objs.size))) { s with heap:=s.heap.push { cls:=Value.type "tuple",data:=Data.seq #[] },toks:=s.toks}):=
 .of_wp λprog w A R s h=>by
  obtain⟨hp,g,d,tk,os⟩:=s;obtain⟨hl,h⟩:=h
  unfold Builtin.«tuple.__mul__»
  wp_walk using AutoSeq1.wpAny_loadPart' hl
  refine wpAny_ite_false (decide_eq_false (by rw[h0];exact Zr)) ?_
  wp_walk using AutoSeq1.wpAny_loadPart' hl
  exact⟨_,rfl,h⟩
theorem yW(l:Addr)(items:Array Value)(n:Nat)(x:Int)(u:Tok)(dd:Option Addr)(sl:Array (Option Value))(h0:(decide (x< -2 ^ 63)||decide (x>=2 ^ 63))=false)(h1:(items.isEmpty||x==1)=false)(h2:(decide (x<=0)||items.isEmpty)=false)
  (h3:¬(items.size:Int)*x>(2 ^ 63-1) / 8) (h4:Builtin.Tuple.tupleTooMany ((items.size:Int)*x)=false) (h5:((List.replicate x.toNat items).foldl (· ++ ·) #[]).size<=sizeLine):
  Meets (Builtin.«tuple.__mul__» ⟨[.ref l,.int x u],[]⟩) (λ_ R s=>s.heap.get? l=some { cls:=.type "tuple",dict:=dd,data:=.seq items n,slots:=sl}/\R (.ok (.ret (Value.ref s.heap.objs.size))) { s with heap:=s.heap.push { cls:=Value.type "tuple",data:=Data.seq ((List.replicate x.toNat items).foldl (· ++ ·) #[]) },toks:=s.toks}):=
 .of_wp λprog w A R s h=>by
  obtain⟨hp,g,d,tk,os⟩:=s;obtain⟨hl,h⟩:=h
  unfold Builtin.«tuple.__mul__»
  wp_walk using AutoSeq1.wpAny_loadPart' hl
  refine wpAny_ite_false (decide_eq_false (by rw[h0];exact Zr)) ?_
  wp_walk using AutoSeq1.wpAny_loadPart' hl
  refine wpAny_ite_false (decide_eq_false h3) ?_
  wp_walk using AutoSeq1.wpAny_loadPart' hl
  exact⟨_,rfl,h⟩
def Xc(K:PySem.W.Frag):R2:=λx y H Q=>∃l k xs,x= .ref l/\y= .int k/\SqT K H l xs/\ -(2 ^ 63)<=k/\k<2 ^ 63/\xs.length*k.toNat<=sizeLine/\
 ((xs=[]∨k=1)->Q (.ref l) H)/\(¬(xs=[]∨k=1)->∀p,H p=none->Q (.ref p) (upd H p (.tup (List.replicate k.toNat xs).flatten)))
theorem Ru:OpR X (binaryOp .Mult) (Xc X.K):=by
 intro pins s σ H x y v u Q I rx ry h
 obtain⟨l,k,xs,rfl,rfl,hH,h1,h2,hz,q1,q2⟩:=h
 cases rx
 obtain⟨t,rfl⟩:=ry
 obtain⟨its,r,p,hz0⟩:=I.tuple hH
 have hl:=r.length
 obtain⟨⟨cls,dd,data,sl⟩,e,hc,n,hd⟩:=id p
 simp only at hc hd
 subst hc hd
 have h0:(decide (k< -2 ^ 63)||decide (k>=2 ^ 63))=false:=by
  rw[decide_eq_false (by omega),decide_eq_false (by omega)];rfl
 refine wpAny_binaryOp_repeat_ref (T:="tuple") (U:="int") (by decide) ⟨_,e,rfl⟩ (λs'=>typeIs_int s' k t) uN F.fills_int_mul F.slot_int_rmul Av F.slot_int_index.lookup
  (call_meets F.slot_int_rmul (typeIs_int s k t) F.entry_int_rmul (F.args_int_rmul_2 _ _) (yu k t l its.toArray n dd sl) ⟨e,rfl,⟨_,e,rfl⟩,?_⟩)
 by_cases hs:xs=[]∨k=1
 .refine call_meets F.slot_tuple_mul ⟨_,e,rfl⟩ F.entry_tuple_mul (F.args_tuple_mul_2 _ _) (xK l its.toArray n k t dd sl h0 ?_) ⟨e,⟨.ref l,H,I,rfl,q1 hs⟩⟩
  rcases hs with hs|hs
  .subst hs;cases r;rfl
  .subst hs;simp
 .have hne:(its.toArray.isEmpty||k==1)=false:=by
   rw[Bool.or_eq_false_iff]
   refine⟨?_,by simpa usingλz=>hs (.inr z)⟩
   cases its with
   |nil=>cases r;exact absurd (Or.inl rfl) hs
   |cons a b=>simp
  have hne':its.toArray.isEmpty=false:=(Bool.or_eq_false_iff.mp hne).1
  by_cases hk:k<=0
  .refine call_meets F.slot_tuple_mul ⟨_,e,rfl⟩ F.entry_tuple_mul (F.args_tuple_mul_2 _ _) (xX l its.toArray n k t dd sl h0 hne (by rw[decide_eq_true hk];rfl)) ⟨e,?_⟩
   have hk0:k.toNat=0:=by omega
   refine⟨.ref s.heap.objs.size,_,I.laid (t':=s.toks) (o:=.tup []) (λb ob q=>Zb _ q) (Zg _) ⟨Nat.zero_le _,[],.nil,IsTup.new _ _⟩,rfl,?_⟩
   have:=q2 hs _ (I.hok.fresh (Zg _))
   rw[hk0]at this
   exact this
  .have hp:its.length*k.toNat<=sizeLine:=by rw[<-hl];exact hz
   have hsz:=sizeLine_eq
   have hcast:((its.toArray.size:Int))*k=((its.length*k.toNat:Nat):Int):=by
    rw[Zd,Int.natCast_mul,Int.toNat_of_nonneg (by omega)]
   have hfold:List.foldl (λx1 x2=>x1++x2) #[] (List.replicate k.toNat its.toArray)=(List.replicate k.toNat its).flatten.toArray:=by
    have:=foldl_rep its k.toNat []
    rw[List.nil_append]at this
    exact this
   have hlen:(List.replicate k.toNat its).flatten.length<=sizeLine:=by rw[len_rep,Nat.mul_comm];exact hp
   refine call_meets F.slot_tuple_mul ⟨_,e,rfl⟩ F.entry_tuple_mul (F.args_tuple_mul_2 _ _) (yW l its.toArray n k t dd sl h0 hne (by rw[decide_eq_false hk,hne'];rfl) ?_ ?_ ?_) ⟨e,?_⟩
   .rw[hcast]
    have:(sizeLine:Int)<=(2 ^ 63-1) / 8:=by decide
    omega
   .rw[hcast]
    unfold Builtin.Tuple.tupleTooMany
    exact decide_eq_false (by omega)
   .rw[hfold,Zd];exact hlen
   .rw[hfold]
    refine⟨.ref s.heap.objs.size,_,I.laid (t':=s.toks) (o:=.tup (List.replicate k.toNat xs).flatten) (λb ob q=>Zb _ q) (Zg _) ⟨by rw[len_rep,Nat.mul_comm];exact hz,_,r.rep k.toNat,IsTup.new _ _⟩,rfl,q2 hs _ (I.hok.fresh (Zg _))⟩
def Uj(K:PySem.W.Frag)(T:String)(x:V)(H:Hp)(k:Bool):Prop:=match x with
 | .non=>k=false
 | .bl _=>k=(T=="bool"||T=="int")
 | .int _=>k=(T=="int")
 | .str _=>k=(T=="str")
 | .ref p=>(k=(T=="list")/\∃xs,SqL K H p xs)∨(k=(T=="tuple")/\∃xs,SqT K H p xs)∨(k=(T=="dict")/\∃xs,H p=some (.dK xs))
 |_=>False
def Pq:List String:=["bool","int","str","list","tuple","dict"]
theorem Kp:mH X (.builtin "isinstance") (λxs H Q=>∃x T k,xs=[x,.ty T]/\T∈Pq/\Uj X.K T x H k/\Q (.bl k) H):=by
 intro pins s σ H xs us Q I r h
 obtain⟨x,T,k,rfl,hT,hx,q⟩:=h
 obtain⟨u,w',rfl,rx,rt⟩:=vals2 r
 cases rt
 have fin:EP X pins σ Q (.bool k) s:=⟨.bl k,H,I,rfl,q⟩
 have fin1:EP X pins σ Q (.bool k) { s with toks:=s.toks+1}:=⟨.bl k,H,I.tok _,rfl,q⟩
 simp only[Pq,Zi,List.not_mem_nil,or_false]at hT
 cases x with
 |non=>
  cases rx
  have hk:k=false:=hx
  subst hk
  rcases hT with rfl|rfl|rfl|rfl|rfl|rfl
  .exact IsiPair.NoneType_bool fin1
  .exact IsiPair.NoneType_int fin1
  .exact IsiPair.NoneType_str fin1
  .exact IsiPair.NoneType_list fin1
  .exact IsiPair.NoneType_tuple fin1
  .exact IsiPair.NoneType_dict fin1
 |bl b=>
  cases rx
  have hk:k=_:=hx
  subst hk
  rcases hT with rfl|rfl|rfl|rfl|rfl|rfl
  .exact IsiPair.bool_bool fin
  .exact IsiPair.bool_int fin
  .exact IsiPair.bool_str fin1
  .exact IsiPair.bool_list fin1
  .exact IsiPair.bool_tuple fin1
  .exact IsiPair.bool_dict fin1
 |int b=>
  obtain⟨t,rfl⟩:=rx
  have hk:k=_:=hx
  subst hk
  rcases hT with rfl|rfl|rfl|rfl|rfl|rfl
  .exact IsiPair.int_bool fin1
  .exact IsiPair.int_int fin
  .exact IsiPair.int_str fin1
  .exact IsiPair.int_list fin1
  .exact IsiPair.int_tuple fin1
  .exact IsiPair.int_dict fin1
 |str b=>
  obtain⟨t,rfl⟩:=rx
  have hk:k=_:=hx
  subst hk
  rcases hT with rfl|rfl|rfl|rfl|rfl|rfl
  .exact IsiPair.str_bool fin1
  .exact IsiPair.str_int fin1
  .exact IsiPair.str_str fin
  .exact IsiPair.str_list fin1
  .exact IsiPair.str_tuple fin1
  .exact IsiPair.str_dict fin1
 |ref p=>
  cases rx
  rcases hx with⟨hk,xs,hq⟩|⟨hk,xs,hq⟩|⟨hk,xs,hq⟩
  .subst hk
   obtain⟨its,_,pl,_⟩:=I.list hq
   obtain⟨o,ho,hc,_⟩:=pl.isList
   rcases hT with rfl|rfl|rfl|rfl|rfl|rfl
   .exact IsiPair.list_bool ho hc fin1
   .exact IsiPair.list_int ho hc fin1
   .exact IsiPair.list_str ho hc fin1
   .exact IsiPair.list_list ho hc fin
   .exact IsiPair.list_tuple ho hc fin1
   .exact IsiPair.list_dict ho hc fin1
  .subst hk
   obtain⟨its,_,pl,_⟩:=I.tuple hq
   obtain⟨o,ho,hc,_⟩:=pl
   rcases hT with rfl|rfl|rfl|rfl|rfl|rfl
   .exact IsiPair.tuple_bool ho hc fin1
   .exact IsiPair.tuple_int ho hc fin1
   .exact IsiPair.tuple_str ho hc fin1
   .exact IsiPair.tuple_list ho hc fin1
   .exact IsiPair.tuple_tuple ho hc fin
   .exact IsiPair.tuple_dict ho hc fin1
  .subst hk
   obtain⟨_,_,vs,_,o,_,_,ho,ex,_⟩:=I.hok p _ hq
   have hc:=ex.1
   rcases hT with rfl|rfl|rfl|rfl|rfl|rfl
   .exact IsiPair.dict_bool ho hc fin1
   .exact IsiPair.dict_int ho hc fin1
   .exact IsiPair.dict_str ho hc fin1
   .exact IsiPair.dict_list ho hc fin1
   .exact IsiPair.dict_tuple ho hc fin1
   .exact IsiPair.dict_dict ho hc fin
 |_=>exact hx.elim
end
end L2
namespace L3
open PySem PySem.Spec PyProof.Rows L2
abbrev O2:=D->D->Mu->Option (D×Mu)
abbrev O1':=D->Mu->Option (D×Mu)
abbrev ON:=List D->Mu->Option (D×Mu)
def cN:O2
 | .int i,.int j,μ=>some (.int (i+j),μ)
 | .tup xs,.tup ys,μ=>if xs.length+ys.length<=sizeLine then some (.tup (xs++ys),μ)else none
 | .lst xs,.lst ys,μ=>if xs.length+ys.length<=sizeLine then some (.lst (xs++ys),μ)else none
 | .str x,.str y,μ=>if x.length+y.length<=sizeLine then some (.str (x++y),μ)else none
 |_,_,_=>none
def jg:O2
 | .int i,.int j,μ=>some (.int (i-j),μ)
 |_,_,_=>none
def cF:O2
 | .int i,.int j,μ=>if tV i j<=134217728 then some (.int (i*j),μ)else none
 | .tup xs,.int k,μ=>if -(2 ^ 63)<=k/\k<2 ^ 63/\xs.length*k.toNat<=sizeLine then some (.tup (List.replicate k.toNat xs).flatten,μ)else none
 | .lst xs,.int k,μ=>if -(2 ^ 63)<=k/\k<2 ^ 63/\xs.length*k.toNat<=sizeLine then some (.lst (List.replicate k.toNat xs).flatten,μ)else none
 |_,_,_=>none
def oDiv:O2
 | .int i,.int j,μ=>if j≠0/\j.natAbs.log2<9000 then some (.int (i.fdiv j),μ)else none
 |_,_,_=>none
def oMod:O2
 | .int i,.int j,μ=>if j≠0 then some (.int (i.fmod j),μ)else none
 |_,_,_=>none
def yI:O2
 | .int i,.int j,μ=>if 0<=j/\(Builtin.Int.intBits i:Int)*j<=2 ^ 27 then some (.int (i ^ j.toNat),μ)else none
 |_,_,_=>none
def oLt:O2
 | .int i,.int j,μ=>some (.bl (decide (i<j)),μ)
 |_,_,_=>none
def oLe:O2
 | .int i,.int j,μ=>some (.bl (decide (i<=j)),μ)
 |_,_,_=>none
def oGt:O2
 | .int i,.int j,μ=>some (.bl (decide (j<i)),μ)
 |_,_,_=>none
def oGe:O2
 | .int i,.int j,μ=>some (.bl (decide (j<=i)),μ)
 |_,_,_=>none
section
variable {X:Cx} {tb:List Addr}
theorem Bc{K:PySem.W.Frag}{F:Hp}{ad:List Addr}{ds:List D}{vs:List V}(h:aC K F ad ds vs):∀k:Nat,aC K F ad (List.replicate k ds).flatten (List.replicate k vs).flatten
 |0=>aC.nil
 |k+1=>by
  rw[List.replicate_succ,List.replicate_succ,List.flatten_cons,List.flatten_cons]
  exact aC.append h (Bc h k)
theorem nZ{K:PySem.W.Frag}{F:Hp}{ad:List Addr}{ds:List D}{vs:List V}(h:aC K F ad ds vs):vs=[]↔ds=[]:=by
 have:=aC.length h
 cases ds<;>cases vs<;>simp_all
theorem Rc{α:Type}(xs:List α):(List.replicate (1:Int).toNat xs).flatten=xs:=by simp
theorem dZ:OpD X tb (binaryOp .Add) cN:=⟨_,Uq.or (QW.or (Nf.or Gs)),λW x y v u d μ' Q ok dx dy ho h=>by
 cases x with
 |int i=>
  cases y with
  |int j=>cases ho;rw[bQ dx,bQ dy];exact .inl ⟨i,j,rfl,rfl,put ok h gH⟩
  |_=>cases ho
 |tup xs=>
  cases y with
  |tup ys=>
   have ho':(if xs.length+ys.length<=sizeLine then some (D.tup (xs++ys),W.mu)else none)=some (d,μ'):=ho
   split at ho'
   .rename_i hz
    cases ho'
    obtain⟨a,us,rfl,q1,r1⟩:=iz dx
    obtain⟨b,ws,rfl,q2,r2⟩:=iz dy
    refine .inr (.inl ⟨a,b,us,ws,rfl,rfl,SqT.fz q1,SqT.fz q2,by rw[<-aC.length r1,<-aC.length r2];exact hz,λe=>?_,λ_ e=>?_,λ_ _ p hp=>qN ok h (aC.append r1 r2) hp⟩)
    .have e':=(nZ r1).mp e
     subst e'
     exact put ok h dy
    .have e':=(nZ r2).mp e
     subst e'
     rw[List.append_nil]at h
     exact put ok h dx
   .cases ho'
  |_=>cases ho
 |lst xs=>
  cases y with
  |lst ys=>
   have ho':(if xs.length+ys.length<=sizeLine then some (D.lst (xs++ys),W.mu)else none)=some (d,μ'):=ho
   split at ho'
   .rename_i hz
    cases ho'
    obtain⟨a,us,rfl,q1,r1⟩:=sZ dx
    obtain⟨b,ws,rfl,q2,r2⟩:=sZ dy
    exact .inr (.inr (.inl ⟨a,b,us,ws,rfl,rfl,(fP q1).1,(fP q2).1,by rw[<-aC.length r1,<-aC.length r2];exact hz,λp hp=>lZ ok h (aC.append r1 r2) hp⟩))
   .cases ho'
  |_=>cases ho
 |str x=>
  cases y with
  |str y=>
   have ho':(if x.length+y.length<=sizeLine then some (D.str (x++y),W.mu)else none)=some (d,μ'):=ho
   split at ho'
   .rename_i hz
    cases ho'
    rw[lK dx,lK dy]
    exact .inr (.inr (.inr ⟨x,y,rfl,rfl,hz,put ok h HD⟩))
   .cases ho'
  |_=>cases ho
 |_=>cases y<;>cases ho⟩
theorem kJ:OpD X tb (binaryOp .Sub) jg:=⟨_,Va,λW x y v u d μ' Q ok dx dy ho h=>by
 cases x with
 |int i=>
  cases y with
  |int j=>cases ho;rw[bQ dx,bQ dy];exact⟨i,j,rfl,rfl,put ok h gH⟩
  |_=>cases ho
 |_=>cases y<;>cases ho⟩
theorem dB:OpD X tb (binaryOp .Mult) cF:=⟨_,Rv.or (Ru.or Up),λW x y v u d μ' Q ok dx dy ho h=>by
 cases x with
 |int i=>
  cases y with
  |int j=>
   have ho':(if tV i j<=134217728 then some (D.int (i*j),W.mu)else none)=some (d,μ'):=ho
   split at ho'
   .rename_i hz
    cases ho'
    rw[bQ dx,bQ dy];exact .inl ⟨i,j,rfl,rfl,hz,put ok h gH⟩
   .cases ho'
  |_=>cases ho
 |tup xs=>
  cases y with
  |int k=>
   have ho':(if -(2 ^ 63)<=k/\k<2 ^ 63/\xs.length*k.toNat<=sizeLine then some (D.tup (List.replicate k.toNat xs).flatten,W.mu)else none)=some (d,μ'):=ho
   split at ho'
   .rename_i hz
    cases ho'
    obtain⟨a,us,rfl,q1,r1⟩:=iz dx
    rw[bQ dy]
    refine .inr (.inl ⟨a,k,us,rfl,rfl,SqT.fz q1,hz.1,hz.2.1,by rw[<-aC.length r1];exact hz.2.2,λe=>?_,λ_ p hp=>qN ok h (Bc r1 _) hp⟩)
    rcases e with e|e
    .have e':=(nZ r1).mp e
     subst e'
     have e2:(List.replicate k.toNat ([]:List D)).flatten=[]:=by simp
     rw[e2]at h
     exact put ok h dx
    .subst e
     rw[Rc]at h
     exact put ok h dx
   .cases ho'
  |_=>cases ho
 |lst xs=>
  cases y with
  |int k=>
   have ho':(if -(2 ^ 63)<=k/\k<2 ^ 63/\xs.length*k.toNat<=sizeLine then some (D.lst (List.replicate k.toNat xs).flatten,W.mu)else none)=some (d,μ'):=ho
   split at ho'
   .rename_i hz
    cases ho'
    obtain⟨a,us,rfl,q1,r1⟩:=sZ dx
    rw[bQ dy]
    exact .inr (.inr ⟨a,k,us,rfl,rfl,(fP q1).1,hz.1,hz.2.1,by rw[<-aC.length r1];exact hz.2.2,λp hp=>lZ ok h (Bc r1 _) hp⟩)
   .cases ho'
  |_=>cases ho
 |_=>cases y<;>cases ho⟩
theorem mR:OpD X tb (binaryOp .FloorDiv) oDiv:=⟨_,Ku,λW x y v u d μ' Q ok dx dy ho h=>by
 cases x with
 |int i=>
  cases y with
  |int j=>
   have ho':(if j≠0/\j.natAbs.log2<9000 then some (D.int (i.fdiv j),W.mu)else none)=some (d,μ'):=ho
   split at ho'
   .rename_i hz
    cases ho'
    rw[bQ dx,bQ dy];exact⟨i,j,rfl,rfl,hz,put ok h gH⟩
   .cases ho'
  |_=>cases ho
 |_=>cases y<;>cases ho⟩
theorem dF:OpD X tb (binaryOp .Mod) oMod:=⟨_,QR,λW x y v u d μ' Q ok dx dy ho h=>by
 cases x with
 |int i=>
  cases y with
  |int j=>
   have ho':(if j≠0 then some (D.int (i.fmod j),W.mu)else none)=some (d,μ'):=ho
   split at ho'
   .rename_i hz
    cases ho'
    rw[bQ dx,bQ dy];exact⟨i,j,rfl,rfl,hz,put ok h gH⟩
   .cases ho'
  |_=>cases ho
 |_=>cases y<;>cases ho⟩
theorem NZ:OpD X tb (binaryOp .Pow) yI:=⟨_,Ou,λW x y v u d μ' Q ok dx dy ho h=>by
 cases x with
 |int i=>
  cases y with
  |int j=>
   have ho':(if 0<=j/\(Builtin.Int.intBits i:Int)*j<=2 ^ 27 then some (D.int (i ^ j.toNat),W.mu)else none)=some (d,μ'):=ho
   split at ho'
   .rename_i hz
    cases ho'
    rw[bQ dx,bQ dy];exact⟨i,j,rfl,rfl,hz,put ok h gH⟩
   .cases ho'
  |_=>cases ho
 |_=>cases y<;>cases ho⟩
theorem pZ:OpD X tb (compareOp .Lt) oLt:=⟨_,Wm,λW x y v u d μ' Q ok dx dy ho h=>by
 cases x with
 |int i=>
  cases y with
  |int j=>cases ho;rw[bQ dx,bQ dy];exact⟨i,j,rfl,rfl,put ok h fG⟩
  |_=>cases ho
 |_=>cases y<;>cases ho⟩
theorem JT:OpD X tb (compareOp .LtE) oLe:=⟨_,Xf,λW x y v u d μ' Q ok dx dy ho h=>by
 cases x with
 |int i=>
  cases y with
  |int j=>cases ho;rw[bQ dx,bQ dy];exact⟨i,j,rfl,rfl,put ok h fG⟩
  |_=>cases ho
 |_=>cases y<;>cases ho⟩
theorem XH:OpD X tb (compareOp .Gt) oGt:=⟨_,Xr,λW x y v u d μ' Q ok dx dy ho h=>by
 cases x with
 |int i=>
  cases y with
  |int j=>cases ho;rw[bQ dx,bQ dy];exact⟨i,j,rfl,rfl,put ok h fG⟩
  |_=>cases ho
 |_=>cases y<;>cases ho⟩
theorem zH:OpD X tb (compareOp .GtE) oGe:=⟨_,XM,λW x y v u d μ' Q ok dx dy ho h=>by
 cases x with
 |int i=>
  cases y with
  |int j=>cases ho;rw[bQ dx,bQ dy];exact⟨i,j,rfl,rfl,put ok h fG⟩
  |_=>cases ho
 |_=>cases y<;>cases ho⟩
end
open PySem.SeqAt
mutual
def eqD:D->D->Bool
 | .non,.non=>true
 | .bl a,.bl b=>a==b
 | .bl a,.int b=>(if a then 1 else 0)==b
 | .int a,.bl b=>a==(if b then 1 else 0)
 | .int a,.int b=>a==b
 | .str a,.str b=>a==b
 | .tup xs,.tup ys=>kj xs ys
 | .lst xs,.lst ys=>kj xs ys
 |_,_=>false
def kj:List D->List D->Bool
 | [],[]=>true
 |x::xs,y::ys=>eqD x y&&kj xs ys
 |_,_=>false
end
mutual
def jJ:D->Nat
 | .tup ds=>kW ds+1
 | .lst ds=>kW ds+1
 |_=>0
def kW:List D->Nat
 | []=>0
 |d::ds=>max (jJ d) (kW ds)
end
mutual
def eG:D->Bool
 | .non=>true
 | .bl _=>true
 | .int _=>true
 | .str _=>true
 | .tup ds=>ik ds
 | .lst ds=>ik ds
 |_=>false
def ik:List D->Bool
 | []=>true
 |d::ds=>eG d&&ik ds
end
mutual
def DV(K:PySem.W.Frag)(H:Hp):D->V->Prop
 | .non,v=>v= .non
 | .bl b,v=>v= .bl b
 | .int i,v=>v= .int i
 | .str x,v=>v= .str x
 | .tup ds,v=>∃a xs,v= .ref a/\SqT K H a xs/\DVL K H ds xs
 | .lst ds,v=>∃a xs,v= .ref a/\SqL K H a xs/\DVL K H ds xs
 | .ro _,_=>False
 | .dic _,_=>False
 | .cell _,_=>False
def DVL(K:PySem.W.Frag)(H:Hp):List D->List V->Prop
 | [],vs=>vs=[]
 |d::ds,vs=>∃u us,vs=u::us/\DV K H d u/\DVL K H ds us
end
section
variable {K:PySem.W.Frag} {tb:List Addr} {W:Wd}
mutual
theorem SM:∀(d:D)(v:V),eG d=true->bL K (W.fz tb) W.ad d v->DV K W.H d v
 | .non,v,_,h=>by unfold bL at h;unfold DV;exact h
 | .bl _,v,_,h=>by unfold bL at h;unfold DV;exact h
 | .int _,v,_,h=>by unfold bL at h;unfold DV;exact h
 | .str _,v,_,h=>by unfold bL at h;unfold DV;exact h
 | .tup ds,v,p,h=>by
  unfold bL at h;unfold DV;unfold eG at p
  obtain⟨a,xs,e,q,r⟩:=h
  exact⟨a,xs,e,SqT.fz q,xr ds xs p r⟩
 | .lst ds,v,p,h=>by
  unfold bL at h;unfold DV;unfold eG at p
  obtain⟨a,xs,e,q,r⟩:=h
  exact⟨a,xs,e,SqL.of (fP q).1,xr ds xs p r⟩
 | .ro ds,v,p,h=>by unfold eG at p;cases p
 | .dic ds,v,p,h=>by unfold eG at p;cases p
 | .cell ds,v,p,h=>by unfold eG at p;cases p
theorem xr:∀(ds:List D)(vs:List V),ik ds=true->aC K (W.fz tb) W.ad ds vs->DVL K W.H ds vs
 | [],vs,_,h=>by unfold aC at h;unfold DVL;exact h
 |d::ds,vs,p,h=>by
  unfold aC at h;unfold DVL;unfold ik at p
  rw[Zo]at p
  obtain⟨u,us,e,q,r⟩:=h
  exact⟨u,us,e,SM d u p.1 q,xr ds us p.2 r⟩
end
end
def vq(xs ys:List D)(j:Nat):Bool:=match xs[j]?,ys[j]? with
 |some x,some y=>eqD x y
 |_,_=>false
theorem oY:∀(xs ys:List D),xs.length=ys.length->(List.range xs.length).all (vq xs ys)=kj xs ys
 | [],[],_=>by unfold kj;rfl
 |x::xs,y::ys,h=>by
  unfold kj
  rw[List.length_cons,List.range_succ_eq_map,List.all_cons,List.all_map,<-oY xs ys (by simpa using h)]
  rfl
theorem tK:∀(xs ys:List D),xs.length≠ys.length->kj xs ys=false
 | [],[],h=>absurd rfl h
 | [],y::ys,_=>by unfold kj;rfl
 |x::xs,[],_=>by unfold kj;rfl
 |x::xs,y::ys,h=>by
  unfold kj
  rw[tK xs ys (by simpa using h),Bool.and_false]
theorem Cy(xs ys:List D):((List.range (min xs.length ys.length)).all (vq xs ys)&&xs.length==ys.length)=kj xs ys:=by
 by_cases h:xs.length=ys.length
 .rw[<-h,Nat.min_self,oY xs ys h];simp
 .rw[tK xs ys h,beq_false_of_ne h,Bool.and_false]
section
variable {X:Cx} {pins:List (Addr×Obj)} {σ:L2.St} {H:Hp} {s:Shared}
theorem DVL.length{K:PySem.W.Frag}:∀{ds:List D}{vs:List V},DVL K H ds vs->ds.length=vs.length
 | [],vs,h=>by unfold DVL at h;subst h;rfl
 |d::ds,vs,h=>by
  unfold DVL at h
  obtain⟨u,us,rfl,_,r⟩:=h
  rw[List.length_cons,List.length_cons,DVL.length r]
theorem DVL.get'{K:PySem.W.Frag}:∀{ds:List D}{vs:List V}{i:Nat}{v:V},DVL K H ds vs->vs[i]? =some v->∃d,ds[i]? =some d/\DV K H d v
 | [],vs,i,v,h,e=>by unfold DVL at h;subst h;simp at e
 |d::ds,vs,0,x,h,e=>by
  unfold DVL at h
  obtain⟨u,us,rfl,p,r⟩:=h
  simp at e;subst e
  exact⟨d,rfl,p⟩
 |d::ds,vs,i+1,x,h,e=>by
  unfold DVL at h
  obtain⟨u,us,rfl,p,r⟩:=h
  obtain⟨y,e1,e2⟩:=DVL.get' (i:=i) r (by simpa using e)
  exact⟨y,by simpa using e1,e2⟩
theorem Es{a:Addr}{xs ys:List V}(I:Inv X pins σ H s)(h:SqL X.K H a xs)(h':SqT X.K H a ys):False:=by
 obtain⟨its,_,pl,_⟩:=I.list h
 obtain⟨its',_,pt,_⟩:=I.tuple h'
 obtain⟨o,ho,hc,_⟩:=pl.isList
 obtain⟨o',ho',hc',_⟩:=pt
 rw[ho]at ho';cases ho'
 rw[hc]at hc'
 exact absurd hc' (by decide)
mutual
theorem yE(I:Inv X pins σ H s):∀(x y:D)(v:V),DV X.K H x v->DV X.K H y v->eqD x y=true
 | .non,.non,v,h,k=>by unfold eqD;rfl
 | .non,.bl b,v,h,k=>by unfold DV at h k;subst h;cases k
 | .non,.int b,v,h,k=>by unfold DV at h k;subst h;cases k
 | .non,.str b,v,h,k=>by unfold DV at h k;subst h;cases k
 | .non,.tup ys,v,h,k=>by unfold DV at h k;obtain⟨a,us,rfl,q,r⟩:=k;cases h
 | .non,.lst ys,v,h,k=>by unfold DV at h k;obtain⟨a,us,rfl,q,r⟩:=k;cases h
 | .bl a,.non,v,h,k=>by unfold DV at h k;subst h;cases k
 | .bl a,.bl b,v,h,k=>by unfold DV at h k;subst h;cases k;unfold eqD;simp
 | .bl a,.int b,v,h,k=>by unfold DV at h k;subst h;cases k
 | .bl a,.str b,v,h,k=>by unfold DV at h k;subst h;cases k
 | .bl a,.tup ys,v,h,k=>by unfold DV at h k;obtain⟨a,us,rfl,q,r⟩:=k;cases h
 | .bl a,.lst ys,v,h,k=>by unfold DV at h k;obtain⟨a,us,rfl,q,r⟩:=k;cases h
 | .int a,.non,v,h,k=>by unfold DV at h k;subst h;cases k
 | .int a,.bl b,v,h,k=>by unfold DV at h k;subst h;cases k
 | .int a,.int b,v,h,k=>by unfold DV at h k;subst h;cases k;unfold eqD;simp
 | .int a,.str b,v,h,k=>by unfold DV at h k;subst h;cases k
 | .int a,.tup ys,v,h,k=>by unfold DV at h k;obtain⟨a,us,rfl,q,r⟩:=k;cases h
 | .int a,.lst ys,v,h,k=>by unfold DV at h k;obtain⟨a,us,rfl,q,r⟩:=k;cases h
 | .str a,.non,v,h,k=>by unfold DV at h k;subst h;cases k
 | .str a,.bl b,v,h,k=>by unfold DV at h k;subst h;cases k
 | .str a,.int b,v,h,k=>by unfold DV at h k;subst h;cases k
 | .str a,.str b,v,h,k=>by unfold DV at h k;subst h;cases k;unfold eqD;simp
 | .str a,.tup ys,v,h,k=>by unfold DV at h k;obtain⟨a,us,rfl,q,r⟩:=k;cases h
 | .str a,.lst ys,v,h,k=>by unfold DV at h k;obtain⟨a,us,rfl,q,r⟩:=k;cases h
 | .tup xs,.non,v,h,k=>by unfold DV at h k;obtain⟨a,us,rfl,q,r⟩:=h;cases k
 | .tup xs,.bl b,v,h,k=>by unfold DV at h k;obtain⟨a,us,rfl,q,r⟩:=h;cases k
 | .tup xs,.int b,v,h,k=>by unfold DV at h k;obtain⟨a,us,rfl,q,r⟩:=h;cases k
 | .tup xs,.str b,v,h,k=>by unfold DV at h k;obtain⟨a,us,rfl,q,r⟩:=h;cases k
 | .tup xs,.tup ys,v,h,k=>by
  unfold DV at h k
  obtain⟨a,us,rfl,q,r⟩:=h
  obtain⟨a',us',e,q',r'⟩:=k
  cases e
  have:=I.tuple_inj q q'
  subst this
  unfold eqD
  exact uF I xs ys us r r'
 | .tup xs,.lst ys,v,h,k=>by
  unfold DV at h k
  obtain⟨a,us,rfl,q,r⟩:=h
  obtain⟨a',us',e,q',r'⟩:=k
  cases e
  exact(Es I q' q).elim
 | .lst xs,.non,v,h,k=>by unfold DV at h k;obtain⟨a,us,rfl,q,r⟩:=h;cases k
 | .lst xs,.bl b,v,h,k=>by unfold DV at h k;obtain⟨a,us,rfl,q,r⟩:=h;cases k
 | .lst xs,.int b,v,h,k=>by unfold DV at h k;obtain⟨a,us,rfl,q,r⟩:=h;cases k
 | .lst xs,.str b,v,h,k=>by unfold DV at h k;obtain⟨a,us,rfl,q,r⟩:=h;cases k
 | .lst xs,.tup ys,v,h,k=>by
  unfold DV at h k
  obtain⟨a,us,rfl,q,r⟩:=h
  obtain⟨a',us',e,q',r'⟩:=k
  cases e
  exact(Es I q q').elim
 | .lst xs,.lst ys,v,h,k=>by
  unfold DV at h k
  obtain⟨a,us,rfl,q,r⟩:=h
  obtain⟨a',us',e,q',r'⟩:=k
  cases e
  have:=I.list_inj q q'
  subst this
  unfold eqD
  exact uF I xs ys us r r'
 | .ro _,_,v,h,_=>by unfold DV at h;exact h.elim
 | .dic _,_,v,h,_=>by unfold DV at h;exact h.elim
 | .cell _,_,v,h,_=>by unfold DV at h;exact h.elim
 |_,.ro _,v,_,k=>by unfold DV at k;exact k.elim
 |_,.dic _,v,_,k=>by unfold DV at k;exact k.elim
 |_,.cell _,v,_,k=>by unfold DV at k;exact k.elim
theorem uF(I:Inv X pins σ H s):∀(xs ys:List D)(vs:List V),DVL X.K H xs vs->DVL X.K H ys vs->kj xs ys=true
 | [],[],vs,_,_=>by unfold kj;rfl
 | [],y::ys,vs,h,k=>by unfold DVL at h k;subst h;obtain⟨u,us,e,_⟩:=k;cases e
 |x::xs,[],vs,h,k=>by unfold DVL at h k;subst k;obtain⟨u,us,e,_⟩:=h;cases e
 |x::xs,y::ys,vs,h,k=>by
  unfold DVL at h k
  obtain⟨u,us,rfl,p,r⟩:=h
  obtain⟨u',us',e,p',r'⟩:=k
  cases e
  unfold kj
  rw[yE I x y u p p',uF I xs ys us r r'];rfl
end
def sk:D->D->Bool
 | .tup _,.tup _=>true
 | .lst _,.lst _=>true
 |_,_=>false
def Vw(s:Shared):D->Value->Prop
 | .non,v=>v= .none
 | .bl b,v=>v= .bool b
 | .int i,v=>∃t,v= .int i t
 | .str z,v=>∃t,v= .str z t
 | .tup _,v=>∃a its,v= .ref a/\IsTup s.heap a its
 | .lst _,v=>∃a its,v= .ref a/\s.heap.IsList a its
 |_,_=>False
theorem vw{x:D}{v:V}{vv:Value}(I:Inv X pins σ H s)(h:DV X.K H x v)(rv:RelV v vv):Vw s x vv:=by
 cases x<;>unfold DV at h
 case tup=>obtain⟨a,us,rfl,q,r⟩:=h;obtain⟨_,_,pl,_⟩:=I.tuple q;exact⟨a,_,rv,pl⟩
 case lst=>obtain⟨a,us,rfl,q,r⟩:=h;obtain⟨_,_,pl,_⟩:=I.list q;exact⟨a,_,rv,pl.isList⟩
 case ro=>exact h.elim
 case dic=>exact h.elim
 case cell=>exact h.elim
 all_goals subst h;exact rv
theorem oV{vv uu:Value}{A:Around}(hu:A.units<cLine):∀(x y:D),Vw s x vv->Vw s y uu->sk x y=false->EqAt A s vv uu (eqD x y)
 | .non,.non,rfl,rfl,_=>by unfold eqD;exact EqAt.same _
 | .non,.bl _,rfl,rfl,_=>by unfold eqD;exact EqAt.none_bool _
 | .non,.int _,rfl,⟨_,rfl⟩,_=>by unfold eqD;exact EqAt.none_int _ _
 | .non,.str _,rfl,⟨_,rfl⟩,_=>by unfold eqD;exact EqAt.none_str _ _
 | .non,.tup _,rfl,⟨_,_,rfl,m⟩,_=>by unfold eqD;exact EqAt.none_tuple m hu
 | .non,.lst _,rfl,⟨_,_,rfl,m⟩,_=>by unfold eqD;exact EqAt.none_list m hu
 | .bl _,.non,rfl,rfl,_=>by unfold eqD;exact EqAt.bool_none _
 | .bl _,.bl _,rfl,rfl,_=>by unfold eqD;exact EqAt.bool_bool _ _
 | .bl _,.int _,rfl,⟨_,rfl⟩,_=>by unfold eqD;exact EqAt.bool_int _ _ _
 | .bl _,.str _,rfl,⟨_,rfl⟩,_=>by unfold eqD;exact EqAt.bool_str _ _ _
 | .bl _,.tup _,rfl,⟨_,_,rfl,m⟩,_=>by unfold eqD;exact EqAt.bool_tuple _ m hu
 | .bl _,.lst _,rfl,⟨_,_,rfl,m⟩,_=>by unfold eqD;exact EqAt.bool_list _ m hu
 | .int _,.non,⟨_,rfl⟩,rfl,_=>by unfold eqD;exact EqAt.int_none _ _
 | .int _,.bl _,⟨_,rfl⟩,rfl,_=>by unfold eqD;exact EqAt.int_bool _ _ _
 | .int _,.int _,⟨_,rfl⟩,⟨_,rfl⟩,_=>by unfold eqD;exact EqAt.int_int _ _ _ _
 | .int _,.str _,⟨_,rfl⟩,⟨_,rfl⟩,_=>by unfold eqD;exact EqAt.int_str _ _ _ _
 | .int _,.tup _,⟨_,rfl⟩,⟨_,_,rfl,m⟩,_=>by unfold eqD;exact EqAt.int_tuple _ _ m hu
 | .int _,.lst _,⟨_,rfl⟩,⟨_,_,rfl,m⟩,_=>by unfold eqD;exact EqAt.int_list _ _ m hu
 | .str _,.non,⟨_,rfl⟩,rfl,_=>by unfold eqD;exact EqAt.str_none _ _
 | .str _,.bl _,⟨_,rfl⟩,rfl,_=>by unfold eqD;exact EqAt.str_bool _ _ _
 | .str _,.int _,⟨_,rfl⟩,⟨_,rfl⟩,_=>by unfold eqD;exact EqAt.str_int _ _ _ _
 | .str _,.str _,⟨_,rfl⟩,⟨_,rfl⟩,_=>by unfold eqD;exact EqAt.str_str _ _ _ _
 | .str _,.tup _,⟨_,rfl⟩,⟨_,_,rfl,m⟩,_=>by unfold eqD;exact EqAt.str_tuple _ _ m hu
 | .str _,.lst _,⟨_,rfl⟩,⟨_,_,rfl,m⟩,_=>by unfold eqD;exact EqAt.str_list _ _ m hu
 | .tup _,.non,⟨_,_,rfl,l⟩,rfl,_=>by unfold eqD;exact EqAt.tuple_none l hu
 | .tup _,.bl _,⟨_,_,rfl,l⟩,rfl,_=>by unfold eqD;exact EqAt.tuple_bool _ l hu
 | .tup _,.int _,⟨_,_,rfl,l⟩,⟨_,rfl⟩,_=>by unfold eqD;exact EqAt.tuple_int _ _ l hu
 | .tup _,.str _,⟨_,_,rfl,l⟩,⟨_,rfl⟩,_=>by unfold eqD;exact EqAt.tuple_str _ _ l hu
 | .tup _,.tup _,_,_,h=>nomatch h
 | .tup _,.lst _,⟨_,_,rfl,l⟩,⟨_,_,rfl,m⟩,_=>by unfold eqD;exact EqAt.tuple_list l m hu
 | .lst _,.non,⟨_,_,rfl,l⟩,rfl,_=>by unfold eqD;exact EqAt.list_none l hu
 | .lst _,.bl _,⟨_,_,rfl,l⟩,rfl,_=>by unfold eqD;exact EqAt.list_bool _ l hu
 | .lst _,.int _,⟨_,_,rfl,l⟩,⟨_,rfl⟩,_=>by unfold eqD;exact EqAt.list_int _ _ l hu
 | .lst _,.str _,⟨_,_,rfl,l⟩,⟨_,rfl⟩,_=>by unfold eqD;exact EqAt.list_str _ _ l hu
 | .lst _,.tup _,⟨_,_,rfl,l⟩,⟨_,_,rfl,m⟩,_=>by unfold eqD;exact EqAt.list_tuple l m hu
 | .lst _,.lst _,_,_,h=>nomatch h
 | .ro _,_,p,_,_=>p.elim
 |_,.ro _,_,p,_=>p.elim
 | .dic _,_,p,_,_=>p.elim
 |_,.dic _,_,p,_=>p.elim
 | .cell _,_,p,_,_=>p.elim
 |_,.cell _,_,p,_=>p.elim
theorem oU{vv uu:Value}{A:Around}(hu:A.units<cLine):∀(x y:D),Vw s x vv->Vw s y uu->sk x y=false->RcAt A s vv uu (eqD x y)
 | .non,.non,rfl,rfl,_=>by unfold eqD;exact RcAt.none_none
 | .non,.bl _,rfl,rfl,_=>by unfold eqD;exact RcAt.none_bool _
 | .non,.int _,rfl,⟨_,rfl⟩,_=>by unfold eqD;exact RcAt.none_int _ _
 | .non,.str _,rfl,⟨_,rfl⟩,_=>by unfold eqD;exact RcAt.none_str _ _
 | .non,.tup _,rfl,⟨_,_,rfl,m⟩,_=>by unfold eqD;exact RcAt.none_tuple m hu
 | .non,.lst _,rfl,⟨_,_,rfl,m⟩,_=>by unfold eqD;exact RcAt.none_list m hu
 | .bl _,.non,rfl,rfl,_=>by unfold eqD;exact RcAt.bool_none _
 | .bl _,.bl _,rfl,rfl,_=>by unfold eqD;exact RcAt.bool_bool _ _
 | .bl _,.int _,rfl,⟨_,rfl⟩,_=>by unfold eqD;exact RcAt.bool_int _ _ _
 | .bl _,.str _,rfl,⟨_,rfl⟩,_=>by unfold eqD;exact RcAt.bool_str _ _ _
 | .bl _,.tup _,rfl,⟨_,_,rfl,m⟩,_=>by unfold eqD;exact RcAt.bool_tuple _ m hu
 | .bl _,.lst _,rfl,⟨_,_,rfl,m⟩,_=>by unfold eqD;exact RcAt.bool_list _ m hu
 | .int _,.non,⟨_,rfl⟩,rfl,_=>by unfold eqD;exact RcAt.int_none _ _
 | .int _,.bl _,⟨_,rfl⟩,rfl,_=>by unfold eqD;exact RcAt.int_bool _ _ _
 | .int _,.int _,⟨_,rfl⟩,⟨_,rfl⟩,_=>by unfold eqD;exact RcAt.int_int _ _ _ _
 | .int _,.str _,⟨_,rfl⟩,⟨_,rfl⟩,_=>by unfold eqD;exact RcAt.int_str _ _ _ _
 | .int _,.tup _,⟨_,rfl⟩,⟨_,_,rfl,m⟩,_=>by unfold eqD;exact RcAt.int_tuple _ _ m hu
 | .int _,.lst _,⟨_,rfl⟩,⟨_,_,rfl,m⟩,_=>by unfold eqD;exact RcAt.int_list _ _ m hu
 | .str _,.non,⟨_,rfl⟩,rfl,_=>by unfold eqD;exact RcAt.str_none _ _
 | .str _,.bl _,⟨_,rfl⟩,rfl,_=>by unfold eqD;exact RcAt.str_bool _ _ _
 | .str _,.int _,⟨_,rfl⟩,⟨_,rfl⟩,_=>by unfold eqD;exact RcAt.str_int _ _ _ _
 | .str _,.str _,⟨_,rfl⟩,⟨_,rfl⟩,_=>by unfold eqD;exact RcAt.str_str _ _ _ _
 | .str _,.tup _,⟨_,rfl⟩,⟨_,_,rfl,m⟩,_=>by unfold eqD;exact RcAt.str_tuple _ _ m hu
 | .str _,.lst _,⟨_,rfl⟩,⟨_,_,rfl,m⟩,_=>by unfold eqD;exact RcAt.str_list _ _ m hu
 | .tup _,.non,⟨_,_,rfl,l⟩,rfl,_=>by unfold eqD;exact RcAt.tuple_none l hu
 | .tup _,.bl _,⟨_,_,rfl,l⟩,rfl,_=>by unfold eqD;exact RcAt.tuple_bool _ l hu
 | .tup _,.int _,⟨_,_,rfl,l⟩,⟨_,rfl⟩,_=>by unfold eqD;exact RcAt.tuple_int _ _ l hu
 | .tup _,.str _,⟨_,_,rfl,l⟩,⟨_,rfl⟩,_=>by unfold eqD;exact RcAt.tuple_str _ _ l hu
 | .tup _,.tup _,_,_,h=>nomatch h
 | .tup _,.lst _,⟨_,_,rfl,l⟩,⟨_,_,rfl,m⟩,_=>by unfold eqD;exact RcAt.tuple_list l m hu
 | .lst _,.non,⟨_,_,rfl,l⟩,rfl,_=>by unfold eqD;exact RcAt.list_none l hu
 | .lst _,.bl _,⟨_,_,rfl,l⟩,rfl,_=>by unfold eqD;exact RcAt.list_bool _ l hu
 | .lst _,.int _,⟨_,_,rfl,l⟩,⟨_,rfl⟩,_=>by unfold eqD;exact RcAt.list_int _ _ l hu
 | .lst _,.str _,⟨_,_,rfl,l⟩,⟨_,rfl⟩,_=>by unfold eqD;exact RcAt.list_str _ _ l hu
 | .lst _,.tup _,⟨_,_,rfl,l⟩,⟨_,_,rfl,m⟩,_=>by unfold eqD;exact RcAt.list_tuple l m hu
 | .lst _,.lst _,_,_,h=>nomatch h
 | .ro _,_,p,_,_=>p.elim
 |_,.ro _,_,p,_=>p.elim
 | .dic _,_,p,_,_=>p.elim
 |_,.dic _,_,p,_=>p.elim
 | .cell _,_,p,_,_=>p.elim
 |_,.cell _,_,p,_=>p.elim
theorem oA{vv uu:Value}{A:Around}(hu:A.units<cLine):∀(x y:D),Vw s x vv->Vw s y uu->sk x y=false->RcNeAt A s vv uu (!eqD x y)
 | .non,.non,rfl,rfl,_=>by unfold eqD;exact RcNeAt.none_none
 | .non,.bl _,rfl,rfl,_=>by unfold eqD;exact RcNeAt.none_bool _
 | .non,.int _,rfl,⟨_,rfl⟩,_=>by unfold eqD;exact RcNeAt.none_int _ _
 | .non,.str _,rfl,⟨_,rfl⟩,_=>by unfold eqD;exact RcNeAt.none_str _ _
 | .non,.tup _,rfl,⟨_,_,rfl,m⟩,_=>by unfold eqD;exact RcNeAt.none_tuple m hu
 | .non,.lst _,rfl,⟨_,_,rfl,m⟩,_=>by unfold eqD;exact RcNeAt.none_list m hu
 | .bl _,.non,rfl,rfl,_=>by unfold eqD;exact RcNeAt.bool_none _
 | .bl _,.bl _,rfl,rfl,_=>by unfold eqD;exact RcNeAt.bool_bool _ _
 | .bl _,.int _,rfl,⟨_,rfl⟩,_=>by unfold eqD;exact RcNeAt.bool_int _ _ _
 | .bl _,.str _,rfl,⟨_,rfl⟩,_=>by unfold eqD;exact RcNeAt.bool_str _ _ _
 | .bl _,.tup _,rfl,⟨_,_,rfl,m⟩,_=>by unfold eqD;exact RcNeAt.bool_tuple _ m hu
 | .bl _,.lst _,rfl,⟨_,_,rfl,m⟩,_=>by unfold eqD;exact RcNeAt.bool_list _ m hu
 | .int _,.non,⟨_,rfl⟩,rfl,_=>by unfold eqD;exact RcNeAt.int_none _ _
 | .int _,.bl _,⟨_,rfl⟩,rfl,_=>by unfold eqD;exact RcNeAt.int_bool _ _ _
 | .int _,.int _,⟨_,rfl⟩,⟨_,rfl⟩,_=>by unfold eqD;exact RcNeAt.int_int _ _ _ _
 | .int _,.str _,⟨_,rfl⟩,⟨_,rfl⟩,_=>by unfold eqD;exact RcNeAt.int_str _ _ _ _
 | .int _,.tup _,⟨_,rfl⟩,⟨_,_,rfl,m⟩,_=>by unfold eqD;exact RcNeAt.int_tuple _ _ m hu
 | .int _,.lst _,⟨_,rfl⟩,⟨_,_,rfl,m⟩,_=>by unfold eqD;exact RcNeAt.int_list _ _ m hu
 | .str _,.non,⟨_,rfl⟩,rfl,_=>by unfold eqD;exact RcNeAt.str_none _ _
 | .str _,.bl _,⟨_,rfl⟩,rfl,_=>by unfold eqD;exact RcNeAt.str_bool _ _ _
 | .str _,.int _,⟨_,rfl⟩,⟨_,rfl⟩,_=>by unfold eqD;exact RcNeAt.str_int _ _ _ _
 | .str _,.str _,⟨_,rfl⟩,⟨_,rfl⟩,_=>by unfold eqD;exact RcNeAt.str_str _ _ _ _
 | .str _,.tup _,⟨_,rfl⟩,⟨_,_,rfl,m⟩,_=>by unfold eqD;exact RcNeAt.str_tuple _ _ m hu
 | .str _,.lst _,⟨_,rfl⟩,⟨_,_,rfl,m⟩,_=>by unfold eqD;exact RcNeAt.str_list _ _ m hu
 | .tup _,.non,⟨_,_,rfl,l⟩,rfl,_=>by unfold eqD;exact RcNeAt.tuple_none l hu
 | .tup _,.bl _,⟨_,_,rfl,l⟩,rfl,_=>by unfold eqD;exact RcNeAt.tuple_bool _ l hu
 | .tup _,.int _,⟨_,_,rfl,l⟩,⟨_,rfl⟩,_=>by unfold eqD;exact RcNeAt.tuple_int _ _ l hu
 | .tup _,.str _,⟨_,_,rfl,l⟩,⟨_,rfl⟩,_=>by unfold eqD;exact RcNeAt.tuple_str _ _ l hu
 | .tup _,.tup _,_,_,h=>nomatch h
 | .tup _,.lst _,⟨_,_,rfl,l⟩,⟨_,_,rfl,m⟩,_=>by unfold eqD;exact RcNeAt.tuple_list l m hu
 | .lst _,.non,⟨_,_,rfl,l⟩,rfl,_=>by unfold eqD;exact RcNeAt.list_none l hu
 | .lst _,.bl _,⟨_,_,rfl,l⟩,rfl,_=>by unfold eqD;exact RcNeAt.list_bool _ l hu
 | .lst _,.int _,⟨_,_,rfl,l⟩,⟨_,rfl⟩,_=>by unfold eqD;exact RcNeAt.list_int _ _ l hu
 | .lst _,.str _,⟨_,_,rfl,l⟩,⟨_,rfl⟩,_=>by unfold eqD;exact RcNeAt.list_str _ _ l hu
 | .lst _,.tup _,⟨_,_,rfl,l⟩,⟨_,_,rfl,m⟩,_=>by unfold eqD;exact RcNeAt.list_tuple l m hu
 | .lst _,.lst _,_,_,h=>nomatch h
 | .ro _,_,p,_,_=>p.elim
 |_,.ro _,_,p,_=>p.elim
 | .dic _,_,p,_,_=>p.elim
 |_,.dic _,_,p,_=>p.elim
 | .cell _,_,p,_,_=>p.elim
 |_,.cell _,_,p,_=>p.elim
theorem Bm{xs ys:List D}{us ws:List V}{its0 its1:List Value}{A:Around}(r:DVL X.K H xs us)(r2:DVL X.K H ys ws)(iv0:Vals us its0)(iv1:Vals ws its1)
  (E:∀(j:Nat)(x y:D),xs[j]? =some x->ys[j]? =some y->∀(z z':Value),its0[j]? =some z->its1[j]? =some z'->EqAt A.in1 s z z' (eqD x y)) (j:Nat) (h1:j<its0.toArray.size) (h2:j<its1.toArray.size):EqAt A.in1 s its0.toArray[j] its1.toArray[j] (vq xs ys j):=by
 have h1':j<its0.length:=by simpa using h1
 have h2':j<its1.length:=by simpa using h2
 obtain⟨d,e1,dv⟩:=DVL.get' r (show us[j]? =some (us[j]'(by rw[iv0.length];exact h1')) by simp)
 obtain⟨d',e2,dv'⟩:=DVL.get' r2 (show ws[j]? =some (ws[j]'(by rw[iv1.length];exact h2')) by simp)
 obtain⟨z,ez,rz⟩:=iv0.get (show us[j]? =some (us[j]'(by rw[iv0.length];exact h1')) by simp)
 obtain⟨z',ez',rz'⟩:=iv1.get (show ws[j]? =some (ws[j]'(by rw[iv1.length];exact h2')) by simp)
 have f1:its0.toArray[j]=z:=by simpa[h1']using ez
 have f2:its1.toArray[j]=z':=by simpa[h2']using ez'
 rw[f1,f2]
 have:=E j d d' e1 e2 z z' ez ez'
 unfold vq
 rw[e1,e2]
 exact this
theorem Ho{xs ys:List D}{us ws:List V}{its0 its1:List Value}{a b:Addr}{A:Around}(pl0:IsTup s.heap a its0.toArray)(pl1:IsTup s.heap b its1.toArray)(r:DVL X.K H xs us)(r2:DVL X.K H ys ws)(iv0:Vals us its0)(iv1:Vals ws its1)(hu:A.units<cLine)
  (E:∀(j:Nat)(x y:D),xs[j]? =some x->ys[j]? =some y->∀(z z':Value),its0[j]? =some z->its1[j]? =some z'->EqAt A.in1 s z z' (eqD x y)):RcAt A s (.ref a) (.ref b) (kj xs ys):=by
 have hl0:its0.toArray.size=xs.length:=by rw[Zd,<-iv0.length,<-DVL.length r]
 have hl1:its1.toArray.size=ys.length:=by rw[Zd,<-iv1.length,<-DVL.length r2]
 have rc:=RcAt.tuples (A:=A) (e:=vq xs ys) pl0 pl1 (by omega) (Bm r r2 iv0 iv1 E)
 rw[hl0,hl1,Cy]at rc
 exact rc
theorem Hz{xs ys:List D}{us ws:List V}{its0 its1:List Value}{a b:Addr}{A:Around}(pl0:PlainL s.heap a its0.toArray)(pl1:PlainL s.heap b its1.toArray)(r:DVL X.K H xs us)(r2:DVL X.K H ys ws)(iv0:Vals us its0)(iv1:Vals ws its1)(hu:A.units<cLine)
  (E:∀(j:Nat)(x y:D),xs[j]? =some x->ys[j]? =some y->∀(z z':Value),its0[j]? =some z->its1[j]? =some z'->EqAt A.in1 s z z' (eqD x y)):RcAt A s (.ref a) (.ref b) (kj xs ys):=by
 have hl0:its0.toArray.size=xs.length:=by rw[Zd,<-iv0.length,<-DVL.length r]
 have hl1:its1.toArray.size=ys.length:=by rw[Zd,<-iv1.length,<-DVL.length r2]
 by_cases hlen:xs.length=ys.length
 .have rc:=RcAt.lists (A:=A) (e:=vq xs ys) pl0.isList pl1.isList (by rw[hl0,hl1,hlen]) (by omega) (Bm r r2 iv0 iv1 E)
  rw[hl0,oY _ _ hlen]at rc
  exact rc
 .rw[tK _ _ hlen]
  exact RcAt.lists_lengths pl0.isList pl1.isList (by rw[hl0,hl1];simpa using hlen) (by omega)
theorem Oi{xs ys:List D}{us ws:List V}{its0 its1:List Value}{a b:Addr}{A:Around}(pl0:IsTup s.heap a its0.toArray)(pl1:IsTup s.heap b its1.toArray)(r:DVL X.K H xs us)(r2:DVL X.K H ys ws)(iv0:Vals us its0)(iv1:Vals ws its1)(hu:A.units<cLine)
  (E:∀(j:Nat)(x y:D),xs[j]? =some x->ys[j]? =some y->∀(z z':Value),its0[j]? =some z->its1[j]? =some z'->EqAt A.in1 s z z' (eqD x y)):RcNeAt A s (.ref a) (.ref b) (!kj xs ys):=by
 have hl0:its0.toArray.size=xs.length:=by rw[Zd,<-iv0.length,<-DVL.length r]
 have hl1:its1.toArray.size=ys.length:=by rw[Zd,<-iv1.length,<-DVL.length r2]
 have rc:=RcNeAt.tuples (A:=A) (e:=vq xs ys) pl0 pl1 (by omega) (Bm r r2 iv0 iv1 E)
 rw[hl0,hl1,Cy]at rc
 exact rc
theorem Ot{xs ys:List D}{us ws:List V}{its0 its1:List Value}{a b:Addr}{A:Around}(pl0:PlainL s.heap a its0.toArray)(pl1:PlainL s.heap b its1.toArray)(r:DVL X.K H xs us)(r2:DVL X.K H ys ws)(iv0:Vals us its0)(iv1:Vals ws its1)(hu:A.units<cLine)
  (E:∀(j:Nat)(x y:D),xs[j]? =some x->ys[j]? =some y->∀(z z':Value),its0[j]? =some z->its1[j]? =some z'->EqAt A.in1 s z z' (eqD x y)):RcNeAt A s (.ref a) (.ref b) (!kj xs ys):=by
 have hl0:its0.toArray.size=xs.length:=by rw[Zd,<-iv0.length,<-DVL.length r]
 have hl1:its1.toArray.size=ys.length:=by rw[Zd,<-iv1.length,<-DVL.length r2]
 by_cases hlen:xs.length=ys.length
 .have rc:=RcNeAt.lists (A:=A) (e:=vq xs ys) pl0.isList pl1.isList (by rw[hl0,hl1,hlen]) (by omega) (Bm r r2 iv0 iv1 E)
  rw[hl0,oY _ _ hlen]at rc
  exact rc
 .rw[tK _ _ hlen]
  exact RcNeAt.lists_lengths pl0.isList pl1.isList (by rw[hl0,hl1];simpa using hlen) (by omega)
mutual
theorem Vr(I:Inv X pins σ H s):∀(x y:D)(v u:V)(vv uu:Value)(A:Around),DV X.K H x v->DV X.K H y u->RelV v vv->RelV u uu->A.units+jJ x<cLine->EqAt A s vv uu (eqD x y)
 | .tup xs,y,v,u,vv,uu,A,h,k,rv,ru,hu=>by
  cases y with
  |tup ys=>
   have h0:=h
   have k0:=k
   unfold DV at h k;unfold jJ at hu
   obtain⟨a,us,rfl,q,r⟩:=h;cases rv;obtain⟨its0,iv0,pl0,hz0⟩:=I.tuple q;obtain⟨b,ws,rfl,p,r2⟩:=k;cases ru;obtain⟨its1,iv1,pl1,hz1⟩:=I.tuple p
   by_cases hab:a=b
   .subst hab
    rw[yE I _ _ _ h0 k0]
    exact EqAt.same _
   .unfold eqD
    exact EqAt.of_refs hab (Ho pl0 pl1 r r2 iv0 iv1 (by omega) (oh I xs ys us ws its0 its1 A.in1 r r2 iv0 iv1 (by rw[units_in1];omega)))
  |_=>exact oV (by omega) _ _ (vw I h rv) (vw I k ru) rfl
 | .lst xs,y,v,u,vv,uu,A,h,k,rv,ru,hu=>by
  cases y with
  |lst ys=>
   have h0:=h
   have k0:=k
   unfold DV at h k;unfold jJ at hu
   obtain⟨a,us,rfl,q,r⟩:=h;cases rv;obtain⟨its0,iv0,pl0,hz0⟩:=I.list q;obtain⟨b,ws,rfl,p,r2⟩:=k;cases ru;obtain⟨its1,iv1,pl1,hz1⟩:=I.list p
   by_cases hab:a=b
   .subst hab
    rw[yE I _ _ _ h0 k0]
    exact EqAt.same _
   .unfold eqD
    exact EqAt.of_refs hab (Hz pl0 pl1 r r2 iv0 iv1 (by omega) (oh I xs ys us ws its0 its1 A.in1 r r2 iv0 iv1 (by rw[units_in1];omega)))
  |_=>exact oV (by omega) _ _ (vw I h rv) (vw I k ru) rfl
 | .non,y,v,u,vv,uu,A,h,k,rv,ru,hu=>oV (by omega) _ _ (vw I h rv) (vw I k ru) (by cases y<;>rfl)
 | .bl _,y,v,u,vv,uu,A,h,k,rv,ru,hu=>oV (by omega) _ _ (vw I h rv) (vw I k ru) (by cases y<;>rfl)
 | .int _,y,v,u,vv,uu,A,h,k,rv,ru,hu=>oV (by omega) _ _ (vw I h rv) (vw I k ru) (by cases y<;>rfl)
 | .str _,y,v,u,vv,uu,A,h,k,rv,ru,hu=>oV (by omega) _ _ (vw I h rv) (vw I k ru) (by cases y<;>rfl)
 | .ro _,y,v,u,vv,uu,A,h,k,rv,ru,hu=>oV (by omega) _ _ (vw I h rv) (vw I k ru) (by cases y<;>rfl)
 | .dic _,y,v,u,vv,uu,A,h,k,rv,ru,hu=>oV (by omega) _ _ (vw I h rv) (vw I k ru) (by cases y<;>rfl)
 | .cell _,y,v,u,vv,uu,A,h,k,rv,ru,hu=>oV (by omega) _ _ (vw I h rv) (vw I k ru) (by cases y<;>rfl)
theorem oh(I:Inv X pins σ H s):∀(xs ys:List D)(vs us:List V)(vvs uus:List Value)(A:Around),DVL X.K H xs vs->DVL X.K H ys us->Vals vs vvs->Vals us uus->A.units+kW xs<cLine->
  ∀(j:Nat)(x y:D),xs[j]? =some x->ys[j]? =some y->∀(z z':Value),vvs[j]? =some z->uus[j]? =some z'->EqAt A s z z' (eqD x y)
 | [],ys,vs,us,vvs,uus,A,_,_,_,_,_=>λj x y e=>by simp at e
 |x::xs,[],vs,us,vvs,uus,A,_,_,_,_,_=>λj _ y _ e=>by simp at e
 |x::xs,y::ys,vs,us,vvs,uus,A,h,k,rv,ru,hu=>by
  unfold DVL at h k
  unfold kW at hu
  obtain⟨v,vs',rfl,p,r⟩:=h
  obtain⟨u,us',rfl,p',r'⟩:=k
  cases rv with
  |cons rv1 rv2=>
   cases ru with
   |cons ru1 ru2=>
    intro j x' y' e1 e2 z z' ez ez'
    cases j with
    |zero=>
     simp at e1 e2 ez ez'
     subst e1 e2 ez ez'
     exact Vr I x y v u _ _ A p p' rv1 ru1 (by omega)
    |succ j=>
     exact oh I xs ys vs' us' _ _ A r r' rv2 ru2 (by omega) j x' y' (by simpa using e1) (by simpa using e2) z z' (by simpa using ez) (by simpa using ez')
end
theorem Tc(I:Inv X pins σ H s):∀(x y:D)(v u:V)(vv uu:Value)(A:Around),DV X.K H x v->DV X.K H y u->RelV v vv->RelV u uu->A.units+jJ x<cLine->RcAt A s vv uu (eqD x y)
 | .tup xs,y,v,u,vv,uu,A,h,k,rv,ru,hu=>by
  cases y with
  |tup ys=>
   unfold DV at h k;unfold jJ at hu
   obtain⟨a,us,rfl,q,r⟩:=h;cases rv;obtain⟨its0,iv0,pl0,hz0⟩:=I.tuple q;obtain⟨b,ws,rfl,p,r2⟩:=k;cases ru;obtain⟨its1,iv1,pl1,hz1⟩:=I.tuple p
   unfold eqD
   exact Ho pl0 pl1 r r2 iv0 iv1 (by omega) (oh I xs ys us ws its0 its1 A.in1 r r2 iv0 iv1 (by rw[units_in1];omega))
  |_=>exact oU (by omega) _ _ (vw I h rv) (vw I k ru) rfl
 | .lst xs,y,v,u,vv,uu,A,h,k,rv,ru,hu=>by
  cases y with
  |lst ys=>
   unfold DV at h k;unfold jJ at hu
   obtain⟨a,us,rfl,q,r⟩:=h;cases rv;obtain⟨its0,iv0,pl0,hz0⟩:=I.list q;obtain⟨b,ws,rfl,p,r2⟩:=k;cases ru;obtain⟨its1,iv1,pl1,hz1⟩:=I.list p
   unfold eqD
   exact Hz pl0 pl1 r r2 iv0 iv1 (by omega) (oh I xs ys us ws its0 its1 A.in1 r r2 iv0 iv1 (by rw[units_in1];omega))
  |_=>exact oU (by omega) _ _ (vw I h rv) (vw I k ru) rfl
 | .non,y,v,u,vv,uu,A,h,k,rv,ru,hu=>oU (by omega) _ _ (vw I h rv) (vw I k ru) (by cases y<;>rfl)
 | .bl _,y,v,u,vv,uu,A,h,k,rv,ru,hu=>oU (by omega) _ _ (vw I h rv) (vw I k ru) (by cases y<;>rfl)
 | .int _,y,v,u,vv,uu,A,h,k,rv,ru,hu=>oU (by omega) _ _ (vw I h rv) (vw I k ru) (by cases y<;>rfl)
 | .str _,y,v,u,vv,uu,A,h,k,rv,ru,hu=>oU (by omega) _ _ (vw I h rv) (vw I k ru) (by cases y<;>rfl)
 | .ro _,y,v,u,vv,uu,A,h,k,rv,ru,hu=>oU (by omega) _ _ (vw I h rv) (vw I k ru) (by cases y<;>rfl)
 | .dic _,y,v,u,vv,uu,A,h,k,rv,ru,hu=>oU (by omega) _ _ (vw I h rv) (vw I k ru) (by cases y<;>rfl)
 | .cell _,y,v,u,vv,uu,A,h,k,rv,ru,hu=>oU (by omega) _ _ (vw I h rv) (vw I k ru) (by cases y<;>rfl)
theorem Tp(I:Inv X pins σ H s):∀(x y:D)(v u:V)(vv uu:Value)(A:Around),DV X.K H x v->DV X.K H y u->RelV v vv->RelV u uu->A.units+jJ x<cLine->RcNeAt A s vv uu (!eqD x y)
 | .tup xs,y,v,u,vv,uu,A,h,k,rv,ru,hu=>by
  cases y with
  |tup ys=>
   unfold DV at h k;unfold jJ at hu
   obtain⟨a,us,rfl,q,r⟩:=h;cases rv;obtain⟨its0,iv0,pl0,hz0⟩:=I.tuple q;obtain⟨b,ws,rfl,p,r2⟩:=k;cases ru;obtain⟨its1,iv1,pl1,hz1⟩:=I.tuple p
   unfold eqD
   exact Oi pl0 pl1 r r2 iv0 iv1 (by omega) (oh I xs ys us ws its0 its1 A.in1 r r2 iv0 iv1 (by rw[units_in1];omega))
  |_=>exact oA (by omega) _ _ (vw I h rv) (vw I k ru) rfl
 | .lst xs,y,v,u,vv,uu,A,h,k,rv,ru,hu=>by
  cases y with
  |lst ys=>
   unfold DV at h k;unfold jJ at hu
   obtain⟨a,us,rfl,q,r⟩:=h;cases rv;obtain⟨its0,iv0,pl0,hz0⟩:=I.list q;obtain⟨b,ws,rfl,p,r2⟩:=k;cases ru;obtain⟨its1,iv1,pl1,hz1⟩:=I.list p
   unfold eqD
   exact Ot pl0 pl1 r r2 iv0 iv1 (by omega) (oh I xs ys us ws its0 its1 A.in1 r r2 iv0 iv1 (by rw[units_in1];omega))
  |_=>exact oA (by omega) _ _ (vw I h rv) (vw I k ru) rfl
 | .non,y,v,u,vv,uu,A,h,k,rv,ru,hu=>oA (by omega) _ _ (vw I h rv) (vw I k ru) (by cases y<;>rfl)
 | .bl _,y,v,u,vv,uu,A,h,k,rv,ru,hu=>oA (by omega) _ _ (vw I h rv) (vw I k ru) (by cases y<;>rfl)
 | .int _,y,v,u,vv,uu,A,h,k,rv,ru,hu=>oA (by omega) _ _ (vw I h rv) (vw I k ru) (by cases y<;>rfl)
 | .str _,y,v,u,vv,uu,A,h,k,rv,ru,hu=>oA (by omega) _ _ (vw I h rv) (vw I k ru) (by cases y<;>rfl)
 | .ro _,y,v,u,vv,uu,A,h,k,rv,ru,hu=>oA (by omega) _ _ (vw I h rv) (vw I k ru) (by cases y<;>rfl)
 | .dic _,y,v,u,vv,uu,A,h,k,rv,ru,hu=>oA (by omega) _ _ (vw I h rv) (vw I k ru) (by cases y<;>rfl)
 | .cell _,y,v,u,vv,uu,A,h,k,rv,ru,hu=>oA (by omega) _ _ (vw I h rv) (vw I k ru) (by cases y<;>rfl)
end
def rsv(d:D)(μ:Mu):D:=match d with
 | .cell n=>match μ[n]? with
  |some (some ds)=>.lst ds
  |_=>d
 | .ro ds=>.lst ds
 |_=>d
theorem pH{K:PySem.W.Frag}{tb:List Addr}{W:Wd}{d:D}{v:V}(ok:WOk K tb W)(h:Den K tb W d v)(p:eG (rsv d W.mu)=true):DV K W.H (rsv d W.mu) v:=by
 cases d with
 |cell n=>
  obtain⟨a,rfl,q⟩:=jo h
  unfold rsv at p ⊢
  dsimp only at p ⊢
  cases e:W.mu[n]? with
  |none=>rw[e]at p;cases p
  |some o=>
   rw[e]at p
   cases o with
   |none=>cases p
   |some ds=>
    dsimp only at p ⊢
    unfold eG at p
    obtain⟨xs,ex,r⟩:=ok.cont n a ds q e
    unfold DV
    exact⟨a,xs,rfl,SqL.of ex,xr ds xs p r⟩
 |ro ds=>
  obtain⟨a,xs,rfl,q,r⟩:=zu h
  have p':eG (.lst ds)=true:=p
  unfold eG at p'
  show DV K W.H (.lst ds) _
  unfold DV
  exact⟨a,xs,rfl,SqL.fz q,xr ds xs p' r⟩
 |_=>exact SM _ _ p h
def oEq:O2:=λx y μ=>if(eG (rsv x μ)&&eG (rsv y μ))=true/\jJ (rsv x μ)<100 then some (.bl (eqD (rsv x μ) (rsv y μ)),μ)else none
def oNe:O2:=λx y μ=>if(eG (rsv x μ)&&eG (rsv y μ))=true/\jJ (rsv x μ)<100 then some (.bl (!eqD (rsv x μ) (rsv y μ)),μ)else none
def rEqD(K:PySem.W.Frag):R2:=λv u H Q=>∃x y,DV K H x v/\DV K H y u/\jJ x<100/\Q (.bl (eqD x y)) H
def rNeD(K:PySem.W.Frag):R2:=λv u H Q=>∃x y,DV K H x v/\DV K H y u/\jJ x<100/\Q (.bl (!eqD x y)) H
section
variable {X:Cx} {tb:List Addr} {k:Nat}
theorem Mq(hr:iB k X.A):OpR X (compareOp .Eq) (rEqD X.K):=by
 intro pins s σ H v u vv uu Q I rv ru h
 obtain⟨x,y,hx,hy,hd,q⟩:=h
 have hun:=hr.un
 exact Tc I x y v u vv uu X.A hx hy rv ru (by omega) X.prog X.w X.xe _ ⟨.bl _,H,I,rfl,q⟩
theorem Mr(hr:iB k X.A):OpR X (compareOp .NotEq) (rNeD X.K):=by
 intro pins s σ H v u vv uu Q I rv ru h
 obtain⟨x,y,hx,hy,hd,q⟩:=h
 have hun:=hr.un
 exact Tp I x y v u vv uu X.A hx hy rv ru (by omega) X.prog X.w X.xe _ ⟨.bl _,H,I,rfl,q⟩
theorem jH(hr:iB k X.A):OpD X tb (compareOp .Eq) oEq:=⟨_,Mq hr,λW x y v u d μ' Q ok dx dy ho h=>by
 unfold oEq at ho
 split at ho
 .rename_i hc
  cases ho
  rw[Zo]at hc
  exact⟨_,_,pH ok dx hc.1.1,pH ok dy hc.1.2,hc.2,put ok h fG⟩
 .cases ho⟩
theorem ph(hr:iB k X.A):OpD X tb (compareOp .NotEq) oNe:=⟨_,Mr hr,λW x y v u d μ' Q ok dx dy ho h=>by
 unfold oNe at ho
 split at ho
 .rename_i hc
  cases ho
  rw[Zo]at hc
  exact⟨_,_,pH ok dx hc.1.1,pH ok dy hc.1.2,hc.2,put ok h fG⟩
 .cases ho⟩
end
end L3
namespace L2
open PySem PySem.Spec PyProof.Rows
section
variable {prog:Program} {w:World} {A:Around} {E:Value->Shared->Prop} {s:Shared}
theorem tY{it l:Addr}{i:Nat}{items}{x:Value}{Q:Value->Shared->Prop}(hit:s.heap.IsTupleIter it l i)(hl:s.heap.IsTuple l items)(hx:items[i]? =some x)
  (hQ:∀h',h'.IsTupleIter it l (i+1)->Heap.SameBut it s.heap h'->Q x { s with heap:=h'}):wpAny (model prog w) A (Builtin.SmallTypes.nextOf (.ref it)) Q E s:=by
 obtain⟨o,ho,hc,hd⟩:=id hit
 obtain⟨ol,hol,_,nl,hdl⟩:=hl
 unfold Builtin.SmallTypes.nextOf
 refine wpAny_bind (wpAny_callSpecial?_slot (name:=Str.ofString "__next__") hit.typeIs F.slot_tuple_iterator_next
  (wpAny_call_entry F.slot_tuple_iterator_next hit.typeIs F.entry_tuple_iterator_next ?_ (F.args_tuple_iterator_next_1 _)))
 show wpAny _ _ (field (.ref it) 0 >>= _) _ _ s
 refine wpAny_bind (wpAny_field ho hd (x:=.ref l) rfl ?_)
 show wpAny _ _ (if(Value.ref l==Value.none)=true then _ else _) _ _ s
 rw[if_neg (show¬((Value.ref l==Value.none)=true)from Zr)]
 show wpAny _ _ (field (.ref it) 1 >>= _) _ _ s
 refine wpAny_bind (wpAny_field ho hd (x:=.int i 0) rfl ?_)
 show wpAny _ _ (seqItems? (.ref l) >>= _) _ _ s
 refine wpAny_bind (wpAny_seqItems hol hdl ?_)
 simp only[Int.toNat_natCast,hx]
 refine wpAny_bind (wpAny_setField ho hd (by simp) (wpAny_pure ⟨x,rfl,wpAny_pure (hQ _ ?_ (Heap.SameBut.update ..))⟩))
 exact⟨_,Heap.get?_update_self _ ho (Obj.isFreed_of_fields (Obj.data_mapFields hd _)),(Obj.cls_mapFields ..).trans hc,by
  rw[Obj.data_mapFields hd];simp[rawInt]⟩
theorem uX{it l:Addr}{i:Nat}{items}{Q:Value->Shared->Prop}(hh:A.handled=none)(hit:s.heap.IsTupleIter it l i)(hl:s.heap.IsTuple l items)(hx:items[i]? =none)
  (hE:∀h' e,Heap.ExtBut it s.heap h'->(∃o,h'.get? e=some o/\o.cls= .type "StopIteration")->E (.ref e) { s with heap:=h'}):wpAny (model prog w) A (Builtin.SmallTypes.nextOf (.ref it)) Q E s:=by
 obtain⟨o,ho,hc,hd⟩:=id hit
 obtain⟨ol,hol,_,nl,hdl⟩:=hl
 unfold Builtin.SmallTypes.nextOf
 refine wpAny_bind (wpAny_callSpecial?_slot (name:=Str.ofString "__next__") hit.typeIs F.slot_tuple_iterator_next
  (wpAny_call_entry F.slot_tuple_iterator_next hit.typeIs F.entry_tuple_iterator_next ?_ (F.args_tuple_iterator_next_1 _)))
 show wpAny _ _ (field (.ref it) 0 >>= _) _ _ s
 refine wpAny_bind (wpAny_field ho hd (x:=.ref l) rfl ?_)
 show wpAny _ _ (if(Value.ref l==Value.none)=true then _ else _) _ _ s
 rw[if_neg (show¬((Value.ref l==Value.none)=true)from Zr)]
 show wpAny _ _ (field (.ref it) 1 >>= _) _ _ s
 refine wpAny_bind (wpAny_field ho hd (x:=.int i 0) rfl ?_)
 show wpAny _ _ (seqItems? (.ref l) >>= _) _ _ s
 refine wpAny_bind (wpAny_seqItems hol hdl ?_)
 simp only[Int.toNat_natCast,hx]
 refine wpAny_bind (wpAny_rule (wpAny_bind (wpAny_setField ho hd (by simp) ?_)))
 show wpAny _ _ (newExc (.type "StopIteration") [] >>= _) _ _ _
 refine wpAny_bind ?_
 simp only[newExc,newTuple]
 refine wpAny_bind (wpAny_newObj_type ?_ (by size_fits))
 refine wpAny_bind (m:=firstArgMember _ _) (wpAny_of_eq (a:=Value.none) (by first|rfl|(simp only[firstArgMember];rfl)) ?_)
 refine wpAny_newObj_type ?_ (by size_fits)
 simp only[raiseNew]
 refine wpAny_bind (wpAny_handled ?_)
 first|rw[show A.in1.handled=none from hh]|rw[hh]
 refine wpAny_bind (wpAny_pure (wpAny_throw ?_))
 exact hE _ _ (((Heap.SameBut.update ..).extBut.push _).push _) ⟨_,Zf _ rfl,rfl⟩
end
def jd(k:Bool)(h:Heap)(it l:Addr)(i:Nat):Prop:=if k=true then h.IsTupleIter it l i else h.IsListIter it l i
def mO(k:Bool)(h:Heap)(l:Addr)(xs:Array Value):Prop:=if k=true then h.IsTuple l xs else h.IsList l xs
section
variable {prog:Program} {w:World} {A:Around} {E:Value->Shared->Prop} {s:Shared} {k:Bool} {it l:Addr} {i:Nat} {xs:Array Value} {h h':Heap}
theorem jd.obj(x:jd k h it l i):∃o,h.get? it=some o/\(∀v,o.data≠ .cell v)/\(o.cls= .type "tuple_iterator"∨o.cls= .type "list_iterator"):=by
 cases k
 .obtain⟨o,e,c,d⟩:h.IsListIter it l i:=x
  exact⟨o,e,(λv z=>by rw[d]at z;cases z),.inr c⟩
 .obtain⟨o,e,c,d⟩:h.IsTupleIter it l i:=x
  exact⟨o,e,(λv z=>by rw[d]at z;cases z),.inl c⟩
theorem jd.at'(x:jd k h it l i)(hk:∀o,h.get? it=some o->h'.get? it=some o):jd k h' it l i:=by
 cases k
 .obtain⟨o,e,c,d⟩:h.IsListIter it l i:=x
  exact(⟨o,hk o e,c,d⟩:h'.IsListIter it l i)
 .obtain⟨o,e,c,d⟩:h.IsTupleIter it l i:=x
  exact(⟨o,hk o e,c,d⟩:h'.IsTupleIter it l i)
theorem mO.at'(x:mO k h l xs)(hk:∀o,h.get? l=some o->h'.get? l=some o):mO k h' l xs:=by
 cases k
 .obtain⟨o,e,c⟩:h.IsList l xs:=x
  exact(⟨o,hk o e,c⟩:h'.IsList l xs)
 .obtain⟨o,e,c⟩:h.IsTuple l xs:=x
  exact(⟨o,hk o e,c⟩:h'.IsTuple l xs)
theorem lN{x:Value}{Q:Value->Shared->Prop}(hit:jd k s.heap it l i)(hl:mO k s.heap l xs)(hx:xs[i]? =some x)
  (hQ:∀h',jd k h' it l (i+1)->Heap.SameBut it s.heap h'->Q x { s with heap:=h'}):wpAny (model prog w) A (Builtin.SmallTypes.nextOf (.ref it)) Q E s:=by
 cases k
 .exact wpAny_nextOf_list_item hit hl hx hQ
 .exact tY hit hl hx hQ
theorem rH{Q:Value->Shared->Prop}(hh:A.handled=none)(hit:jd k s.heap it l i)(hl:mO k s.heap l xs)(hx:xs[i]? =none)
  (hE:∀h' e,Heap.ExtBut it s.heap h'->(∃o,h'.get? e=some o/\o.cls= .type "StopIteration")->E (.ref e) { s with heap:=h'}):wpAny (model prog w) A (Builtin.SmallTypes.nextOf (.ref it)) Q E s:=by
 cases k
 .exact wpAny_nextOf_list_end hh hit hl hx hE
 .exact uX hh hit hl hx hE
end
structure ZA(z TI TO i1 i2:Addr):Prop where
 TIz:TI≠z
 TOz:TO≠z
 i1z:i1≠z
 i2z:i2≠z
 TITO:TI≠TO
 TIi1:TI≠i1
 TIi2:TI≠i2
 TOi1:TO≠i1
 TOi2:TO≠i2
 i12:i1≠i2
section
variable {prog:Program} {w:World} {A:Around} {E:Value->Shared->Prop} {s:Shared}
theorem Ip{z TI TO i1 i2 l1 l2:Addr}{c1 c2:Bool}{k1 k2:Nat}{xs ys:Array Value}{x y a b:Value}{Q:Value->Shared->Prop}(D:ZA z TI TO i1 i2)
  (l1z:l1≠z) (l2z:l2≠z) (l2i1:l2≠i1) (l2TO:l2≠TO)
  (hz:IsZip s.heap z TI TO .none) (hTI:IsPair s.heap TI (.ref i1) (.ref i2)) (hTO:IsPair s.heap TO a b)
  (h1:jd c1 s.heap i1 l1 k1) (h2:jd c2 s.heap i2 l2 k2) (hl1:mO c1 s.heap l1 xs) (hl2:mO c2 s.heap l2 ys) (hx:xs[k1]? =some x) (hy:ys[k2]? =some y)
  (hQ:∀h',IsZip h' z TI TO (rawInt s.heap.objs.size)->IsPair h' TO x y->jd c1 h' i1 l1 (k1+1)->jd c2 h' i2 l2 (k2+1)->IsPair h' s.heap.objs.size x y->h'.objs.size=s.heap.objs.size+1->
   (∀c o,c≠z->c≠TO->c≠i1->c≠i2->s.heap.get? c=some o->h'.get? c=some o)->Q (.ref s.heap.objs.size) { s with heap:=h'}):
  wpAny (model prog w) A (Builtin.«zip.__next__» ⟨[.ref z],[]⟩) (λfin s'=>∃v,fin= .done (.ret v)/\Q v s') E s:=by
 show wpAny _ _ (field (.ref z) 2 >>= _) _ _ _
 refine wpAny_bind (wpAny_field hz rfl (x:=.bool false) rfl ?_)
 show wpAny _ _ (field (.ref z) 3 >>= _) _ _ _
 refine wpAny_bind (wpAny_field hz rfl (x:=.ref TI) rfl ?_)
 refine wpAny_bind (wpAny_seqItems hTI rfl ?_)
 show wpAny _ _ (Builtin.SmallTypes.ownedTupleIsFree (.ref z) >>= _) _ _ _
 refine wpAny_bind ?_
 unfold Builtin.SmallTypes.ownedTupleIsFree
 refine wpAny_bind (wpAny_field hz rfl (x:=.none) rfl (wpAny_pure ?_))
 simp only[if_true]
 refine wpAny_bind (wpAny_rule ?_)
 refine wpAny_bind (wpAny_field hz rfl (x:=.ref TO) rfl ?_)
 refine wpAny_bind (wpAny_setField_rec hz (by simp) λh₁ hz₁ hs₁=>?_)
 replace hz₁:IsZip h₁ z TI TO .ellipsis:=hz₁
 refine wpAny_bind ?_
 simp only[List.zipIdx_cons,List.zipIdx_nil,List.forIn_cons,List.forIn_nil]
 refine wpAny_bind (wpAny_bind (wpAny_onRaise ?_))
 show wpAny _ _ (Builtin.SmallTypes.nextOf (.ref i1) >>= _) _ _ _
 refine wpAny_bind (lN (h1.at' λo e=>hs₁.extBut _ _ D.i1z e) (hl1.at' λo e=>hs₁.extBut _ _ l1z e) hx λh₂ h1₂ hs₂=>wpAny_pure ?_)
 have hTO₂:IsPair h₂ TO a b:=hs₂.extBut _ _ D.TOi1 (hs₁.extBut _ _ D.TOz hTO)
 refine wpAny_bind (wpAny_seqItems hTO₂ rfl ?_)
 refine wpAny_bind (wpAny_updateSeq_pair hTO₂ λh₃ hTO₃ hs₃=>?_)
 replace hTO₃:IsPair h₃ TO x b:=hTO₃
 refine wpAny_bind (wpAny_letGo (wpAny_pure ?_))
 refine wpAny_bind (wpAny_bind (wpAny_onRaise ?_))
 show wpAny _ _ (Builtin.SmallTypes.nextOf (.ref i2) >>= _) _ _ _
 refine wpAny_bind (lN (h2.at' λo e=>hs₃.extBut _ _ D.TOi2.symm (hs₂.extBut _ _ D.i12.symm (hs₁.extBut _ _ D.i2z e))) (hl2.at' λo e=>hs₃.extBut _ _ l2TO (hs₂.extBut _ _ l2i1 (hs₁.extBut _ _ l2z e))) hy λh₄ h2₄ hs₄=>wpAny_pure ?_)
 have hTO₄:IsPair h₄ TO x b:=hs₄.extBut _ _ D.TOi2 hTO₃
 refine wpAny_bind (wpAny_seqItems hTO₄ rfl ?_)
 refine wpAny_bind (wpAny_updateSeq_pair hTO₄ λh₅ hTO₅ hs₅=>?_)
 replace hTO₅:IsPair h₅ TO x y:=hTO₅
 refine wpAny_bind (wpAny_letGo (wpAny_pure (wpAny_pure ?_)))
 refine wpAny_bind (wpAny_seqItems hTO₅ rfl ?_)
 refine wpAny_bind (wpAny_newTuple ?_)
 have hsz:h₅.objs.size=s.heap.objs.size:=by rw[hs₅.1,hs₄.1,hs₃.1,hs₂.1,hs₁.1]
 have hz₅:IsZip h₅ z TI TO .ellipsis:=hs₅.extBut _ _ D.TOz.symm (hs₄.extBut _ _ D.i2z.symm (hs₃.extBut _ _ D.TOz.symm (hs₂.extBut _ _ D.i1z.symm hz₁)))
 have hk₅:∀c o,c≠z->c≠TO->c≠i1->c≠i2->s.heap.get? c=some o->h₅.get? c=some o:=λc o q1 q2 q3 q4 e=>
  hs₅.extBut _ _ q2 (hs₄.extBut _ _ q4 (hs₃.extBut _ _ q2 (hs₂.extBut _ _ q3 (hs₁.extBut _ _ q1 e))))
 have h1₅:jd c1 h₅ i1 l1 (k1+1):=h1₂.at' λo e=>hs₅.extBut _ _ D.TOi1.symm (hs₄.extBut _ _ D.i12 (hs₃.extBut _ _ D.TOi1.symm e))
 have h2₅:jd c2 h₅ i2 l2 (k2+1):=h2₄.at' λo e=>hs₅.extBut _ _ D.TOi2.symm e
 have hzlt:z<h₅.objs.size:=Ze hz₅
 show wpAny _ _ (Builtin.SmallTypes.ownedTupleHandOut (.ref z) (.ref h₅.objs.size) >>= _) _ _ _
 refine wpAny_bind ?_
 unfold Builtin.SmallTypes.ownedTupleHandOut
 have hz₆:IsZip (h₅.push { cls:=.type "tuple",data:=.seq #[x,y] }) z TI TO .ellipsis:=Zb _ hz₅
 refine wpAny_bind (wpAny_setField_rec hz₆ (by simp) λh₇ hz₇ hs₇=>?_)
 replace hz₇:IsZip h₇ z TI TO (rawInt h₅.objs.size):=hz₇
 refine wpAny_setField_rec hz₇ (by simp) λh₈ hz₈ hs₈=>?_
 replace hz₈:IsZip h₈ z TI TO (rawInt h₅.objs.size):=hz₈
 have up:∀c o,c≠z->h₅.get? c=some o->h₈.get? c=some o:=λc o q1 e=>hs₈.extBut _ _ q1 (hs₇.extBut _ _ q1 (Zb _ e))
 have hT₈:IsPair h₈ h₅.objs.size x y:=hs₈.extBut _ _ (Nat.ne_of_gt hzlt) (hs₇.extBut _ _ (Nat.ne_of_gt hzlt) (Zf _ rfl))
 have hz8:h₈.objs.size=h₅.objs.size+1:=by rw[hs₈.1,hs₇.1,Heap.size_push]
 rw[hsz]at hz₈ hT₈ hz8
 refine wpAny_pure ⟨_,rfl,?_⟩
 show Q (.ref h₅.objs.size) _
 rw[hsz]
 exact hQ h₈ hz₈ (up _ _ D.TOz hTO₅) (h1₅.at' λo e=>up _ o D.i1z e) (h2₅.at' λo e=>up _ o D.i2z e) hT₈ hz8 λc o q1 q2 q3 q4 e=>up c o q1 (hk₅ c o q1 q2 q3 q4 e)
theorem Ng{z TI TO i1 i2 l1 l2:Addr}{c1 c2:Bool}{k1 k2:Nat}{xs ys:Array Value}{a b:Value}{Q:PySem.Fin->Shared->Prop}(hh:A.handled=none)(D:ZA z TI TO i1 i2)
  (l1z:l1≠z) (l2z:l2≠z) (l2i1:l2≠i1) (l2TO:l2≠TO)
  (hz:IsZip s.heap z TI TO .none) (hTI:IsPair s.heap TI (.ref i1) (.ref i2)) (hTO:IsPair s.heap TO a b)
  (h1:jd c1 s.heap i1 l1 k1) (h2:jd c2 s.heap i2 l2 k2) (hl1:mO c1 s.heap l1 xs) (hl2:mO c2 s.heap l2 ys) (hend:xs[k1]? =none∨ys[k2]? =none)
  (hE:∀h' e,(∀c o,c≠z->c≠TO->c≠i1->c≠i2->s.heap.get? c=some o->h'.get? c=some o)->(∃o,h'.get? e=some o/\o.cls= .type "StopIteration")->E (.ref e) { s with heap:=h'}):
  wpAny (model prog w) A (Builtin.«zip.__next__» ⟨[.ref z],[]⟩) Q E s:=by
 show wpAny _ _ (field (.ref z) 2 >>= _) _ _ _
 refine wpAny_bind (wpAny_field hz rfl (x:=.bool false) rfl ?_)
 show wpAny _ _ (field (.ref z) 3 >>= _) _ _ _
 refine wpAny_bind (wpAny_field hz rfl (x:=.ref TI) rfl ?_)
 refine wpAny_bind (wpAny_seqItems hTI rfl ?_)
 show wpAny _ _ (Builtin.SmallTypes.ownedTupleIsFree (.ref z) >>= _) _ _ _
 refine wpAny_bind ?_
 unfold Builtin.SmallTypes.ownedTupleIsFree
 refine wpAny_bind (wpAny_field hz rfl (x:=.none) rfl (wpAny_pure ?_))
 simp only[if_true]
 refine wpAny_bind (wpAny_rule ?_)
 refine wpAny_bind (wpAny_field hz rfl (x:=.ref TO) rfl ?_)
 refine wpAny_bind (wpAny_setField_rec hz (by simp) λh₁ hz₁ hs₁=>?_)
 replace hz₁:IsZip h₁ z TI TO .ellipsis:=hz₁
 refine wpAny_bind ?_
 simp only[List.zipIdx_cons,List.zipIdx_nil,List.forIn_cons,List.forIn_nil]
 refine wpAny_bind (wpAny_bind (wpAny_onRaise ?_))
 show wpAny _ _ (Builtin.SmallTypes.nextOf (.ref i1) >>= _) _ _ _
 cases hx:xs[k1]? with
 |none=>
  refine wpAny_bind (rH hh (h1.at' λo e=>hs₁.extBut _ _ D.i1z e) (hl1.at' λo e=>hs₁.extBut _ _ l1z e) hx λh₂ e hs₂ he=>?_)
  obtain⟨oe,hoe,hce⟩:=he
  have hz₂:IsZip h₂ z TI TO .ellipsis:=hs₂ _ _ D.i1z.symm hz₁
  have hez:e≠z:=λx=>by subst x;rw[hz₂]at hoe;cases hoe;simp at hce
  exact wpAny_setField_rec hz₂ (by simp) λh₃ _ hs₃=>hE h₃ e (λc o q1 _ q3 _ x=>hs₃.extBut _ _ q1 (hs₂ _ _ q3 (hs₁.extBut _ _ q1 x))) ⟨oe,hs₃.extBut _ _ hez hoe,hce⟩
 |some x=>
  have hy:ys[k2]? =none:=by rcases hend with h|h;rw[hx]at h;cases h;exact h
  refine wpAny_bind (lN (h1.at' λo e=>hs₁.extBut _ _ D.i1z e) (hl1.at' λo e=>hs₁.extBut _ _ l1z e) hx λh₂ h1₂ hs₂=>wpAny_pure ?_)
  have hTO₂:IsPair h₂ TO a b:=hs₂.extBut _ _ D.TOi1 (hs₁.extBut _ _ D.TOz hTO)
  refine wpAny_bind (wpAny_seqItems hTO₂ rfl ?_)
  refine wpAny_bind (wpAny_updateSeq_pair hTO₂ λh₃ hTO₃ hs₃=>?_)
  refine wpAny_bind (wpAny_letGo (wpAny_pure ?_))
  refine wpAny_bind (wpAny_bind (wpAny_onRaise ?_))
  show wpAny _ _ (Builtin.SmallTypes.nextOf (.ref i2) >>= _) _ _ _
  refine wpAny_bind (rH hh (h2.at' λo e=>hs₃.extBut _ _ D.TOi2.symm (hs₂.extBut _ _ D.i12.symm (hs₁.extBut _ _ D.i2z e))) (hl2.at' λo e=>hs₃.extBut _ _ l2TO (hs₂.extBut _ _ l2i1 (hs₁.extBut _ _ l2z e))) hy λh₄ e hs₄ he=>?_)
  obtain⟨oe,hoe,hce⟩:=he
  have hz₄:IsZip h₄ z TI TO .ellipsis:=hs₄ _ _ D.i2z.symm (hs₃.extBut _ _ D.TOz.symm (hs₂.extBut _ _ D.i1z.symm hz₁))
  have hez:e≠z:=λx=>by subst x;rw[hz₄]at hoe;cases hoe;simp at hce
  exact wpAny_setField_rec hz₄ (by simp) λh₅ _ hs₅=>hE h₅ e (λc o q1 q2 q3 q4 x=>hs₅.extBut _ _ q1 (hs₄ _ _ q4 (hs₃.extBut _ _ q2 (hs₂.extBut _ _ q3 (hs₁.extBut _ _ q1 x))))) ⟨oe,hs₅.extBut _ _ hez hoe,hce⟩
end
section
variable {prog:Program} {w:World} {A:Around} {E:Value->Shared->Prop} {s:Shared}
theorem uK{z TI TO i1 i2 l1 l2:Addr}{c1 c2:Bool}{k1 k2:Nat}{xs ys:Array Value}{x y a b:Value}{Q:Option Value->Shared->Prop}(D:ZA z TI TO i1 i2)
  (l1z:l1≠z) (l2z:l2≠z) (l2i1:l2≠i1) (l2TO:l2≠TO)
  (hz:IsZip s.heap z TI TO .none) (hTI:IsPair s.heap TI (.ref i1) (.ref i2)) (hTO:IsPair s.heap TO a b)
  (h1:jd c1 s.heap i1 l1 k1) (h2:jd c2 s.heap i2 l2 k2) (hl1:mO c1 s.heap l1 xs) (hl2:mO c2 s.heap l2 ys) (hx:xs[k1]? =some x) (hy:ys[k2]? =some y)
  (hQ:∀h',IsZip h' z TI TO (rawInt s.heap.objs.size)->IsPair h' TO x y->jd c1 h' i1 l1 (k1+1)->jd c2 h' i2 l2 (k2+1)->IsPair h' s.heap.objs.size x y->h'.objs.size=s.heap.objs.size+1->
   (∀c o,c≠z->c≠TO->c≠i1->c≠i2->s.heap.get? c=some o->h'.get? c=some o)->Q (some (.ref s.heap.objs.size)) { s with heap:=h'}):
  wpAny (model prog w) A (pyNext (.ref z)) Q E s:=by
 have hT:s.TypeIs (.ref z) "zip":=⟨_,hz,rfl⟩
 unfold pyNext
 exact wpAny_bind (wpAny_attempt (wpAny_callSpecial?_slot (name:=Str.ofString "__next__") hT F.slot_zip_next
  (wpAny_call_entry F.slot_zip_next hT F.entry_zip_next
   (Ip D l1z l2z l2i1 l2TO hz hTI hTO h1 h2 hl1 hl2 hx hy λh' a1 a2 a3 a4 a5 a6 a7=>wpAny_pure (hQ h' a1 a2 a3 a4 a5 a6 a7)) (F.args_zip_next_1 _))))
theorem vP{z TI TO i1 i2 l1 l2:Addr}{c1 c2:Bool}{k1 k2:Nat}{xs ys:Array Value}{a b:Value}{Q:Option Value->Shared->Prop}(hh:A.handled=none)(D:ZA z TI TO i1 i2)
  (l1z:l1≠z) (l2z:l2≠z) (l2i1:l2≠i1) (l2TO:l2≠TO)
  (hz:IsZip s.heap z TI TO .none) (hTI:IsPair s.heap TI (.ref i1) (.ref i2)) (hTO:IsPair s.heap TO a b)
  (h1:jd c1 s.heap i1 l1 k1) (h2:jd c2 s.heap i2 l2 k2) (hl1:mO c1 s.heap l1 xs) (hl2:mO c2 s.heap l2 ys) (hend:xs[k1]? =none∨ys[k2]? =none)
  (hQ:∀h',(∀c o,c≠z->c≠TO->c≠i1->c≠i2->s.heap.get? c=some o->h'.get? c=some o)->Q none { s with heap:=h'}):wpAny (model prog w) A (pyNext (.ref z)) Q E s:=by
 have hT:s.TypeIs (.ref z) "zip":=⟨_,hz,rfl⟩
 unfold pyNext
 refine wpAny_bind (wpAny_attempt (wpAny_callSpecial?_slot (name:=Str.ofString "__next__") hT F.slot_zip_next
  (wpAny_call_entry F.slot_zip_next hT F.entry_zip_next (Ng hh D l1z l2z l2i1 l2TO hz hTI hTO h1 h2 hl1 hl2 hend λh' e hk he=>?_) (F.args_zip_next_1 _))))
 obtain⟨o,ho,hc⟩:=he
 refine wpAny_bind (wpAny_isInstance (T:="StopIteration") (b:=true) ⟨o,ho,hc⟩ isSubtype_stop ?_)
 exact wpAny_pure (hQ _ hk)
def itTy(k:Bool):String:=if k=true then "tuple_iterator" else "list_iterator"
abbrev rN(k:Bool)(l:Addr):Obj:={ cls:=.type (itTy k),data:=.fields #[.ref l,.int 0 0] }
theorem zb{k:Bool}{l:Addr}{xs:Array Value}{Q:Value->Shared->Prop}(hl:mO k s.heap l xs)(hQ:Q (.ref s.heap.objs.size) { s with heap:=s.heap.push (rN k l) }):wpAny (model prog w) A (pyIter (.ref l)) Q E s:=by
 cases k
 .exact wpAny_pyIter_list hl hQ
 .exact wpAny_pyIter_tuple hl hQ
end
abbrev zH2(h:Heap)(c1 c2:Bool)(l1 l2:Addr):Heap:=(h.push (rN c1 l1)).push (rN c2 l2)
abbrev zH3(h:Heap)(c1 c2:Bool)(l1 l2:Addr):Heap:=(zH2 h c1 c2 l1 l2).push { cls:=.type "tuple",data:=.seq #[.ref h.objs.size,.ref (h.push (rN c1 l1)).objs.size] }
abbrev zH4(h:Heap)(c1 c2:Bool)(l1 l2:Addr):Heap:=(zH3 h c1 c2 l1 l2).push { cls:=.type "tuple",data:=.seq #[.none,.none] }
abbrev zH5(h:Heap)(c1 c2:Bool)(l1 l2:Addr):Heap:=(zH4 h c1 c2 l1 l2).push { cls:=.type "zip",data:=.fields #[.none,.bool false,.bool false,.ref (zH2 h c1 c2 l1 l2).objs.size,.ref (zH3 h c1 c2 l1 l2).objs.size] }
theorem Nu(c1 c2:Bool)(l1 l2:Addr)(xs ys:Array Value):
  Meets (Builtin.«zip.__new__» ⟨[.type "zip",.ref l1,.ref l2],[]⟩) (λ_ R s=>mO c1 s.heap l1 xs/\mO c2 s.heap l2 ys/\
   R (.ok (.ret (.ref (zH4 s.heap c1 c2 l1 l2).objs.size))) { s with heap:=zH5 s.heap c1 c2 l1 l2}):=
 .of_wp λprog w A R s h=>by
  obtain⟨hp,g,d,tk,os⟩:=s;obtain⟨hl1,hl2,h⟩:=h
  have hsub:=sub_zip
  have hL1:mO c1 (Shared.heap ⟨hp,g,d,tk,os⟩) l1 xs:=hl1
  have hL2:mO c2 (Shared.heap ⟨hp.push (rN c1 l1),g,d,tk,os⟩) l2 ys:=hl2.at' λo e=>Zb _ e
  wp_walk using zb hL1,zb hL2
  exact⟨_,rfl,h⟩
section
variable {prog:Program} {w:World} {A:Around} {E:Value->Shared->Prop} {s:Shared}
theorem jd.new(k:Bool)(h:Heap)(l:Addr):jd k (h.push (rN k l)) h.objs.size l 0:=by
 cases k
 .exact(⟨rN false l,Zf _ rfl,rfl,rfl⟩:Heap.IsListIter _ _ _ 0)
 .exact(⟨rN true l,Zf _ rfl,rfl,rfl⟩:Heap.IsTupleIter _ _ _ 0)
theorem Jr{c1 c2:Bool}{l1 l2:Addr}{xs ys:Array Value}{Q:Value->Shared->Prop}(hl1:mO c1 s.heap l1 xs)(hl2:mO c2 s.heap l2 ys)
  (h:∀h',IsZip h' (s.heap.objs.size+4) (s.heap.objs.size+2) (s.heap.objs.size+3) .none->IsPair h' (s.heap.objs.size+2) (.ref s.heap.objs.size) (.ref (s.heap.objs.size+1))->
   IsPair h' (s.heap.objs.size+3) .none .none->jd c1 h' s.heap.objs.size l1 0->jd c2 h' (s.heap.objs.size+1) l2 0->h'.objs.size=s.heap.objs.size+5->
   (∀c o,s.heap.get? c=some o->h'.get? c=some o)->Q (.ref (s.heap.objs.size+4)) { s with heap:=h'}):
  wpAny (model prog w) A (call (.type "zip") [.ref l1,.ref l2]) Q E s:=by
 refine callType_new F.called_zip (by decide) (F.typeCall_zip_2 _ _) (F.newCall_zip_2 _ _) (λobj=>F.args_object_init_3 obj _ _) F.entry_zip_new
  (Nu c1 c2 l1 l2 xs ys) ⟨hl1,hl2,?_⟩
 have z1:(s.heap.push (rN c1 l1)).objs.size=s.heap.objs.size+1:=Heap.size_push ..
 have z2:(zH2 s.heap c1 c2 l1 l2).objs.size=s.heap.objs.size+2:=by rw[Heap.size_push,z1]
 have z3:(zH3 s.heap c1 c2 l1 l2).objs.size=s.heap.objs.size+3:=by rw[Heap.size_push,z2]
 have z4:(zH4 s.heap c1 c2 l1 l2).objs.size=s.heap.objs.size+4:=by rw[Heap.size_push,z3]
 have z5:(zH5 s.heap c1 c2 l1 l2).objs.size=s.heap.objs.size+5:=by rw[Heap.size_push,z4]
 have g5:(zH5 s.heap c1 c2 l1 l2).get? (zH4 s.heap c1 c2 l1 l2).objs.size=some _:=Zf _ rfl
 have g4:(zH5 s.heap c1 c2 l1 l2).get? (zH3 s.heap c1 c2 l1 l2).objs.size=some _:=Zb _ (Zf _ rfl)
 have g3:(zH5 s.heap c1 c2 l1 l2).get? (zH2 s.heap c1 c2 l1 l2).objs.size=some _:=Zb _ (Zb _ (Zf _ rfl))
 have g2:jd c2 (zH5 s.heap c1 c2 l1 l2) (s.heap.push (rN c1 l1)).objs.size l2 0:=(jd.new c2 _ l2).at' λo e=>Zb _ (Zb _ (Zb _ e))
 have g1:jd c1 (zH5 s.heap c1 c2 l1 l2) s.heap.objs.size l1 0:=(jd.new c1 _ l1).at' λo e=>Zb _ (Zb _ (Zb _ (Zb _ e)))
 show _/\_
 rw[z2,z3,z4]at g5
 rw[z1,z2]at g3
 rw[z3]at g4
 rw[z1]at g2
 rw[z4]
 exact⟨⟨_,g5,rfl⟩,h _ g5 g3 g4 g1 g2 z5 λc o x=>
  Zb _ (Zb _ (Zb _ (Zb _ (Zb _ x))))⟩
end
def SqB(c:Bool)(K:PySem.W.Frag)(H:Hp)(a:Addr)(xs:List V):Prop:=if c=true then SqT K H a xs else SqL K H a xs
section
variable {X:Cx} {pins:List (Addr×Obj)} {σ:L2.St} {H H':Hp} {s:Shared} {h':Heap}
theorem Inv.sqB{c:Bool}{a:Addr}{xs:List V}(I:Inv X pins σ H s)(h:SqB c X.K H a xs):∃its:List Value,Vals xs its/\mO c s.heap a its.toArray/\xs.length<=sizeLine:=by
 cases c
 .obtain⟨its,r,p,hz⟩:=I.list (show SqL X.K H a xs from h)
  exact⟨its,r,p.isList,hz⟩
 .obtain⟨its,r,p,hz⟩:=I.tuple (show SqT X.K H a xs from h)
  exact⟨its,r,p,hz⟩
theorem Inv.sqB_inj{c:Bool}{a:Addr}{xs ys:List V}(I:Inv X pins σ H s)(h:SqB c X.K H a xs)(h':SqB c X.K H a ys):xs=ys:=by
 cases c
 .exact I.list_inj (show SqL X.K H a xs from h) h'
 .exact I.tuple_inj (show SqT X.K H a xs from h) h'
theorem Inv.sqB_ne{c:Bool}{a b:Addr}{xs:List V}(I:Inv X pins σ H s)(h:SqB c X.K H a xs)(f:nT X pins H b):a≠b:=by
 have key:(∃o,H a=some o)∨∃o,X.K.lookup a=some o:=by
  cases c
  .rcases(show SqL X.K H a xs from h)with(h|⟨o,h⟩)|⟨o,_,_,h,_⟩
   .exact .inl ⟨_,h⟩
   .exact .inl ⟨_,h⟩
   .exact .inr ⟨_,h⟩
  .rcases(show SqT X.K H a xs from h)with(h|⟨o,h⟩)|⟨o,_,_,h,_⟩
   .exact .inl ⟨_,h⟩
   .exact .inl ⟨_,h⟩
   .exact .inr ⟨_,h⟩
 intro z
 subst z
 rcases key with⟨o,e⟩|⟨o,e⟩
 .rw[f.1]at e;cases e
 .have e':=I.ok.mod.kin a o e
  rcases f.2.2.2.1 with q|q
  .exact I.ok.noex a o e' q
  .exact absurd (Zc (Ze (I.ok.bs a o e').1) q) (Nat.lt_irrefl _)
theorem Inv.turnedL{t':Nat}{fp:List Addr}(I:Inv X pins σ H s)(k:∀b o,b∉fp->s.heap.get? b=some o->h'.get? b=some o)(hf:∀b∈fp,nT X pins H b):Inv X pins σ H { s with heap:=h',toks:=t'}:=by
 have nit:∀b u,H b=some u->b∉fp:=λb u e z=>by rw[(hf b z).1]at e;cases e
 refine I.step (g':=s.gens) (d':=s.drawn) (ch:=fp) (λb hb=>?_) (λb o _ _ hc e _=>k b o hc e) (λb o _ _ hc e _=>⟨o.slots,k b o hc e⟩) (λ_ _ _ _ n=>n)
  (λb o hc e=>⟨o,k b o hc e⟩) (λ_ _ e=>e) (λ_ _ _ e=>e) (λb ps e=>⟨#[],by rw[e];simp⟩) (λm hm=>?_) (λb u e=>?_) I.bare.again
 .obtain⟨f0,f1,f2,f3,f4,f5⟩:=hf b hb
  exact⟨f3,f1,f4,f5⟩
 .obtain⟨o,es,ep,ho,r⟩:=hm
  exact⟨o,es,ep,k _ o (λz=>(hf _ z).2.1 rfl) ho,r⟩
 .refine(I.hok b u e).stay (λc v hc q=>k c v ?_ q) (λ_ q=>q) λ_ _ q=>q
  rcases hc with z|z
  .rw[z];exact nit b u e
  .exact nit c _ z
end
def Itz(K:PySem.W.Frag)(c1 c2:Bool)(a1 a2:Addr):It:=
 ⟨λi H=>(∃xs x,SqB c1 K H a1 xs/\xs[i]? =some x)/\∃ys y,SqB c2 K H a2 ys/\ys[i]? =some y,
  λi H v H'=>∃p x y,v= .ref p/\H p=none/\H'=upd H p (.tup [x,y])/\(∀xs,SqB c1 K H a1 xs->xs[i]? =some x)/\∀ys,SqB c2 K H a2 ys->ys[i]? =some y,
  λi H=>∃xs ys,SqB c1 K H a1 xs/\SqB c2 K H a2 ys/\(xs.length<=i∨ys.length<=i)⟩
def ZSt(c1 c2:Bool)(z TI TO i1 i2 a1 a2:Addr)(i:Nat)(h:Heap):Prop:=
 IsZip h z TI TO .none/\IsPair h TI (.ref i1) (.ref i2)/\(∃a b,IsPair h TO a b)/\jd c1 h i1 a1 i/\jd c2 h i2 a2 i
theorem Lk{h:Heap}{o u:Obj}{b:Addr}(e:(h.push o).get? b=some u)(hb:b≠h.objs.size):h.get? b=some u:=by
 unfold Heap.get? at e ⊢
 have hp:(h.push o).objs[b]? =h.objs[b]? :=by
  show(h.objs.push o)[b]? =h.objs[b]?
  rw[Array.getElem?_push,if_neg hb]
 rw[hp]at e
 exact e
theorem MT{P:Program}{w:World}{K:PySem.W.Frag}{elts:List Expr}{kk:Nat}{pos:Pos}(c1 c2:Bool)(z TI TO i1 i2 a1 a2:Addr)(D:ZA z TI TO i1 i2):
  Turn P w K (.Tuple elts kk pos) (Itz K c1 c2 a1 a2) [z,TI,TO,i1,i2] z (ZSt c1 c2 z TI TO i1 i2 a1 a2) where
 mem:=by simp
 obj:=λi h st b hb=>by
  obtain⟨hz,hTI,⟨a,b',hTO⟩,h1,h2⟩:=st
  simp only[Zi,List.not_mem_nil,or_false]at hb
  rcases hb with rfl|rfl|rfl|rfl|rfl
  .exact⟨_,hz,λv q=>by cases q⟩
  .exact⟨_,hTI,λv q=>by cases q⟩
  .exact⟨_,hTO,λv q=>by cases q⟩
  .obtain⟨o,e,d,_⟩:=h1.obj;exact⟨o,e,d⟩
  .obtain⟨o,e,d,_⟩:=h2.obj;exact⟨o,e,d⟩
 keep:=λi h h' st k=>by
  obtain⟨hz,hTI,⟨a,b',hTO⟩,h1,h2⟩:=st
  exact⟨k z (by simp) _ hz,k TI (by simp) _ hTI,⟨a,b',k TO (by simp) _ hTO⟩,h1.at' λo e=>k i1 (by simp) o e,h2.at' λo e=>k i2 (by simp) o e⟩
 item:=by
  intro X hP hw hK hc i pins s σ H E I hf st hg
  subst hP hw hK
  obtain⟨hz,hTI,⟨a,b',hTO⟩,h1,h2⟩:=st
  obtain⟨⟨xs,x,hx,ex⟩,ys,y,hy,ey⟩:=hg
  obtain⟨its1,r1,p1,z1⟩:=I.sqB hx
  obtain⟨its2,r2,p2,z2⟩:=I.sqB hy
  obtain⟨u1,eu1,ru1⟩:=r1.get ex
  obtain⟨u2,eu2,ru2⟩:=r2.get ey
  have fz:=hf z (by simp)
  have fTO:=hf TO (by simp)
  have fi1:=hf i1 (by simp)
  have ltz:z<s.heap.objs.size:=Ze hz
  have ltTI:TI<s.heap.objs.size:=Ze hTI
  have ltTO:TO<s.heap.objs.size:=Ze hTO
  have lti1:i1<s.heap.objs.size:=let⟨_,e,_⟩:=h1.obj;Ze e
  have lti2:i2<s.heap.objs.size:=let⟨_,e,_⟩:=h2.obj;Ze e
  refine uK D (I.sqB_ne hx fz) (I.sqB_ne hy fz) (I.sqB_ne hy fi1) (I.sqB_ne hy fTO) hz hTI hTO h1 h2 p1 p2 (x:=u1) (y:=u2) (by simpa using eu1) (by simpa using eu2) λh' q1 q2 q3 q4 q5 q6 q7=>⟨_,rfl,?_⟩
  refine wpAny_letOwnedTupleGo_zip q1 λh2' y1 y2=>?_
  have hpn:H s.heap.objs.size=none:=I.hok.fresh (Zg _)
  have IA:Inv X pins σ (upd H s.heap.objs.size (.tup [x,y])) { s with heap:=s.heap.push { cls:=.type "tuple",data:=.seq #[u1,u2] } }:=
   I.laid (t':=s.toks) (o:=.tup [x,y]) (λb ob q=>Zb _ q) (Zg _) ⟨by show 2<=sizeLine;decide,[u1,u2],.cons ru1 (.cons ru2 .nil),IsTup.new _ _⟩
  have hne:∀b∈[z,TI,TO,i1,i2],b≠s.heap.objs.size:=λb hb=>by
   simp only[Zi,List.not_mem_nil,or_false]at hb
   rcases hb with rfl|rfl|rfl|rfl|rfl
   .exact Zk ltz
   .exact Zk ltTI
   .exact Zk ltTO
   .exact Zk lti1
   .exact Zk lti2
  have hf':∀b∈[z,TI,TO,i1,i2],nT X pins (upd H s.heap.objs.size (.tup [x,y])) b:=λb hb=>by
   obtain⟨f0,f1⟩:=hf b hb
   exact⟨by rw[aX (hne b hb)];exact f0,f1⟩
  have IB:Inv X pins σ (upd H s.heap.objs.size (.tup [x,y])) { s with heap:=h2'}:=by
   refine Inv.turnedL (s:={ s with heap:=s.heap.push { cls:=.type "tuple",data:=.seq #[u1,u2] } }) (t':=s.toks) (fp:=[z,TI,TO,i1,i2]) IA (λb o hb e=>?_) hf'
   simp only[Zi,List.not_mem_nil,or_false,not_or]at hb
   obtain⟨b1,b2,b3,b4,b5⟩:=hb
   by_cases hs:b=s.heap.objs.size
   .subst hs
    have e':some ({ cls:=.type "tuple",data:=.seq #[u1,u2] }:Obj)=some o:=(Zf s.heap rfl).symm.trans e
    cases e'
    exact y2.extBut _ _ b1 q5
   .exact y2.extBut _ _ b1 (q7 b o b1 b3 b4 b5 (Lk e hs))
  refine⟨.ref s.heap.objs.size,_,IB,rfl,⟨_,x,y,rfl,hpn,rfl,λzs hzs=>by rw[I.sqB_inj hzs hx];exact ex,λzs hzs=>by rw[I.sqB_inj hzs hy];exact ey⟩,?_,λb hb=>(hf' b hb).1⟩
  exact⟨y1,y2.extBut _ _ D.TIz (q7 _ _ D.TIz D.TITO D.TIi1 D.TIi2 hTI),⟨_,_,y2.extBut _ _ D.TOz q2⟩,q3.at' λo e=>y2.extBut _ _ D.i1z e,q4.at' λo e=>y2.extBut _ _ D.i2z e⟩
 done:=by
  intro X hP hw hK hc i pins s σ H E I hf st hg
  subst hP hw hK
  obtain⟨hz,hTI,⟨a,b',hTO⟩,h1,h2⟩:=st
  obtain⟨xs,ys,hx,hy,hend⟩:=hg
  obtain⟨its1,r1,p1,z1⟩:=I.sqB hx
  obtain⟨its2,r2,p2,z2⟩:=I.sqB hy
  have fz:=hf z (by simp)
  have fTO:=hf TO (by simp)
  have fi1:=hf i1 (by simp)
  have l1:=r1.length
  have l2:=r2.length
  refine vP (I.ok.hd hc) D (I.sqB_ne hx fz) (I.sqB_ne hy fz) (I.sqB_ne hy fi1) (I.sqB_ne hy fTO) hz hTI hTO h1 h2 p1 p2 ?_ λh' q=>⟨rfl,I.turnedL (t':=s.toks) (fp:=[z,TI,TO,i1,i2]) (λb o hb e=>?_) hf⟩
  .rcases hend with h|h
   .exact .inl (by simp;omega)
   .exact .inr (by simp;omega)
  .simp only[Zi,List.not_mem_nil,or_false,not_or]at hb
   exact q b o hb.1 hb.2.2.1 hb.2.2.2.1 hb.2.2.2.2 e
 self:=λ_ _ _ _ _ st h=>wpAny_pyIter_zip st.1 h
def iZip(K:PySem.W.Frag)(ta:TA):TI:=λσ H R=>ta σ H λvs H1=>∃a1 a2 c1 c2,vs=[.ref a1,.ref a2]/\(∃xs,SqB c1 K H1 a1 xs)/\(∃ys,SqB c2 K H1 a2 ys)/\R (Itz K c1 c2 a1 a2) H1
section
variable {X:Cx}
theorem TQ{a b:Expr}{ta:TA}{p pos p':Pos}{elts:List Expr}{kk:Nat}(hg:Gl X "zip")(hm:X.mg "zip"=none)(ha:PA X [a,b] ta)(hs:starEach [a,b] X.env=[(false,eval a X.env),(false,eval b X.env)]:=by rfl)(hs2:starEach [b] X.env=[(false,eval b X.env)]:=by rfl):
  PI X (.Tuple elts kk p') (.Call (.Name "zip" p) [a,b] [] pos) (iZip X.K ta):=by
 intro pins s σ H R I h
 refine Call_ (oX I hg hm boot_zip (PyProof.Rows.callWith_type1 (thn (ha pos pins s σ H _ I h) λus s1 ⟨vs,H1,I1,r1,q1⟩=>?_) (by rw[hs,hs2]) (by rw[hs2];rfl)))
 obtain⟨a1,a2,c1,c2,rfl,⟨xs,hx⟩,⟨ys,hy⟩,q⟩:=q1
 obtain⟨u,v,rfl,ru,rv⟩:=vals2 r1
 cases ru
 cases rv
 obtain⟨its1,_,p1,_⟩:=I1.sqB hx
 obtain⟨its2,_,p2,_⟩:=I1.sqB hy
 refine Jr p1 p2 λh' g1 g2 g3 g4 g5 g6 g7=>?_
 refine wpAny_pyIter_zip g1 ?_
 refine⟨_,[s1.heap.objs.size+4,s1.heap.objs.size+2,s1.heap.objs.size+3,s1.heap.objs.size,s1.heap.objs.size+1],_,_,H1,rfl,I1.kept (t':=s1.toks) g7,MT c1 c2 _ _ _ _ _ a1 a2 ?_,⟨g1,g2,⟨_,_,g3⟩,g4,g5⟩,λb hb=>?_,q⟩
 .constructor<;>first|exact Zk (by omega)|exact Nat.ne_of_gt (by omega)
 .have hb':s1.heap.objs.size<=b:=by
   simp only[Zi,List.not_mem_nil,or_false]at hb
   rcases hb with q|q|q|q|q<;>rw[q]<;>first|exact Nat.le_add_right _ _|exact Zg _
  exact I1.fpOk hb' (I1.hok.fresh hb')
end
end L2
namespace L3
open PySem PySem.Spec PyProof.Rows L2
def bC:D->Mu->Option (List D)
 | .tup ds,_=>some ds
 | .lst ds,_=>some ds
 | .ro ds,_=>some ds
 | .cell n,μ=>match μ[n]? with
  |some (some ds)=>some ds
  |_=>none
 |_,_=>none
def Fq:D->Bool
 | .tup _=>true
 |_=>false
section
variable {K:PySem.W.Frag} {tb:List Addr}
theorem lr{W:Wd}{x:D}{v:V}{ds:List D}(ok:WOk K tb W)(h:Den K tb W x v)(e:bC x W.mu=some ds):∃a xs,v= .ref a/\SqB (Fq x) K W.H a xs/\cV K tb W ds xs:=by
 cases x with
 |tup es=>cases e;obtain⟨a,xs,rfl,q,r⟩:=iz h;exact⟨a,xs,rfl,SqT.fz q,r⟩
 |lst es=>cases e;obtain⟨a,xs,rfl,q,r⟩:=mQ h;exact⟨a,xs,rfl,SqL.fz q,r⟩
 |ro es=>cases e;obtain⟨a,xs,rfl,q,r⟩:=zu h;exact⟨a,xs,rfl,SqL.fz q,r⟩
 |cell n=>
  obtain⟨a,rfl,q⟩:=jo h
  have e':(match W.mu[n]? with|some (some ds)=>some ds|_=>none)=some ds:=e
  cases e2:W.mu[n]? with
  |none=>rw[e2]at e';cases e'
  |some o=>
   cases o with
   |none=>rw[e2]at e';cases e'
   |some es=>
    rw[e2]at e'
    cases e'
    obtain⟨xs,e3,r⟩:=ok.cont n a ds q e2
    exact⟨a,xs,rfl,SqL.of e3,r⟩
 |_=>cases e
theorem SqB.or{c:Bool}{H:Hp}{a:Addr}{xs:List V}(h:SqB c K H a xs):SqL K H a xs∨SqT K H a xs:=by
 cases c
 .exact .inl h
 .exact .inr h
end
theorem QJ{K:PySem.W.Frag}{tb:List Addr}{W:Wd}{ds:List D}{xs:List V}{i:Int}{d:D}(r:cV K tb W ds xs)(h:atI ds i=some d):∃v,atI xs i=some v/\Den K tb W d v:=by
 unfold atI at h ⊢
 rw[<-aC.length r]
 cases e:ixN ds.length i with
 |none=>rw[e]at h;cases h
 |some j=>
  rw[e]at h
  exact aC.get r h
def oIx:O2:=λx y μ=>match y with
 | .int i=>(bC x μ).bind λds=>(atI ds i).map λd=>(d,μ)
 |_=>none
def cJ:O1':=λx μ=>match x with
 | .str y=>if y.length<=sizeLine then some (.int y.length,μ)else none
 |_=>(bC x μ).map λds=>(.int ds.length,μ)
def rT:O1':=λx μ=>match x with
 | .int i=>some (.int (if i<0 then -i else i),μ)
 |_=>none
def jc:O1':=λx μ=>match x with
 | .int i=>some (.int (-i),μ)
 |_=>none
def tB(op:O2):ON:=λxs μ=>match xs with
 | [x,y]=>op x y μ
 |_=>none
theorem Gp{op:O2}{xs:List D}{μ:Mu}{r:D×Mu}(h:tB op xs μ=some r):∃x y,xs=[x,y]/\op x y μ=some r:=by
 unfold tB at h
 split at h
 .exact⟨_,_,rfl,h⟩
 .cases h
def xJ:O2:=λx y μ=>match x,y with
 | .int i,.int j=>some (.int (if j<i then j else i),μ)
 |_,_=>none
def gG:ON:=λxs μ=>match xs with
 | [x]=>(bC x μ).map λds=>(.tup ds,μ)
 |_=>none
def wC(T:String):D->Option Bool
 | .non=>some false
 | .bl _=>some (T=="bool"||T=="int")
 | .int _=>some (T=="int")
 | .str _=>some (T=="str")
 | .tup _=>some (T=="tuple")
 | .lst _=>some (T=="list")
 | .ro _=>some (T=="list")
 | .dic _=>some (T=="dict")
 | .cell _=>none
def iV(T:String):O1':=λx μ=>match x with
 | .cell n=>match μ[n]? with
  |some (some _)=>some (.bl (T=="list"),μ)
  |_=>none
 |_=>(wC T x).map λk=>(.bl k,μ)
section
variable {X:Cx} {tb:List Addr} {a b e:Expr} {fa fb f:EF} {fs:AF} {p pos:Pos}
theorem bB(ha:PD X tb a fa)(hb:PD X tb b fb)(hs:Hk b:=by intro _ _;rfl):PD X tb (.Subscript a b pos) (M2 fa fb oIx):=
 Fo (λta tb' ha hb=>WX SN ha hb hs) (λW x y v u d μ' Q ok dx dy ho h=>by
  cases y with
  |int i=>
   obtain⟨ds,e1,e2⟩:=Za.mp (show((bC x W.mu).bind λds=>(atI ds i).map λd=>(d,W.mu))=some (d,μ')from ho)
   obtain⟨d0,e3,e4⟩:=Zp.mp e2
   cases e4
   rw[bQ dy]
   obtain⟨a,xs,rfl,q,r⟩:=lr ok dx e1
   obtain⟨v,ev,dv⟩:=QJ r e3
   rcases SqB.or q with q|q
   .exact .inl ⟨a,xs,i,v,rfl,rfl,q,ev,put ok h dv⟩
   .exact .inr (.inl ⟨a,xs,i,v,rfl,rfl,q,ev,put ok h dv⟩)
  |_=>cases ho) ha hb
theorem dU(ha:PD X tb a fa):PD X tb (.UnaryOp .USub a pos) (M1 fa jc):=
 Vh (λta ha=>Xb Ux ha) (λW x v d μ' Q ok dx ho h=>by
  cases x with
  |int i=>cases ho;rw[bQ dx];exact⟨i,rfl,put ok h gH⟩
  |_=>cases ho) ha
def bu(op:O1'):ON:=λxs μ=>match xs with
 | [x]=>op x μ
 |_=>none
theorem yc{op:O1'}{xs:List D}{μ:Mu}{r:D×Mu}(h:bu op xs μ=some r):∃x,xs=[x]/\op x μ=some r:=by
 unfold bu at h
 split at h
 .exact⟨_,rfl,h⟩
 .cases h
theorem Dt{xs:List D}{μ:Mu}{r:D×Mu}(h:gG xs μ=some r):∃x,xs=[x]/\gG [x] μ=some r:=by
 unfold gG at h
 split at h
 .exact⟨_,rfl,h⟩
 .cases h
theorem dh(hm:X.mg "len"=none)(ha:PAD X tb [a] fs)(hg:Gl X "len":=by rfl)(he:starEach [a] X.env=(false,eval a X.env)::starEach [] X.env:=by rfl):PD X tb (.Call (.Name "len" p) [a] [] pos) (MC fs (bu cJ)):=
 Js (λta ha=>qp (Bh.or BJ) hg hm PySem.boot_len ha (by decide) (by decide) he (by rfl)) (λW xs vs d μ' Q ok r ho h=>by
  obtain⟨x,rfl,ho⟩:=yc ho
  obtain⟨v,rfl,dv⟩:=aC.one r
  have gen:∀ds,bC x W.mu=some ds->some (D.int ds.length,W.mu)=some (d,μ')->((∃p ys,[v]=[V.ref p]/\(SqL X.K W.H p ys∨SqT X.K W.H p ys)/\Q (.int ys.length) W.H)∨∃z,[v]=[V.str z]/\z.length<=sizeLine/\Q (.int z.length) W.H):=λds e1 e2=>by
   cases e2
   obtain⟨a,xs,e,q,r⟩:=lr ok dv e1
   exact Or.inl ⟨a,xs,by rw[e],SqB.or q,by rw[<-aC.length r];exact put ok h gH⟩
  cases x with
  |str y=>
   have ho':(if y.length<=sizeLine then some (D.int y.length,W.mu)else none)=some (d,μ'):=ho
   split at ho'
   .rename_i hz
    cases ho'
    rw[lK dv]
    exact .inr ⟨y,rfl,hz,put ok h gH⟩
   .cases ho'
  |tup ds=>exact gen ds rfl ho
  |lst ds=>exact gen ds rfl ho
  |ro ds=>exact gen ds rfl ho
  |cell n=>
   obtain⟨ds,e1,e2⟩:=Zp.mp (show(bC (.cell n) W.mu).map (λds=>(D.int ds.length,W.mu))=some (d,μ')from ho)
   exact gen ds e1 (congrArg some e2)
  |_=>cases ho) ha
theorem wO(hm:X.mg "abs"=none)(ha:PAD X tb [a] fs)(hg:Gl X "abs":=by rfl)(he:starEach [a] X.env=(false,eval a X.env)::starEach [] X.env:=by rfl):PD X tb (.Call (.Name "abs" p) [a] [] pos) (MC fs (bu rT)):=
 Js (λta ha=>qp Mi hg hm PyProof.Rows.boot_abs ha (by decide) (by decide) he (by rfl)) (λW xs vs d μ' Q ok r ho h=>by
  obtain⟨x,rfl,ho⟩:=yc ho
  obtain⟨v,rfl,dv⟩:=aC.one r
  cases x with
  |int i=>cases ho;rw[bQ dv];exact⟨i,rfl,put ok h gH⟩
  |_=>cases ho) ha
theorem Py(hc:X.calm=true)(hm:X.mg "min"=none)(ha:PAD X tb [a,b] fs)(hg:Gl X "min":=by rfl)(he:starEach [a,b] X.env=(false,eval a X.env)::starEach [b] X.env:=by rfl)(hpl:(backTo pos (starEach [b] X.env)).any (·.1)=false:=by rfl):PD X tb (.Call (.Name "min" p) [a,b] [] pos) (MC fs (tB xJ)):=
 Js (λta ha=>qp (Jg hc) hg hm PyProof.Rows.boot_min ha (by decide) (by decide) he hpl) (λW xs vs d μ' Q ok r ho h=>by
  obtain⟨x,y,rfl,ho⟩:=Gp ho
  obtain⟨u,v,rfl,du,dv⟩:=aC.two r
  cases x with
  |int i=>
   cases y with
   |int j=>
    cases ho
    rw[bQ du,bQ dv]
    exact⟨i,j,rfl,put ok h gH⟩
   |_=>cases ho
  |_=>cases ho) ha
theorem tG(hm:X.mg "tuple"=none)(ha:PAD X tb [a] fs)(hg:Gl X "tuple":=by rfl)(he:starEach [a] X.env=(false,eval a X.env)::starEach [] X.env:=by rfl):PD X tb (.Call (.Name "tuple" p) [a] [] pos) (MC fs gG):=
 Js (λta ha=>Ja yJ hg hm PyProof.Rows.boot_tuple ha (by decide) (by decide) he (by rfl)) (λW xs vs d μ' Q ok r ho h=>by
  obtain⟨x,rfl,ho⟩:=Dt ho
  obtain⟨v,rfl,dv⟩:=aC.one r
  obtain⟨ds,e1,e2⟩:=Zp.mp (show(bC x W.mu).map (λds=>(D.tup ds,W.mu))=some (d,μ')from ho)
  cases e2
  by_cases ht:∃es,x= .tup es
  .obtain⟨es,rfl⟩:=ht
   cases e1
   obtain⟨a,xs,rfl,q,r⟩:=iz dv
   exact⟨a,xs,rfl,.inr ⟨SqT.fz q,put ok h dv⟩⟩
  .obtain⟨a,xs,rfl,q,r⟩:=lr ok dv e1
   have hf:Fq x=false:=by cases x<;>first|rfl|exact absurd ⟨_,rfl⟩ ht
   rw[hf]at q
   exact⟨a,xs,rfl,.inl ⟨q,λl hl=>qN ok h r hl⟩⟩) ha
def lOf(fs:AF):LF:=λδ μ=>(fs δ μ).bind λr=>match r.1 with
 | [x]=>(bC x r.2).map λds=>(ds,r.2)
 |_=>none
theorem jL{T:Str}{tn:String}{pt:Pos}(hm:X.mg "isinstance"=none)(hmT:X.mg T=none)(hT:bootBuiltins T=some (.type tn))(hmem:tn∈Pq)(ha:PD X tb a fa)(hg:Gl X "isinstance":=by rfl)(hgT:Gl X T:=by rfl)(hn:T≠"__name__":=by decide)(hdb:(T==("__debug__":Str))=false:=by decide)
  (hs:starEach [a,.Name T pt] X.env=(false,eval a X.env)::starEach [.Name T pt] X.env:=by rfl):PD X tb (.Call (.Name "isinstance" p) [a,.Name T pt] [] pos) (M1 fa (iV tn)):=
 fU (qp Kp hg hm PyProof.Rows.boot_isinstance (uo ha (uo (Pg hgT hmT hT (v:=.ty tn) rfl hn hdb) Az) hs) (by decide) (by decide) hs (by rfl)) λσ H Q zq2=>by
  obtain⟨W,δ,d,μ',e,ok,hd,hf,h⟩:=zq2
  unfold M1 at hf
  obtain⟨⟨x,μ1⟩,e1,e2⟩:=Za.mp hf
  refine⟨W,δ,x,μ1,e,ok,hd,e1,λv W1 ok1 l1 m1 d1=>?_⟩
  have fin:∀k,Uj X.K tn v W1.H k->some (D.bl k,μ1)=some (d,μ')->∃x T k,[v,V.ty tn]=[x,.ty T]/\T∈Pq/\Uj X.K T x W1.H k/\Q (.bl k) W1.H:=λk hk e=>by
   cases e
   exact⟨v,tn,k,rfl,hmem,hk,h _ W1 ok1 l1 m1 fG⟩
  cases x with
  |non=>rw[nO d1]at fin ⊢;exact fin _ rfl e2
  |bl b=>rw[jM d1]at fin ⊢;exact fin _ rfl e2
  |int b=>rw[bQ d1]at fin ⊢;exact fin _ rfl e2
  |str b=>rw[lK d1]at fin ⊢;exact fin _ rfl e2
  |tup ds=>obtain⟨a,xs,rfl,q,r⟩:=iz d1;exact fin _ (.inr (.inl ⟨rfl,xs,SqT.fz q⟩)) e2
  |lst ds=>obtain⟨a,xs,rfl,q,r⟩:=mQ d1;exact fin _ (.inl ⟨rfl,xs,SqL.fz q⟩) e2
  |ro ds=>obtain⟨a,xs,rfl,q,r⟩:=zu d1;exact fin _ (.inl ⟨rfl,xs,SqL.fz q⟩) e2
  |dic ds=>obtain⟨a,xs,rfl,q,r⟩:=Lz d1;exact fin _ (.inr (.inr ⟨rfl,xs,(fP q).1⟩)) e2
  |cell n=>
   have e2':(match μ1[n]? with|some (some _)=>some (D.bl (tn=="list"),μ1)|_=>none)=some (d,μ'):=e2
   obtain⟨a,rfl,q⟩:=jo d1
   cases e4:μ1[n]? with
   |none=>rw[e4]at e2';cases e2'
   |some o=>
    cases o with
    |none=>rw[e4]at e2';cases e2'
    |some ds=>
     rw[e4]at e2'
     obtain⟨xs,ex,_⟩:=ok1.cont n a ds q (by rw[m1];exact e4)
     exact fin _ (.inl ⟨rfl,xs,SqL.of ex⟩) e2'
def jR(μ:Mu)(n:Nat):Bool:=match μ[n]? with
 |some (some _)=>true
 |_=>false
theorem vC{μ:Mu}{n:Nat}(h:jR μ n=true):∃ds,μ[n]? =some (some ds):=by
 unfold jR at h
 split at h
 .exact⟨_,by assumption⟩
 .cases h
def lX(fo:EF)(fs:AF):EF:=λδ μ=>(fo δ μ).bind λr=>(fs δ r.2).bind λq=>match r.1,q.1 with
 | .cell n,[y]=>match q.2[n]? with
  |some (some ds)=>if jR r.2 n=true/\ds.length<sizeLine then some (.non,q.2.set n (some (ds++[y])))else none
  |_=>none
 |_,_=>none
theorem lB{o:Expr}{fo:EF}{apos cpos:Pos}(ho:PD X tb o fo)(ha:PAD X tb [e] fs)
  (hbase:attributeBase o "append" X.env (eval o X.env)=eval o X.env:=by rfl)
  (hfew:((backTo cpos (starEach [e] X.env)).all (λx=>!x.1)&&(backToKw cpos (keywordEach [] X.env)).all (λx=>x.1.isSome)
   &&decide ([e].length+([]:List Keyword).length+(if([]:List Keyword).isEmpty then 0 else 1)<30))=true:=by rfl)
  (hline:(apos.endLine==cpos.line)=true:=by rfl) (hs:starEach [e] X.env=(false,eval e X.env)::starEach [] X.env:=by rfl):PD X tb (.Call (.Attribute o "append" apos) [e] [] cpos) (lX fo fs):=
 fU (Lb PySem.F.plainAttrs_list PySem.F.slot_list_append PySem.F.type_list_append Ig ho ha hbase hfew hline hs (by rfl)) λσ H Q zq3=>by
  obtain⟨W,δ,d,μ',e,ok,hd,hf,h⟩:=zq3
  unfold lX at hf
  obtain⟨⟨x,μ1⟩,e1,hf⟩:=Za.mp hf
  obtain⟨⟨ys,μ2⟩,e2,hf⟩:=Za.mp hf
  refine⟨W,δ,x,μ1,e,ok,hd,e1,λv W1 ok1 l1 m1 d1=>?_⟩
  match x,ys,e1,e2,hf,d1 with
  | .cell n,[y],e1,e2,hf,d1=>
   have hf':(match μ2[n]? with|some (some ds)=>if jR μ1 n=true/\ds.length<sizeLine then some (D.non,μ2.set n (some (ds++[y])))else none|_=>none)=some (d,μ'):=hf
   cases e4:μ2[n]? with
   |none=>rw[e4]at hf';cases hf'
   |some oo=>
    cases oo with
    |none=>rw[e4]at hf';cases hf'
    |some ds=>
     rw[e4]at hf'
     have hf'':(if jR μ1 n=true/\ds.length<sizeLine then some (D.non,μ2.set n (some (ds++[y])))else none)=some (d,μ'):=hf'
     split at hf''
     .rename_i hz
      cases hf''
      obtain⟨a,rfl,q⟩:=jo d1
      obtain⟨ds0,e5⟩:=vC hz.1
      obtain⟨xs0,ex0,_⟩:=ok1.cont n a ds0 q (by rw[m1];exact e5)
      refine⟨.inl ⟨rfl,xs0,SqL.of ex0⟩,W1,δ,[y],μ2,rfl,ok1,hd.mono' l1,(by rw[m1];exact e2),λvs W2 ok2 l2 m2 d2=>?_⟩
      obtain⟨u,rfl,du⟩:=aC.one d2
      have q2:=l2.ad _ _ q
      have e6:W2.mu[n]? =some (some ds):=by rw[m2];exact e4
      obtain⟨xs,ex,r⟩:=ok2.cont n a ds q2 e6
      refine⟨a,xs,u,rfl,rfl,ex,by rw[<-aC.length r];exact hz.2,?_⟩
      obtain⟨ok3,l3⟩:=ok2.write q2 e6 (aC.append r (aC.cons du aC.nil))
      exact h .non _ ok3 ((l1.trans l2).trans l3) (by rw[<-m2]) qJ
     .cases hf''
def Hi(fo:EF):EF:=λδ μ=>(fo δ μ).bind λr=>match r.1 with
 | .cell n=>match r.2[n]? with
  |some (some (y::ds))=>some (y,r.2.set n (some ds))
  |_=>none
 |_=>none
theorem Qs{o:Expr}{fo:EF}{apos cpos p0:Pos}{j}(ho:PD X tb o fo)
  (hbase:attributeBase o "pop" X.env (eval o X.env)=eval o X.env:=by rfl)
  (hfew:((backTo cpos (starEach [.Constant (.int 0) j p0] X.env)).all (λx=>!x.1)&&(backToKw cpos (keywordEach [] X.env)).all (λx=>x.1.isSome)
   &&decide ([Expr.Constant (.int 0) j p0].length+([]:List Keyword).length+(if([]:List Keyword).isEmpty then 0 else 1)<30))=true:=by rfl)
  (hline:(apos.endLine==cpos.line)=true:=by rfl):PD X tb (.Call (.Attribute o "pop" apos) [.Constant (.int 0) j p0] [] cpos) (Hi fo):=
 fU (Lb PySem.F.plainAttrs_list PySem.F.slot_list_pop PySem.F.type_list_pop Nr ho (uo Jx Az) hbase hfew hline (by rfl) (by rfl)) λσ H Q zq4=>by
  obtain⟨W,δ,d,μ',e,ok,hd,hf,h⟩:=zq4
  unfold Hi at hf
  obtain⟨⟨x,μ1⟩,e1,hf⟩:=Za.mp hf
  refine⟨W,δ,x,μ1,e,ok,hd,e1,λv W1 ok1 l1 m1 d1=>?_⟩
  cases x with
  |cell n=>
   have hf':(match μ1[n]? with|some (some (y::ds))=>some (y,μ1.set n (some ds))|_=>none)=some (d,μ'):=hf
   cases e4:μ1[n]? with
   |none=>rw[e4]at hf';cases hf'
   |some oo=>
    match oo,e4 with
    |none,e4=>rw[e4]at hf';cases hf'
    |some [],e4=>rw[e4]at hf';cases hf'
    |some (y::ds),e4=>
     rw[e4]at hf'
     have hf'':some (y,μ1.set n (some ds))=some (d,μ'):=hf'
     cases hf''
     obtain⟨a,rfl,q⟩:=jo d1
     have e6:W1.mu[n]? =some (some (d::ds)):=by rw[m1];exact e4
     obtain⟨xs,ex,r⟩:=ok1.cont n a _ q e6
     have r':aC _ _ _ _ _:=r
     unfold aC at r'
     obtain⟨u,us,rfl,du,r2⟩:=r'
     refine⟨.inl ⟨rfl,_,SqL.of ex⟩,a,u::us,0,0,u,rfl,rfl,ex,by decide,by decide,?_,rfl,?_⟩
     .simp[seqIndex?]
     .obtain⟨ok3,l3⟩:=ok1.write q e6 r2
      exact h u _ ok3 (l1.trans l3) (by rw[<-m1]) (Den.mono' du l3)
  |_=>cases hf
theorem pdv(i:Nat){x:Str}(hN:X.N[i]? =some x:=by rfl)(hv:Vis X.env.scope x:=by first|exact Or.inl rfl|exact Or.inr (Or.inl rfl)|exact Or.inr (Or.inr rfl))(hd:(x==("__debug__":Str))=false:=by decide)(hcd:(x==("__classdict__":Str))=false:=by decide):PD X tb (.Name x pos) (ao i):=Ve hN hv hd hcd
end
end L3
namespace L2
open PySem PySem.Spec PyProof.Rows
section
variable {X:Cx} {e:Expr} {es:List Expr} {te:TE} {t:TA}
def Xg(K:PySem.W.Frag)(te:TE)(t:TA):TA:=λσ H Q=>te σ H λx H1=>∃a c xs,x= .ref a/\SqB c K H1 a xs/\t σ H1 λvs H2=>Q (xs++vs) H2
theorem Ol{p:Pos}(ha:PE X e te)(hr:PA X es t)(hs:starEach (.Starred e p::es) X.env=(true,eval e X.env)::starEach es X.env:=by rfl):PA X (.Starred e p::es) (Xg X.K te t):=by
 intro pos pins s σ H Q I h
 refine PySem.W.items_star (thn (ha pins s σ H _ I h) λu s1 zq1=>?_) hs
 obtain⟨x,H1,I1,r1,q1⟩:=zq1
 obtain⟨a,c,xs,rfl,hq,q⟩:=q1
 cases r1
 obtain⟨its,rv,p1,hz⟩:=I1.sqB hq
 obtain⟨T,hT,o,n,ho,hc,hd⟩:∃T,(T="list"∨T="tuple")/\∃o n,s1.heap.get? a=some o/\o.cls= .type T/\o.data= .seq its.toArray n:=by
  cases c
  .obtain⟨o,ho,hc,n,hd⟩:s1.heap.IsList a its.toArray:=p1
   exact⟨"list",.inl rfl,o,n,ho,hc,hd⟩
  .obtain⟨o,ho,hc,n,hd⟩:s1.heap.IsTuple a its.toArray:=p1
   exact⟨"tuple",.inr rfl,o,n,ho,hc,hd⟩
 have hlen:=rv.length
 unfold PySem.W.StarOf notIterableAtAll
 have hty:s1.TypeIs (.ref a) T:=⟨o,ho,hc⟩
 have fin:wpAny (model X.prog X.w) X.A (collect (.ref a)) (λhere s₂=>wpAny (model X.prog X.w) X.A (spliced (backTo pos (starEach es X.env))) (λvs s₃=>AP X pins σ Q (here++vs) s₃) X.xe s₂) X.xe s1:=by
  refine wpAny_collect_seq a hT ho hc hd (λh' kp=>?_) (by simp only[Zd];omega)
  have I2:Inv X pins σ H1 { s1 with heap:=h'}:=I1.kept (t':=s1.toks) kp
  refine thn (hr pos pins { s1 with heap:=h'} σ H1 _ I2 q) λus s3 zq2=>?_
  obtain⟨vs,H3,I3,r3,q3⟩:=zq2
  exact⟨xs++vs,H3,I3,rv.append r3,q3⟩
 rcases hT with rfl|rfl
 .exact wpAny_bind (wpAny_specialOf hty PySem.F.slot_list_iter.lookup (wpAny_pure ⟨rfl,fin⟩))
 .exact wpAny_bind (wpAny_specialOf hty PySem.F.slot_tuple_iter.lookup (wpAny_pure ⟨rfl,fin⟩))
end
end L2
namespace L3
open PySem PySem.Spec PyProof.Rows L2
section
variable {X:Cx} {tb:List Addr} {a b e:Expr} {es:List Expr} {fa fb f:EF} {fs:AF} {p pos:Pos}
def Hj(f:EF)(fs:AF):AF:=λδ μ=>(f δ μ).bind λr=>(bC r.1 r.2).bind λxs=>(fs δ r.2).bind λq=>match r.1 with
 | .cell _=>none
 |_=>some (xs++q.1,q.2)
theorem Ld(ha:PD X tb e f)(hr:PAD X tb es fs)(hs:starEach (.Starred e p::es) X.env=(true,eval e X.env)::starEach es X.env:=by rfl):PAD X tb (.Starred e p::es) (Hj f fs):=
 Nz (Ol ha hr hs) λσ H Q zq3=>by
  obtain⟨W,δ,ds,μ',e,ok,hd,hf,h⟩:=zq3
  unfold Hj at hf
  obtain⟨⟨x,μ1⟩,e1,hf⟩:=Za.mp hf
  obtain⟨xs,e2,hf⟩:=Za.mp hf
  obtain⟨⟨ys,μ2⟩,e3,hf⟩:=Za.mp hf
  have hf':some (xs++ys,μ2)=some (ds,μ'):=by cases x<;>first|exact hf|cases hf
  cases hf'
  refine⟨W,δ,x,μ1,e,ok,hd,e1,λv W1 ok1 l1 m1 d1=>?_⟩
  obtain⟨a,vs,rfl,q,r⟩:=lr ok1 d1 (by rw[m1];exact e2)
  refine⟨a,_,vs,rfl,q,W1,δ,ys,_,rfl,ok1,hd.mono' l1,(by rw[m1];exact e3),λus W2 ok2 l2 m2 d2=>?_⟩
  exact h (vs++us) W2 ok2 (l1.trans l2) m2 (aC.append (cV.mono' r l2) d2)
def jq:List D->List D->List D
 |x::xs,y::ys=>.tup [x,y]::jq xs ys
 |_,_=>[]
theorem Dm:∀{xs ys:List D}{i:Nat}{d:D},(jq xs ys)[i]? =some d->∃x y,d= .tup [x,y]/\xs[i]? =some x/\ys[i]? =some y
 | [],ys,i,d,h=>by simp[jq]at h
 |x::xs,[],i,d,h=>by simp[jq]at h
 |x::xs,y::ys,0,d,h=>by
  have h':some (D.tup [x,y])=some d:=by simpa[jq]using h
  cases h'
  exact⟨x,y,rfl,rfl,rfl⟩
 |x::xs,y::ys,i+1,d,h=>by
  obtain⟨u,v,e,e1,e2⟩:=Dm (xs:=xs) (ys:=ys) (i:=i) (by simpa[jq]using h)
  exact⟨u,v,e,by simpa using e1,by simpa using e2⟩
theorem DR:∀(xs ys:List D),(jq xs ys).length=min xs.length ys.length
 | [],ys=>by simp[jq]
 |x::xs,[]=>by simp[jq]
 |x::xs,y::ys=>by simp[jq,DR xs ys]
def dj:D->Option (List D)
 | .tup ds=>some ds
 | .lst ds=>some ds
 | .ro ds=>some ds
 |_=>none
theorem JC{K:PySem.W.Frag}{W:Wd}{x:D}{v:V}{ds:List D}(h:Den K tb W x v)(e:dj x=some ds):∃a xs,v= .ref a/\SqB (Fq x) K (W.fz tb) a xs/\cV K tb W ds xs:=by
 cases x with
 |tup es=>cases e;obtain⟨a,xs,rfl,q,r⟩:=iz h;exact⟨a,xs,rfl,q,r⟩
 |lst es=>cases e;obtain⟨a,xs,rfl,q,r⟩:=mQ h;exact⟨a,xs,rfl,q,r⟩
 |ro es=>cases e;obtain⟨a,xs,rfl,q,r⟩:=zu h;exact⟨a,xs,rfl,q,r⟩
 |_=>cases e
theorem pI{K:PySem.W.Frag}{c:Bool}{W0 W:Wd}{a:Addr}{xs:List V}(h:SqB c K (W0.fz tb) a xs)(l:Le tb W0 W):SqB c K W.H a xs:=by
 cases c
 .exact SqL.fz (SqL.mono l.same (show SqL K (W0.fz tb) a xs from h))
 .exact SqT.fz (SqT.mono l.same (show SqT K (W0.fz tb) a xs from h))
def pq(fs:AF):IF:=λδ μ=>(fs δ μ).bind λr=>match r.1 with
 | [x,y]=>(dj x).bind λxs=>(dj y).map λys=>(⟨jq xs ys,none⟩,r.2)
 |_=>none
theorem lq{p':Pos}{elts:List Expr}{kk:Nat}(hm:X.mg "zip"=none)(ha:PAD X tb [a,b] fs)(hg:Gl X "zip":=by rfl)(hs:starEach [a,b] X.env=[(false,eval a X.env),(false,eval b X.env)]:=by rfl)(hs2:starEach [b] X.env=[(false,eval b X.env)]:=by rfl):
  PID X tb (.Tuple elts kk p') (.Call (.Name "zip" p) [a,b] [] pos) (pq fs):=
 LC (TQ hg hm ha hs hs2) λσ H R zq4=>by
  obtain⟨W,δ,S,μ',e,ok,hd,hf,h⟩:=zq4
  unfold pq at hf
  obtain⟨⟨zs,μ1⟩,e1,hf⟩:=Za.mp hf
  match zs,e1,hf with
  | [x,y],e1,hf=>
   obtain⟨xs,e2,hf⟩:=Za.mp (show((dj x).bind λxs=>(dj y).map λys=>((⟨jq xs ys,none⟩:Src),μ1))=some (S,μ')from hf)
   obtain⟨ys,e3,e4⟩:=Zp.mp hf
   cases e4
   refine⟨W,δ,[x,y],_,e,ok,hd,e1,λvs W1 ok1 l1 m1 d1=>?_⟩
   obtain⟨u,v,rfl,du,dv⟩:=aC.two d1
   obtain⟨a1,us,rfl,q1,r1⟩:=JC du e2
   obtain⟨a2,ws,rfl,q2,r2⟩:=JC dv e3
   refine⟨a1,a2,_,_,rfl,⟨us,pI q1 (Le.refl _)⟩,⟨ws,pI q2 (Le.refl _)⟩,h _ W1 ok1 l1 m1 ⟨λi W2 d l ok2 _ ei=>?_,λi W2 l ok2 _ hi=>?_⟩⟩
   .obtain⟨x0,y0,rfl,ex,ey⟩:=Dm ei
    obtain⟨vx,evx,dvx⟩:=aC.get (cV.mono' r1 l) ex
    obtain⟨vy,evy,dvy⟩:=aC.get (cV.mono' r2 l) ey
    refine⟨⟨⟨us,vx,pI q1 l,evx⟩,ws,vy,pI q2 l,evy⟩,λz H' ⟨p,x',y',ez,hp,eH,hx',hy'⟩=>?_⟩
    have ex':=hx' us (pI q1 l)
    have ey':=hy' ws (pI q2 l)
    rw[evx]at ex';cases ex'
    rw[evy]at ey';cases ey'
    obtain⟨ok3,l3,e3⟩:=ok2.alloc (o:=.tup [vx,vy]) hp
    refine⟨_,eH.symm,ok3,l3,rfl,?_⟩
    rw[ez]
    show bL _ _ _ _ _
    unfold bL
    exact⟨p,[vx,vy],rfl,.inl (.inl e3),cV.mono' (aC.cons dvx (aC.cons dvy aC.nil)) l3⟩
   .have hi':min xs.length ys.length<=i:=by rw[<-DR];exact hi
    have l1':=aC.length r1
    have l2':=aC.length r2
    refine⟨us,ws,pI q1 l,pI q2 l,?_⟩
    omega
end
theorem Hl{K:PySem.W.Frag}{F:Hp}{ad:List Addr}:∀(ns:List Int),aC K F ad (ns.map D.int) (ns.map V.int)
 | []=>aC.nil
 |n::ns=>aC.cons (by unfold bL;rfl) (Hl ns)
theorem Iw{P:Program}{w:World}{K:PySem.W.Frag}{mg mb:Str->Option Value}{k:Nat}{fa a:Addr}{fd:FuncData}{x:Str}{s₁:Shared}{vs:List Value}{ns:List Int}{tb:List Addr}{φ:FF}{μ':Mu}
  (KX:K.In s₁.heap) (hns:s₁.heap.Ns mainGlobals mg) (hb:s₁.heap.Ns builtinsNs mb) (hbb:∀x:Str,x≠"__name__"->mb x=bootBuiltins x) (hlim:s₁.heap.NoLimit)
  (hbm:∃bm ob,mg "__builtins__"=some (.ref bm)/\bm≠builtinsNs/\s₁.heap.get? bm=some ob/\ob.cls= .type "module"/\ob.dict=some builtinsNs/\ob.data= .plain) (hg:s₁.gens= #[])
  (ha:s₁.heap.get? a=some { cls:=.type "list",data:=.seq vs.toArray}) (hi:IntsAre vs ns) (hl:ns.length<=sizeLine) (hr:iB k callerA)
  (htb:∀P∈tb,∃c,PySem.W.CodeHd s₁.heap c P/\s₁.heap.get? P=some (PySem.W.tabObj #[])) (hnt:PySem.W.noTabs K=true)
  (F:∀base:Heap,K.In base->base.Ns mainGlobals mg->uv P w K mg base CX0 k fa fd [x] (spD K tb 1 φ)) (hbind:∀(s:Shared)(u:Value),BindsTo s fd ⟨[u],[]⟩ [(x,u)])
  (hsp:φ [.ro (ns.map .int)] []=some (.bl true,μ')):
  codeAny (model P w) callerA (.call (.ref fa) ⟨[.ref a],[]⟩) (λr s'=>r= .ok (.ret (.bool true))/\OldK s₁.heap s'.heap/\s'.os=s₁.os/\AllBare s'.gens) s₁:=by
 have rv:=uY hi
 have lenV:=hi.length
 have hat:a∉tb:=λz=>by
  obtain⟨c,_,e⟩:=htb a z
  rw[ha]at e;cases e
 have hKt:∀P∈tb,K.lookup P=none:=λP hP=>by
  cases q:K.lookup P with
  |none=>rfl
  |some o=>
   obtain⟨c,_,e⟩:=htb P hP
   have e2:=KX P o q
   rw[e]at e2
   cases e2
   have h2:=List.all_eq_true.mp hnt (P,_) (PySem.W.mem_of_lookupK q)
   exact absurd (show false=true from h2) Zr
 have core:∀H:Hp,(∀b,H b=none∨(b=a/\∃o xs,H b=some (.frz o (.lst xs)))∨(b∈tb/\H b=some (.tbl #[])))->SqL K H a (ns.map V.int)->HOk P w H s₁.heap->(∀P∈tb,H P=some (.tbl #[]))->(H a≠none->K.lookup a=none)->
   codeAny (model P w) callerA (.call (.ref fa) ⟨[.ref a],[]⟩) (λr s'=>r= .ok (.ret (.bool true))/\OldK s₁.heap s'.heap/\s'.os=s₁.os/\AllBare s'.gens) s₁:=by
  intro H hO hS hok hT hK
  have base_of:∀{b:Addr}{o:Obj},s₁.heap.get? b=some o->H b=none->(Bg s₁.heap H).get? b=some o:=λe n=>Ob e n
  have noH:∀{b:Addr}{o:Obj},s₁.heap.get? b=some o->o.cls≠ .type "list"->o.cls≠ .none->H b=none:=λ{b o} e d1 d2=>by
   rcases hO b with z|⟨rfl,_⟩|⟨z,_⟩
   .exact z
   .rw[ha]at e;cases e;exact absurd rfl d1
   .obtain⟨c,_,e2⟩:=htb b z
    rw[e2]at e;cases e;exact absurd rfl d2
  have noA:∀{b:Addr}{o:Obj}{es:Array DictEntry}{ep:Nat},s₁.heap.get? b=some o->o.data= .dict es ep->H b=none:=λ{b o es ep} e d=>by
   rcases hO b with z|⟨rfl,_⟩|⟨z,_⟩
   .exact z
   .rw[ha]at e;cases e;cases d
   .obtain⟨c,_,e2⟩:=htb b z
    rw[e2]at e;cases e;cases d
  have nsK:∀{b:Addr}{m:Str->Option Value},s₁.heap.Ns b m->(Bg s₁.heap H).Ns b m:=λ{b m}⟨o,es,ep,e,d,r⟩=>⟨o,es,ep,base_of e (noA e d),d,r⟩
  have hKb:K.In (Bg s₁.heap H):=λb o e=>base_of (KX b o e) (by
   rcases hO b with z|⟨rfl,_,_,z⟩|⟨z,_⟩
   .exact z
   .rw[hK (by rw[z];simp)]at e;cases e
   .rw[hKt b z]at e;cases e)
  have hM:Mod K mg (Bg s₁.heap H):=⟨hKb,nsK hns,⟨mb,nsK hb,hbb⟩,(let⟨mc,h1,h2⟩:=hlim;⟨mc,nsK h1,h2⟩),(let⟨bm,ob,h1,h2,h3,h4,r⟩:=hbm;⟨bm,ob,h1,h2,base_of h3 (noH h3 (by rw[h4];decide) (by rw[h4];decide)),h4,r⟩)⟩
  have e0:Ph P w K mg (Bg s₁.heap H) callerA [] s₁ H:=⟨rfl,hM,λb o e=>Ox e,Nat.le_of_eq (Jk _ _),trivial,λb hb=>absurd (show b∈([]:List Addr)from hb) (by simp),hok,.of_eq hg⟩
  have okW:WOk K tb ⟨H,[],[]⟩:=⟨rfl,λi a ds e=>by simp at e,λi j a ds es e=>by simp at e,λP hP=>⟨#[],hT P hP,TOk.nil⟩⟩
  have nlive:∀b,¬qT ([]:List Addr) ([]:Mu) b:=λb ⟨i,ds,e,_⟩=>by simp at e
  have fzA:Wd.fz tb ⟨H,[],[]⟩ a=H a:=tU (W:=⟨H,[],[]⟩) (nlive a) hat
  have hden:Den K tb ⟨H,[],[]⟩ (.ro (ns.map .int)) (.ref a):=by
   show bL _ _ _ _ _
   unfold bL
   refine⟨a,_,rfl,?_,Hl ns⟩
   rcases hS with(h|⟨o,h⟩)|h
   .exact .inl (.inl (fzA.trans h))
   .exact .inl (.inr ⟨o,fzA.trans h⟩)
   .exact .inr h
  refine codeAny_mono ((F _ hKb (nsK hns)).run callerA [] s₁ H ⟨[.ref a],[]⟩ [.ref a] [.ref a] (λv _=>v= .bl true) (λ_ _ _=>False) hr e0 (hbind s₁ (.ref a)) (.cons rfl .nil)
   ⟨⟨H,[],[]⟩,[.ro (ns.map .int)],_,_,rfl,okW,aC.cons hden aC.nil,rfl,hsp,λv W' _ _ _ dv=>jM dv⟩) λr s' h=>?_
  cases r with
  |error e=>exact False.elim h
  |ok fl=>
   cases fl with
   |next=>exact False.elim h
   |brk=>exact False.elim h
   |cont=>exact False.elim h
   |ret u=>
    obtain⟨v,H',os,bare,un,hok',r',q⟩:=h
    have q':v= .bl true:=q
    subst q'
    obtain rfl:u=Value.bool true:=r'
    have old:∀b o,s₁.heap.get? b=some o->asItWas s₁.heap s'.heap b o/\∃o',s'.heap.get? b=some o':=λb o e=>by
     rcases hO b with z|⟨rfl,ob,xs,z⟩|⟨hb,z⟩
     .have:=un.keep b o e z (by intro z;exact absurd (show b∈([]:List Addr)from z) (by simp)) (by simp)
      exact⟨.inl this,o,this⟩
     .have z2:=un.frzs b ob _ z
      obtain⟨e1,_⟩:=hok b _ z
      obtain⟨e2,_⟩:=hok' b _ z2
      rw[e]at e1;cases e1
      exact⟨.inl e2,_,e2⟩
     .obtain⟨more,z2⟩:=un.tbls b _ z
      have e2:=hok' b _ z2
      obtain⟨c,hd,hp⟩:=htb b hb
      rw[hp]at e;cases e
      have e3:s'.heap.get? b=some { cls:=.none,data:=.fields (#[]++more) }:=e2
      exact⟨.inr (.inl ⟨(hd.tab hp).isCodeTable,rfl,#[],more,rfl,e3⟩),_,e3⟩
    exact⟨rfl,⟨λb o e=>(old b o e).1,λb o e=>(old b o e).2⟩,os,bare.bare⟩
 have tbOk:∀{H:Hp}{b:Addr},b∈tb->jB P w H s₁.heap b (.tbl #[]):=λ{H b} hb=>by
  obtain⟨c,_,e⟩:=htb b hb
  exact e
 classical
 cases hk:K.lookup a with
 |some o=>
  have e:=KX a o hk
  rw[ha]at e
  cases e
  refine core (λb=>if b∈tb then some (.tbl #[])else none) (λb=>?_) (.inr ⟨_,vs.toArray,_,hk,rfl,rfl,rfl,by rw[Zd,lenV];exact hl,by simpa using rv⟩) (λb u z=>?_) (λP hP=>if_pos hP) λz=>absurd (if_neg hat) z
  .by_cases hb:b∈tb
   .exact .inr (.inr ⟨hb,if_pos hb⟩)
   .exact .inl (if_neg hb)
  .by_cases hb:b∈tb
   .have z':=(if_pos hb).symm.trans z
    cases z'
    exact tbOk hb
   .have z':=(if_neg hb).symm.trans z
    cases z'
 |none=>
  refine core (λb=>if b=a then some (.frz { cls:=.type "list",data:=.seq vs.toArray} (.lst (ns.map V.int)))else if b∈tb then some (.tbl #[])else none) (λb=>?_) (.inl (.inr ⟨{ cls:=.type "list",data:=.seq vs.toArray},if_pos rfl⟩)) (λb u z=>?_) (λP hP=>?_) λ_=>hk
  .by_cases hb:b=a
   .exact .inr (.inl ⟨hb,_,_,if_pos hb⟩)
   .by_cases hb':b∈tb
    .exact .inr (.inr ⟨hb',(if_neg hb).trans (if_pos hb')⟩)
    .exact .inl ((if_neg hb).trans (if_neg hb'))
  .by_cases hb:b=a
   .have z':=(if_pos hb).symm.trans z
    cases z'
    subst hb
    exact⟨ha,by rw[Zu];exact hl,vs,_,rv,ha⟩
   .have z1:=(if_neg hb).symm.trans z
    by_cases hb':b∈tb
    .have z':=(if_pos hb').symm.trans z1
     cases z'
     exact tbOk hb'
    .have z':=(if_neg hb').symm.trans z1
     cases z'
  .have hne:P≠a:=λz=>hat (z▸hP)
   exact(if_neg hne).trans (if_pos hP)
theorem KR{l:PySem.W.OpenLaw}{n k:Nat}{q:Program}{loose:List Str}{XP:(Str->Option Value)->Heap->Prop}{YP:World->Heap->Prop}{d:DefRec}{K:Params->PySem.W.Frag}{x:Str}{φ:FF}
  (hn:l.most=some n) (hn2:n<=sizeLine) (hdf:d.params.defaults=[]) (hr:iB k callerA)
  (hY:∀(w:World)(h:Heap),YP w h->(K w.params).In h)
  (F:∀(w:World)(mg mb:Str->Option Value)(mean:ExcName->Option Value)(lo:List Str)(fa:Addr)(h:Heap),(K w.params).In h->Top q lo mean mg mb h->mg d.name=some (.ref fa)->
   ∃(fd:FuncData)(tb:List Addr),(∀(s:Shared)(u:Value),BindsTo s fd ⟨[u],[]⟩ [(x,u)])/\(∀P∈tb,∃c,PySem.W.CodeHd h c P/\h.get? P=some (PySem.W.tabObj #[]))/\PySem.W.noTabs (K w.params)=true/\
    ∀base:Heap,(K w.params).In base->base.Ns mainGlobals mg->uv l.prog w (K w.params) mg base CX0 k fa fd [x] (spD (K w.params) tb 1 φ))
  (hsp:∀(ns:List Int),ns.length<=n->∃μ',φ [.ro (ns.map .int)] []=some (.bl true,μ')):
  PySem.W.WalkO q loose XP YP l.row.toRowW d [] (λf vs=>PySem.call f vs):=by
 refine Att.attach_call hn hdf λw s₀ s₁ mg mb fa o pm cd doc a vs ns G Y ho hd hcd hmg hobj hints hlen hg=>?_
 have KX:=hY w _ Y
 obtain⟨fd,tb,hb,htb,hnt,hF⟩:=F w mg mb _ _ fa _ KX G.T hmg
 obtain⟨μ',hs⟩:=hsp ns hlen
 exact Iw KX G.T.g G.T.b G.T.builtins G.T.nolimit G.T.bmain hg hobj hints (Zl hlen hn2) hr htb hnt hF hb hs
end L3
namespace L2
open PySem PySem.Spec PyProof.Rows
section
variable {X:Cx} {tg iter elt:Expr} {ifs:List Expr} {wi:TI} {g:TG} {tt:TT} {te:TE} {own cap:List Str} {capI:List Nat} {scope:Scope} {pos:Pos}
theorem WM{i₀:Nat}{x₀:Str}{px₀ spos:Pos}(hN:X.N.Nodup)(hi₀:X.N[i₀]? =some x₀)(hx₀:Loc X.env.scope x₀)(hc:X.calm=true)(B:je X own cap capI scope)(hown:∀x∈own,(x,NameKind.free)∉scope.names)(hi:PI X tg iter wi)
  (hg:∀cs C fp s2 H2,PG (gf X own cap scope cs C fp s2 H2) tg g) (ht:∀cs C fp s2 H2,PIf (gf X own cap scope cs C fp s2 H2) ifs tt) (he:∀cs C fp s2 H2,PE (gf X own cap scope cs C fp s2 H2) elt te)
  (hs:∀x,foldedSetIterable iter X.env x=pure x:=by intro _;rfl) (hsw:swapsWith (.ListComp elt [⟨tg,iter,ifs,0⟩] scope pos) (some (.Name x₀ px₀)) spos.line X.env=pure true:=by rfl)
  (hf₀:X.fn x₀=true∨X.env.scope.names.lookup x₀=some .local:=by first|exact .inl rfl|exact .inr rfl|assumption):
  PS X (.Assign [.Name x₀ px₀] (.ListComp elt [⟨tg,iter,ifs,0⟩] scope pos) spos) (Vt (tLC own capI wi g tt te) (JN i₀)):=by
 intro pins s σ H D I h
 rw[exec_Assign_Name_used _ _ _ _ hsw]
 refine wpAny_bind (wpAny_standAt (wpAny_bind ?_))
 show wpAny _ X.A (do let _<-comprehension (.ListComp elt [⟨tg,iter,ifs,0⟩] scope pos) scope X.env _ (newList []) false (eval iter X.env) (some (assign (.Name x₀ px₀) X.env))) _ _ s
 refine wpAny_bind (wpAny_mono (wpAny_comprehension_free (use:=some (assign (.Name x₀ px₀) X.env)) (Q:=λ_ s'=>SP X pins D .next s') (cl:=dI X.env scope.names []) rfl hs (mU (B.cells I)) B.kind (λy hy e=>gh B.nd (by rw[<-e];exact hy)) ?_) (λ_ s' hq=>wpAny_pure (wpAny_pure hq)) λ_ _ e=>e)
 refine thn (hi pins s σ H _ I h) λv s1 h1=>thn h1 λitv s2 h2=>?_
 obtain⟨it,fp,tn,J,H2,e,I2,T,st2,f2,W,⟨m0,w0⟩,turn⟩:=h2
 subst e
 refine wpAny_newObj_type (rA ?_)
 dsimp only
 generalize hl:s2.heap.objs.size=l
 generalize hh0:s2.heap.push { cls:=.type "list",dict:=none,data:=.seq ([]:List Value).toArray}=h0
 have hsz0:h0.objs.size=l+1:=by rw[<-hh0,Heap.size_push,hl]
 generalize hC:h0.objs.size=C
 generalize hh1:pushCells (h0.push { cls:=.type (if(some X.env).isSome=true then "dict" else "frame"),data:=.dict #[] }) scope.names=h1
 have hl0:h0.get? l=some (cH [] 0):=by rw[<-hh0,<-hl];exact Zf _ rfl
 have hk0:∀b o,s2.heap.get? b=some o->h0.get? b=some o:=λb o e=>by rw[<-hh0];exact Zb _ e
 have hlC:l≠C:=by rw[<-hC,hsz0];exact Zk (Nat.lt_succ_self _)
 have hls:s2.heap.objs.size<=l:=Nat.le_of_eq hl
 have hCs:s2.heap.objs.size<=C:=by rw[<-hC,hsz0,hl];exact Nat.le_succ _
 have ho2:∀b∈fp,∃o,s2.heap.get? b=some o:=λb hb=>let⟨o,e,_⟩:=T.obj 0 _ st2 b hb;⟨o,e⟩
 have hfl:∀b∈fp,b≠l/\b≠C:=λb hb=>let⟨o,e⟩:=ho2 b hb;⟨Zk (Zc (Ze e) hls),Zk (Zc (Ze e) hCs)⟩
 have hl1:h1.get? l=some (cH [] 0):=by rw[<-hh1];exact pushCells_keeps _ _ _ _ (Zb _ hl0)
 have keep1:∀b o,s2.heap.get? b=some o->h1.get? b=some o:=λb o e=>by rw[<-hh1];exact pushCells_keeps _ _ _ _ (Zb _ (hk0 b o e))
 generalize hcs:cellsFrom (C+1) scope.names (dI X.env scope.names [])=cs
 have I0:Inv (gf X own cap scope cs C fp s2 H2) [] (dJ own σ capI) H2 { s2 with heap:=h1}:=by
  have q:=I2.comp (tk:=s2.toks) B hown f2 ho2 hk0 (by rw[hsz0,hl];exact Nat.le_succ _) hC.symm hh1.symm
  rw[hcs]at q
  exact q
 have henv:(newEnv scope C X.env.globals cs X.env.qual none .none (some X.env) builtinsNs)={ compEnvC scope cs C X.env with scope:=scope}:=rfl
 have henv2:({ newEnv scope C X.env.globals cs X.env.qual none .none (some X.env) builtinsNs with scope:=relabel scope X.env}:Env)=(gf X own cap scope cs C fp s2 H2).env:=rfl
 generalize hX':gf X own cap scope cs C fp s2 H2=X' at I0 henv2
 have eP:X'.prog=X.prog:=by rw[<-hX'];rfl
 have eW:X'.w=X.w:=by rw[<-hX'];rfl
 have eK:X'.K=X.K:=by rw[<-hX'];rfl
 have eA:X'.A=X.A:=by rw[<-hX'];rfl
 have eFs:X'.fs=frs X.stack:=by rw[<-hX'];rfl
 have eEx:X'.ex=fp:=by rw[<-hX'];rfl
 have eS:X'.s₀=s2:=by rw[<-hX'];rfl
 have eH:X'.H₀=H2:=by rw[<-hX'];rfl
 have eL:X'.env.locals=C:=by rw[<-hX'];rfl
 have eC:X'.calm=true:=by rw[<-hX'];exact hc
 have eX:X'.xe=λ_ _=>False:=by rw[<-hX'];rfl
 have ePn:X'.pn=[]:=by rw[<-hX'];rfl
 have hg':PG X' tg g:=by rw[<-hX'];exact hg cs C fp s2 H2
 have ht':PIf X' ifs tt:=by rw[<-hX'];exact ht cs C fp s2 H2
 have he':PE X' elt te:=by rw[<-hX'];exact he cs C fp s2 H2
 have stat:∀{H':Hp}{P:List (Addr×Obj)},X'.Ok->(∀b∈fp,H' b=none)->(∀p∈P,p.1=l)->∀b∈fp,nT X' P H' b:=λ{H' P} ok hn hP b hb=>by
  refine⟨hn b hb,?_,?_,.inl (by rw[eEx];exact hb),?_,λp hp=>?_⟩
  .exact(ok.exf b (by rw[eEx];exact hb)).1
  .exact ok.exfs b (by rw[eEx];exact hb)
  .exact(ok.exf b (by rw[eEx];exact hb)).2
  .rw[ePn,List.nil_append]at hp
   rw[hP p hp]
   exact Ne.symm (hfl b hb).1
 have lfs:X'.Ok->l∉X'.fs:=λok hz=>by
  rw[eFs]at hz
  exact(Inv.nofs (X:=X) I2 hls) ((Zi.mp (I2.stkSub l hz)).elim (λz=>absurd I2.lt (by rw[<-z,hl];exact Nat.lt_irrefl _)) id)
 have pinL:∀{σ':St}{H':Hp}{s':Shared}{us:List Value}{k:Nat},Inv X' [] σ' H' s'->s'.heap.get? l=some (cH us k)->H' l=none->Inv X' [(l,cH us k)] σ' H' s':=λ{σ' H' s' us k} I' e n=>
  I'.pins_of λp hp=>by
   obtain rfl:p=(l,cH us k):=by simpa using hp
   exact⟨e,n,by rw[eL];exact hlC,lfs I'.ok,λv z=>by cases z⟩
 have loop:∀s3:Shared,s3={ s2 with heap:=h1}->codeAny (model X.prog X.w) X.A (.compLoop (.ListComp elt [⟨tg,iter,ifs,0⟩] scope pos) 0 (.ref it) (.ref l) X'.env) (compPost (model X.prog X.w) X.A X.xe (some (assign (.Name x₀ px₀) X.env)) (λ_ s'=>SP X pins D .next s') (.ref l) C) s3:=by
  rintro s3 rfl
  refine zK (E':=λ_ _=>False) (λn s'=>∃i ys us k H',Inv X' [] (dJ own σ capI) H' s'/\tn i s'.heap/\(∀b∈fp,H' b=none)/\W i n ys H'/\Vals ys us/\s'.heap.get? l=some (cH us k)/\H' l=none/\ys.length<=sizeLine) (λ_ _ z=>z.elim) ?_ m0
   ⟨0,[],[],0,H2,I0,T.keep _ _ _ st2 λb _ o e=>keep1 b o e,λb hb=>(f2 b hb).1,w0,.nil,hl1,I2.hok.fresh hls,Nat.zero_le _⟩
  rintro n s3 ⟨i,ys,us,k,H3,I3,st3,fr3,w3,v3,o3,n3,z3⟩
  have I3p:=pinL I3 o3 n3
  have P1:∀p∈[(l,cH us k)],p.1=l:=λp hp=>by
   obtain rfl:p=(l,cH us k):=by simpa using hp
   rfl
  rcases turn i n ys H3 w3 with⟨stop,qn⟩|⟨go,hlt,step⟩
  .have q:=T.done X' eP eW eK eC i _ s3 _ H3 (λ_ _=>False) I3p (stat I3.ok fr3 P1) st3 stop
   rw[eA]at q
   refine wpAny_mono q (λr s4 ⟨hr,I4⟩=>?_) λ_ _ z=>z
   subst hr
   have pl:=I4.pin (l,cH us k) (by simp)
   obtain⟨m4,hn4,_⟩:=I4.loc
   rw[eL]at hn4
   have fC:H3 C=none:=by have:=I4.free;rw[eL]at this;exact this
   have IE:Inv X pins σ (upd H3 l (.lst ys)) s4:=by
    have:=I2.compEnd f2 eP eW eFs eEx eS eH eL I4 hls hlC hCs pl.1 n3 v3 z3 (Heap.SameBut.refl C s4.heap)
    exact this
   show wpAny _ X.A (assign (.Name x₀ px₀) X.env (.ref l)) _ _ s4
   refine wpAny_assign_Name (Aj IE hN hi₀ hx₀ (v:=.ref l) rfl (λs5 I5 ⟨a,sa,ha⟩=>?_) hf₀)
   have hnL:C≠X.env.locals:=Nat.ne_of_gt (Zc I2.lt hCs)
   have hnc:∀y c,X.env.cells.lookup y=some c->c≠C:=λy c e=>by
    obtain⟨v,q⟩:=I2.cell y c e
    exact Zk (Zc q.lt hCs)
   have haC:C≠a:=by
    rcases ha with q|q
    .rw[q];exact hnL
    .exact Ne.symm (hnc _ _ q)
   obtain⟨o4,es4,ep4,ho4,r4⟩:=hn4
   refine⟨m4,⟨o4,es4,ep4,(sa.2 C haC).trans ho4,r4⟩,λh' sb=>⟨_,_,?_,qn l n3⟩⟩
   refine I5.turned (t':=s5.toks) (it:=C) (λb o hb e=>(sb.2 b hb).trans e) (by rw[aX (Ne.symm hlC)];exact fC) hnL (.inr (Zl I2.sz hCs)) hnc λp hp=>?_
   exact Zk (Zc (Ze (I2.pin p hp).1) hCs)
  .have q:=T.item X' eP eW eK eC i _ s3 _ H3 (λ_ _=>False) I3p (stat I3.ok fr3 P1) st3 go
   rw[eA]at q
   refine wpAny_mono q (λr s4 ⟨u,hr,h4⟩=>?_) λ_ _ z=>z
   subst hr
   refine wpAny_mono h4 (λ_ s5 ⟨x,H5,I5,r5,y5,st5,fr5⟩=>?_) λ_ _ z=>z
   have I5':=I5.pinned (stat I5.ok fr5 P1) (T.obj _ _ st5)
   have a1:=hg' _ s5 _ H5 x u _ I5' r5 (step x H5 y5)
   rw[eP,eW,eA,eX]at a1
   refine wpAny_mono a1 (λ_ s6 ⟨σ6,H6,I6,ft6,q6⟩=>?_) λ_ _ z=>z
   have a2:=ht' _ s6 σ6 H6 _ I6 q6
   rw[eP,eW,eA,eX]at a2
   refine wpAny_mono a2 (λok s7 ⟨H7,I7,q7⟩=>?_) λ_ _ z=>z
   have back:∀{H8:Hp}{s8:Shared},Inv X' ([(l,cH us k)]++uA fp s5.heap) σ6 H8 s8->Inv X' [] (dJ own σ capI) H8 s8/\tn (i+1) s8.heap/\(∀b∈fp,H8 b=none)/\s8.heap.get? l=some (cH us k)/\H8 l=none:=λ{H8 s8} I8=>by
    have pl:=I8.pin (l,cH us k) (by simp)
    refine⟨(I8.weak ft6.1.symm ft6.2).pins_of λp hp=>absurd hp (by simp),T.keep _ _ _ st5 λb hb o e=>?_,λb hb=>?_,pl.1,pl.2.1⟩
    .exact(I8.pin (b,o) (Zn _ (Zn _ (iT hb e)))).1
    .obtain⟨o,e,d⟩:=T.obj _ _ st5 b hb
     exact(I8.pin (b,o) (Zn _ (Zn _ (iT hb e)))).2.1
   cases ok with
   |false=>
    rw[if_neg Zr]
    rw[if_neg Zr]at q7
    obtain⟨m',hm,w7⟩:=q7
    obtain⟨I8,st8,fr8,o8,n8⟩:=back I7
    exact⟨m',hm,i+1,ys,us,k,H7,I8,st8,fr8,w7,v3,o8,n8,z3⟩
   |true=>
    rw[if_pos rfl]
    rw[if_pos rfl]at q7
    have a3:=he' _ s7 σ6 H7 _ I7 q7
    rw[eP,eW,eA,eX]at a3
    refine wpAny_mono a3 (λyv s8 ⟨y,H8,I8',r8,m',hm,w8⟩=>?_) λ_ _ z=>z
    obtain⟨I8,st8,fr8,o8,n8⟩:=back I8'
    refine append_at (hsz:=by show us.toArray.size<=sizeLine;rw[Zd,<-v3.length];exact z3) o8 λh9 sb9 o9=>?_
    have I9:Inv X' [] (dJ own σ capI) H8 { s8 with heap:=h9}:=I8.turned (t':=s8.toks) (λb o hb e=>(sb9.2 b hb).trans e) n8 (by rw[eL];exact hlC) (.inr (by rw[eS];exact hls)) (λx c e=>by
     rintro rfl
     obtain⟨v',ho',hd',hd''⟩:=I8.cell x c e
     rw[o8]at hd'
     cases hd'
     cases hd'') (λp hp=>by rw[ePn]at hp;exact absurd hp (by simp))
    refine⟨m',hm,i+1,ys++[y],us++[yv],k+1,H8,I9,T.keep _ _ _ st8 λb hb o e=>(sb9.2 b (hfl b hb).1).trans e,fr8,w8,v3.append (.cons r8 .nil),?_,n8,?_⟩
    .rw[o9]
     simp[cH]
    .rw[List.length_append]
     exact hlt
 have T0:=T.keep 0 s2.heap h1 st2 λb _ o e=>keep1 b o e
 rw[henv2]
 exact codeAny_compStart_list (loop _ rfl) (T.self X.A 0 _ _ _ T0 (loop _ rfl))
end
end L2
namespace L3
open PySem PySem.Spec PyProof.Rows L2
section
variable {X:Cx} {tb:List Addr} {e tg iter elt:Expr} {f:EF} {pos:Pos}
theorem PQ{fi:IF}{h:GF}{tt:TF}{fe:EF}{own:List Str}{capI ts:List Nat}{σ:SV}{H:Hp}{Q:VK}(hts:∀i∈ts,i<own.length)(hx:tDN X.K tb (lLC own capI fi h tt fe) σ H Q):
  tLC own capI (tDI X.K tb fi) (tDG X.K tb ts h) (tDT X.K tb tt) (tD X.K tb fe) σ H Q:=by
  obtain⟨W,δ,ds,μ',e,ok,hd,hf,k⟩:=hx
  unfold lLC at hf
  obtain⟨⟨S,μ1⟩,e1,e2⟩:=Za.mp hf
  split at e2
  .rename_i hz
   refine⟨W,δ,S,μ1,e,ok,hd,e1,λJ W1 ok1 l1 m1 io=>?_⟩
   refine⟨λi m ys H2=>m=S.items.length-i/\i<=S.items.length/\ys.length<=i/\∃W2 zs rs,W2.H=H2/\WOk X.K tb W2/\Le tb W1 W2/\cV X.K tb W2 zs ys/\lcL S h tt fe (bZ own δ capI) (S.items.drop i) W2.mu=some (rs,μ')/\zs++rs=ds,
    ⟨S.items.length,rfl,Nat.zero_le _,Nat.zero_le _,W1,[],ds,rfl,ok1,Le.refl _,aC.nil,by rw[m1];exact e2,rfl⟩,?_⟩
   rintro i m ys H2 ⟨hm,hi',hy,W2,zs,rs,rfl,ok2,l2,d2,hn,hzs⟩
   by_cases hlt:i<S.items.length
   .right
    have hdr:S.items.drop i=S.items[i]::S.items.drop (i+1):=List.drop_eq_getElem_cons hlt
    rw[hdr]at hn
    unfold lcL at hn
    split at hn
    .rename_i hok
     obtain⟨δ3,e3,hn⟩:=Za.mp hn
     obtain⟨⟨kk,μ4⟩,e4,hn⟩:=Za.mp hn
     obtain⟨go,yl⟩:=io.go i W2 S.items[i] l2 ok2 hok (by simp[hlt])
     refine⟨go,Zc (Nat.lt_of_le_of_lt hy hlt) hz,λx H' y=>?_⟩
     obtain⟨W3,rfl,ok3,l3,m3,d3⟩:=yl x H' y
     refine⟨W3,bZ own δ capI,S.items[i],δ3,rfl,ok3,(Ar hd).mono' ((l1.trans l2).trans l3),d3,(by rw[m3];exact e3),λσ3 d3' hl3 ht3=>⟨fits_of hts hl3 ht3,?_⟩⟩
     refine⟨W3,δ3,kk,μ4,rfl,ok3,d3',(by rw[m3];exact e4),λW4 ok4 l4 m4=>?_⟩
     cases kk with
     |false=>
      rw[if_neg Zr]
      exact⟨S.items.length-(i+1),by omega,rfl,hlt,by omega,W4,zs,rs,rfl,ok4,(l2.trans l3).trans l4,cV.mono' d2 (l3.trans l4),by rw[m4];exact hn,hzs⟩
     |true=>
      rw[if_pos rfl]
      have hn':((fe δ3 μ4).bind λy=>(lcL S h tt fe (bZ own δ capI) (S.items.drop (i+1)) y.2).bind λys=>some (y.1::ys.1,ys.2))=some (rs,μ'):=hn
      obtain⟨⟨yd,μ5⟩,e5,hn'⟩:=Za.mp hn'
      obtain⟨⟨rs',μ6⟩,e6,e7⟩:=Za.mp hn'
      cases e7
      refine⟨W4,δ3,yd,μ5,rfl,ok4,d3'.mono' l4,(by rw[m4];exact e5),λv W5 ok5 l5 m5 d5=>?_⟩
      refine⟨S.items.length-(i+1),by omega,rfl,hlt,by rw[List.length_append];simp;omega,W5,zs++[yd],rs',rfl,ok5,((l2.trans l3).trans l4).trans l5,aC.append (cV.mono' d2 ((l3.trans l4).trans l5)) (aC.cons d5 aC.nil),by rw[m5];exact e6,by rw[List.append_assoc];exact hzs⟩
    .cases hn
   .left
    have hdr:S.items.drop i=[]:=List.drop_of_length_le (by omega)
    rw[hdr]at hn
    unfold lcL at hn
    split at hn
    .rename_i hok
     cases hn
     rw[List.append_nil]at hzs
     subst hzs
     exact⟨io.stop i W2 l2 ok2 hok (by omega),λl hl=>k l ys W2 ok2 (l1.trans l2) rfl hl d2⟩
    .cases hn
  .cases e2
theorem mG{i:Nat}{x:Str}{px spos:Pos}{ifs:List Expr}{fi:IF}{h:GF}{tt:TF}{fe:EF}{own cap:List Str}{capI ts:List Nat}{scope:Scope}(hN:X.N.Nodup)(hc:X.calm=true)(B:je X own cap capI scope)(hown:∀x∈own,(x,NameKind.free)∉scope.names)(hi:PID X tb tg iter fi)
  (hg:∀cs C fp s2 H2,PGD (gf X own cap scope cs C fp s2 H2) tb tg ts h) (ht:∀cs C fp s2 H2,Qp (gf X own cap scope cs C fp s2 H2) tb ifs tt) (he:∀cs C fp s2 H2,PD (gf X own cap scope cs C fp s2 H2) tb elt fe)
  (hts:∀i∈ts,i<own.length:=by decide) (hs:∀x,foldedSetIterable iter X.env x=pure x:=by intro _;rfl) (hi₀:X.N[i]? =some x:=by rfl) (hx₀:Loc X.env.scope x:=by first|exact Or.inl rfl|exact Or.inr rfl)
  (hsw:swapsWith (.ListComp elt [⟨tg,iter,ifs,0⟩] scope pos) (some (.Name x px)) spos.line X.env=pure true:=by rfl)
  (hf₀:X.fn x=true∨X.env.scope.names.lookup x=some .local:=by first|exact .inl rfl|exact .inr rfl|assumption):
  PSD X tb (.Assign [.Name x px] (.ListComp elt [⟨tg,iter,ifs,0⟩] scope pos) spos) (bz i (mFz (lLC own capI fi h tt fe))):=
 qu (WM (g:=tDG X.K tb ts h) (tt:=tDT X.K tb tt) (te:=tD X.K tb fe) hN hi₀ hx₀ hc B hown hi hg ht he hs hsw hf₀) λE σ H zq1=>by
  obtain⟨W,δ,fl,δ',μ',e,ok,hd,hf,k⟩:=zq1
  unfold bz at hf
  obtain⟨⟨d,μ1⟩,e1,e2⟩:=Za.mp hf
  cases e2
  unfold mFz at e1
  obtain⟨⟨ds,μ2⟩,e3,e4⟩:=Za.mp e1
  cases e4
  refine PQ hts ⟨W,δ,ds,_,e,ok,hd,e3,λp vs W1 ok1 l1 m1 hp r=>?_⟩
  exact lZ (Q:=λv H=>E.nx (σ.set i (some v)) H) ok1 (λv W' ok' l' m' d'=>k _ W' ok' (l1.trans l') (m'.trans m1) ((hd.mono' (l1.trans l')).set d')) r hp
end
theorem PL{P:Program}{w:World}{K:PySem.W.Frag}{mg:Str->Option Value}{base:Heap}{tb:List Addr}{x qual:Str}{st:Stmt}{f:Addr}{fd:FuncData}{T:Addr}{N ps:List Str}{n k:Nat}{g:SF}(F:dG K x qual st f fd T)(KB:K.In base)(S:aW N ps (aO st))(hps:ps.length=n)
  (hbody:∀(c:Addr)(A:Around)(outer:List Env)(s:Shared)(H:Hp)(E:XK),PySem.W.CodeHd base c T->iB k (A.deeper (envOfC qual (aO st) s.heap.objs.size f (.ref c)))->
   yS (FJ CX0 P w K mg base N qual (aO st) f (.ref c) A outer s H E).nox tb (kZ st) g):uv P w K mg base CX0 (k+1) f fd ps (spD K tb n (aJ N.length g)):=by
 obtain⟨oc,od,kV,doc,pm,an,c,ct,osl,rfl,lk,hcd,hhd⟩:=F.ex
 refine RV lk hcd S (λvs H Q E ⟨W,ds,d,μ',e,ok,dl,hl,_⟩=>by rw[<-aC.length dl,hl,hps]) λA outer s H vs Q E hr hsp=>?_
 obtain⟨W,ds,d,μ',e,ok,dl,hl,hf,k⟩:=hsp
 refine⟨_,(hbody c A outer s H E (hhd base KB) hr).nox,?_⟩
 unfold aJ at hf
 obtain⟨⟨fl,δ',μ1⟩,e1,e2⟩:=Za.mp hf
 refine⟨W,_,fl,δ',μ1,e,ok,?_,e1,λσ' W' ok' l' m' d'=>?_⟩
 .have hlen:=aC.length dl
  refine⟨by unfold L2.start;simp[hlen],λi y q=>?_⟩
  unfold L2.start
  by_cases hi:i<ds.length
  .rw[Zs (by simpa using hi),List.getElem?_map]at q
   cases q2:ds[i]? with
   |none=>rw[q2]at q;cases q
   |some z=>
    rw[q2]at q
    cases q
    obtain⟨v,ev,dv⟩:=aC.get dl q2
    exact⟨v,by rw[Zs (by rw[Zu,<-hlen];exact hi),List.getElem?_map,ev];rfl,dv⟩
  .rw[List.getElem?_append_right (by simpa using hi),List.getElem?_replicate]at q
   split at q<;>cases q
 .cases fl with
  |nx=>cases e2;exact k .non W' ok' l' m' qJ
  |rt d0=>cases e2;exactλv dv=>k v W' ok' l' m' dv
  |bk=>cases e2
  |ct=>cases e2
def Bl(vs:Array Value):Bool:=(match vs.getD 18 .none with| .str _ _=>true|_=>false)&&(match vs.getD 7 .none with| .int _ _=>true|_=>false)&&
 (match vs.getD 9 .none with| .bool _=>true|_=>false)&&(match vs.getD 10 .none with| .int _ _=>true|_=>false)
theorem Ie{K:PySem.W.Frag}{c P:Addr}{dd:Option Addr}{vs:Array Value}{sl:Array (Option Value)}(lc:K.lookup c=some ⟨.type "code",dd,.fields vs,sl⟩)(p:vs[11]? =some (.ref P))(q:Bl vs=true)(ne:(c != P)=true):PySem.W.codeHdIn K c P=true:=by
 unfold PySem.W.codeHdIn
 rw[lc]
 unfold Bl at q
 simp only[Zo]at q ⊢
 obtain⟨⟨⟨q1,q2⟩,q3⟩,q4⟩:=q
 refine⟨⟨⟨⟨⟨?_,q1⟩,q2⟩,q3⟩,q4⟩,ne⟩
 rw[p]
 exact beq_self_eq_true P
theorem Pu{K:PySem.W.Frag}{x qual:Str}{st:Stmt}{f c P:Addr}{oc:Value}{od an:Option Addr}{osl:Array (Option Value)}{kV doc pm ct:Value}{dd:Option Addr}{vs:Array Value}{sl:Array (Option Value)}
  (l:K.lookup f=some ⟨oc,od,.func (PySem.W.fnOf x qual (oH st) (kZ st) (aO st) .none kV doc pm an (.ref c) ct),osl⟩) (hc:PySem.W.codeIn K (.ref c) qual=true) (k:PySem.W.keepIn K (.ref f)=true)
  (lc:K.lookup c=some ⟨.type "code",dd,.fields vs,sl⟩) (p:vs[11]? =some (.ref P)) (q:Bl vs=true) (ne:(c != P)=true):dG K x qual st f (PySem.W.fnOf x qual (oH st) (kZ st) (aO st) .none kV doc pm an (.ref c) ct) P:=
 ⟨⟨oc,od,kV,doc,pm,an,c,ct,osl,rfl,l,hc,λh X=>PySem.W.codeHd_of_K X (Ie lc p q ne)⟩,k⟩
theorem Vy{K:PySem.W.Frag}{x:Str}{f c P:Addr}{oc oc':Value}{od dd:Option Addr}{fd:FuncData}{osl sl:Array (Option Value)}{vs:Array Value}(a:PySem.W.nsIn K mainGlobals x=some (some (.ref f)))(l:K.lookup f=some ⟨oc,od,.func fd,osl⟩)(hc:fd.code= .ref c)
  (lc:K.lookup c=some ⟨oc',dd,.fields vs,sl⟩) (p:vs[11]? =some (.ref P)):PySem.W.tabIn K x=some (c,P):=by
 unfold PySem.W.tabIn
 rw[a]
 simp only[l,hc,lc,p]
theorem sG{q:Program}{lo:List Str}{mean:ExcName->Option Value}{mg mb:Str->Option Value}{h:Heap}{K:PySem.W.Frag}{x:Str}{c P:Addr}(T:Top q lo mean mg mb h)(X:K.In h)(hr:((recsOf q).find? (λe=>e.name==x)).isSome=true)(ht:PySem.W.tabIn K x=some (c,P)):PySem.W.CodeHd h c P/\h.get? P=some (PySem.W.tabObj #[]):=by
 obtain⟨d,hd⟩:=Option.isSome_iff_exists.mp hr
 exact PySem.W.tab_of T X hd ht
end L3
namespace L2
open PySem PySem.Spec PyProof.Rows HT
section
variable {prog:Program} {w:World} {A:Around} {E:Value->Shared->Prop} {s:Shared}
theorem qX{t sl:Addr}{items:Array Value}{vl vu:Value}{lo hi:Option Int}{Q:Value->Shared->Prop}(ht:IsTup s.heap t items)(hs:s.heap.IsSliceOf sl vl vu .none)(pl:IsPart vl lo)(pu:IsPart vu hi)
  (hw:sIx items.size 0 lo=0/\sIx items.size items.size hi=items.size) (h:Q (.ref t) s):wpAny (model prog w) A (getItem (.ref t) (.ref sl)) Q E s:=by
 obtain⟨os,hos,hcs,hds⟩:=id hs
 have hTs:s.TypeIs (.ref sl) "slice":=⟨os,hos,hcs⟩
 unfold getItem
 try with_reducible refine wpAny_holding ?_
 first|refine wpAny_bind (wpAny_pure ?_)|skip
 refine wpAny_bind (wpAny_sequenceKey ht.typeIs (by decide) ?_)
 refine wpAny_bind (wpAny_callSpecial?_slot (name:=Str.ofString "__getitem__") ht.typeIs PyProof.Rows.slot_tuple_getitem
  (wpAny_call_entry PyProof.Rows.slot_tuple_getitem ht.typeIs entry_tuple_getitem ?_ (args_tuple_getitem _ _)))
 show wpAny _ _ (Builtin.Tuple.tupleItemsOf (.ref t) >>= _) _ _ s
 refine wpAny_bind (tupleItemsOf_ ht ?_)
 refine wpAny_bind (wpAny_typeOf hTs ?_)
 rw[if_pos (by decide)]
 refine wpAny_bind (nF hs pl pu ?_)
 have hyes:(((sIx items.size 0 lo:Nat):Int)==0&&(1:Int)==1&&(sIx items.size items.size hi-sIx items.size 0 lo)==items.size)=true:=by
  rw[hw.1,hw.2]
  simp
 show wpAny _ _ (if(((sIx items.size 0 lo:Nat):Int)==0&&(1:Int)==1&&(sIx items.size items.size hi-sIx items.size 0 lo)==items.size)=true then _ else _) _ _ s
 rw[if_pos hyes]
 refine wpAny_bind (m:=Builtin.Tuple.tupleIsExact (.ref t)) (wpAny_bind (wpAny_typeOf ht.typeIs (wpAny_pure ?_)))
 rw[if_pos (by decide)]
 refine wpAny_bind (wpAny_rule ?_)
 first
  |exact wpAny_pure ⟨_,rfl,wpAny_pure h⟩
  |exact wpAny_bind (wpAny_pure (wpAny_pure ⟨_,rfl,wpAny_pure h⟩))
  |exact wpAny_pure (wpAny_pure h)
end
section
variable {X:Cx}
def rSlW(K:PySem.W.Frag):V->Option Int->Option Int->Hp->VK->Prop:=λx lo hi H Q=>∃a xs,x= .ref a/\SqT K H a xs/\
 (HT.sIx xs.length 0 lo=0/\HT.sIx xs.length xs.length hi=xs.length)/\Q (.ref a) H
theorem Rf:SlR X (rSlW X.K):=by
 intro pins s σ H x v vl vu lo hi sl Q I rx hs pl pu h
 obtain⟨a,xs,rfl,hx,hw,q⟩:=h
 cases rx
 obtain⟨its,r,ht,hz⟩:=I.tuple hx
 have hlen:its.toArray.size=xs.length:=by rw[Zd];exact r.length.symm
 refine⟨"tuple",_,PyProof.Rows.slot_tuple_getitem.lookup,ht.typeIs,?_⟩
 exact qX ht hs pl pu (by rw[hlen];exact hw) ⟨.ref a,H,I,rfl,q⟩
end
end L2
namespace L3
open PySem PySem.Spec PyProof.Rows L2
abbrev PF:=En->Mu->Option (Option Int×Mu)
def tDO(K:PySem.W.Frag)(tb:List Addr)(f:PF):TO:=λσ H Q=>∃W δ i μ',W.H=H/\WOk K tb W/\kI K tb W δ σ/\f δ W.mu=some (i,μ')/\∀W',WOk K tb W'->Le tb W W'->W'.mu=μ'->Q i W'.H
def POD(X:Cx)(tb:List Addr)(e:Option Expr)(f:PF):Prop:=PO X e (tDO X.K tb f)
theorem Ss{X:Cx}{e:Option Expr}{t t':TO}(h:PO X e t)(k:∀σ H Q,t' σ H Q->t σ H Q):PO X e t':=λpins s σ H Q I hq=>h pins s σ H Q I (k σ H Q hq)
def fNo:PF:=λ_ μ=>some (none,μ)
def fAt(f:EF):PF:=λδ μ=>(f δ μ).bind λr=>match r.1 with
 | .int i=>some (some i,r.2)
 |_=>none
def cutD(ds:List D)(lo hi:Option Int):List D:=(ds.drop (HT.sIx ds.length 0 lo)).take (HT.sIx ds.length ds.length hi-HT.sIx ds.length 0 lo)
def oSl(x:D)(lo hi:Option Int)(μ:Mu):Option (D×Mu):=match x with
 | .tup ds=>some (.tup (cutD ds lo hi),μ)
 | .lst ds=>some (.lst (cutD ds lo hi),μ)
 | .ro ds=>some (.lst (cutD ds lo hi),μ)
 | .cell n=>match μ[n]? with
  |some (some ds)=>some (.lst (cutD ds lo hi),μ)
  |_=>none
 |_=>none
def mSl(f:EF)(fl fh:PF):EF:=λδ μ=>(f δ μ).bind λr=>(fl δ r.2).bind λl=>(fh δ l.2).bind λu=>oSl r.1 l.1 u.1 u.2
section
variable {X:Cx} {tb:List Addr} {e:Expr} {lo hi:Option Expr} {f:EF} {fl fh:PF} {pos p2:Pos}
theorem fH:POD X tb none fNo:=Ss Qo λσ H Q zq1=>by
 obtain⟨W,δ,i,μ',e,ok,hd,hf,h⟩:=zq1
 subst e;cases hf
 exact h W ok (Le.refl _) rfl
theorem fD(h:PD X tb e f):POD X tb (some e) (fAt f):=Ss (Oo h) λσ H Q zq2=>by
 obtain⟨W,δ,i,μ',e,ok,hd,hf,h⟩:=zq2
 unfold fAt at hf
 obtain⟨⟨x,μ1⟩,e1,e2⟩:=Za.mp hf
 cases x with
 |int j=>
  cases e2
  exact⟨W,δ,_,_,e,ok,hd,e1,λv W1 ok1 l1 m1 d1=>⟨j,bQ d1,h W1 ok1 l1 m1⟩⟩
 |_=>cases e2
theorem wy{K:PySem.W.Frag}{W:Wd}{ds:List D}{vs:List V}{l h:Option Int}(r:cV K tb W ds vs):cV K tb W (cutD ds l h) (Dl vs l h):=by
 unfold cutD Dl
 rw[<-aC.length r]
 exact aC.take _ (aC.drop _ r)
theorem fJ(he:PD X tb e f)(hl:POD X tb lo fl)(hh:POD X tb hi fh):PD X tb (.Subscript e (.Slice lo hi none p2) pos) (mSl f fl fh):=
 fU (Mm (TY.or (Rf.or Qy)) he hl hh) λσ H Q zq3=>by
  obtain⟨W,δ,d,μ',e,ok,hd,hf,h⟩:=zq3
  unfold mSl at hf
  obtain⟨⟨x,μ1⟩,e1,hf⟩:=Za.mp hf
  obtain⟨⟨l,μ2⟩,e2,hf⟩:=Za.mp hf
  obtain⟨⟨u,μ3⟩,e3,hf⟩:=Za.mp hf
  refine⟨W,δ,x,μ1,e,ok,hd,e1,λv W1 ok1 l1 m1 d1=>⟨W1,δ,l,μ2,rfl,ok1,hd.mono' l1,(by rw[m1];exact e2),λW2 ok2 l2 m2=>⟨W2,δ,u,μ3,rfl,ok2,hd.mono' (l1.trans l2),(by rw[m2];exact e3),λW3 ok3 l3 m3=>?_⟩⟩⟩
  have d3:=Den.mono' d1 (l2.trans l3)
  have k:∀v W',WOk X.K tb W'->Le tb W3 W'->W'.mu=W3.mu->Den X.K tb W' d v->W3.mu=μ'->Q v W'.H:=λv W' ok' l' m' d' q=>h v W' ok' (((l1.trans l2).trans l3).trans l') (m'.trans q) d'
  cases x with
  |tup ds=>
   obtain⟨a,xs,rfl,q,r⟩:=iz d3
   cases hf
   by_cases hw:HT.sIx ds.length 0 l=0/\HT.sIx ds.length ds.length u=ds.length
   .have e:cutD ds l u=ds:=by unfold cutD;rw[hw.1,hw.2];simp
    exact .inr (.inl ⟨a,xs,rfl,SqT.fz q,by rw[<-aC.length r];exact hw,k (.ref a) W3 ok3 (Le.refl _) rfl (by rw[e];exact d3) m3⟩)
   .exact .inl ⟨a,xs,rfl,SqT.fz q,by rw[<-aC.length r];exact hw,λp hp=>qN ok3 (λv W' ok' l' m' d'=>k v W' ok' l' m' d' m3) (wy r) hp⟩
  |lst ds=>
   obtain⟨a,xs,rfl,q,r⟩:=mQ d3
   cases hf
   exact .inr (.inr ⟨a,xs,rfl,SqL.fz q,λp hp=>lZ ok3 (λv W' ok' l' m' d'=>k v W' ok' l' m' d' m3) (wy r) hp⟩)
  |ro ds=>
   obtain⟨a,xs,rfl,q,r⟩:=zu d3
   cases hf
   exact .inr (.inr ⟨a,xs,rfl,SqL.fz q,λp hp=>lZ ok3 (λv W' ok' l' m' d'=>k v W' ok' l' m' d' m3) (wy r) hp⟩)
  |cell n=>
   obtain⟨a,rfl,q⟩:=jo d3
   have hf:(match μ3[n]? with|some (some ds)=>some (D.lst (cutD ds l u),μ3)|_=>none)=some (d,μ'):=hf
   cases e4:μ3[n]? with
   |none=>rw[e4]at hf;cases hf
   |some o=>
    rw[e4]at hf
    cases o with
    |none=>cases hf
    |some ds=>
     cases hf
     obtain⟨xs,ex,r⟩:=ok3.cont n a ds q (by rw[m3];exact e4)
     exact .inr (.inr ⟨a,xs,rfl,SqL.of ex,λp hp=>lZ ok3 (λv W' ok' l' m' d'=>k v W' ok' l' m' d' m3) (wy r) hp⟩)
  |_=>cases hf
end
theorem Ij{zs:List V}{ws:List Value}(r:Vals zs ws):∀(π:List Nat),Vals (π.map λi=>zs.getD i .non) (π.map λi=>ws.getD i .none)
 | []=>.nil
 |i::π=>by
  refine .cons ?_ (Ij r π)
  show L2.RelV (zs.getD i V.non) (ws.getD i Value.none)
  cases e:zs[i]? with
  |none=>
   have e2:=Vals.none_of r e
   rw[List.getD_eq_getElem?_getD,List.getD_eq_getElem?_getD,e,e2]
   rfl
  |some v=>
   obtain⟨u,e2,rv⟩:=Vals.get r e
   rw[List.getD_eq_getElem?_getD,List.getD_eq_getElem?_getD,e,e2]
   exact rv
theorem Dk{K:PySem.W.Frag}{tb:List Addr}{W:Wd}{ds:List D}{vs:List V}(r:cV K tb W ds vs):∀(π:List Nat),cV K tb W (π.map λi=>ds.getD i .non) (π.map λi=>vs.getD i .non)
 | []=>aC.nil
 |i::π=>by
  refine aC.cons ?_ (Dk r π)
  show bL K (Wd.fz tb W) W.ad (ds.getD i D.non) (vs.getD i V.non)
  have hl:=aC.length r
  cases e:ds[i]? with
  |none=>
   have e2:vs[i]? =none:=by
    rw[List.getElem?_eq_none_iff]at e ⊢
    omega
   rw[List.getD_eq_getElem?_getD,List.getD_eq_getElem?_getD,e,e2]
   exact qJ
  |some v=>
   obtain⟨u,e2,rv⟩:=aC.get r e
   rw[List.getD_eq_getElem?_getD,List.getD_eq_getElem?_getD,e,e2]
   exact rv
theorem HS{X:Cx}:OpR X (compareOp .IsNot) (λx y H Q=>∃b c,x= .bl b/\y= .bl c/\Q (.bl (b != c)) H):=by
 intro pins s σ H x y v u Q I rx ry h
 obtain⟨b,c,rfl,rfl,q⟩:=h
 cases rx;cases ry
 exact isnot_bool ⟨.bl (b != c),H,I,rfl,q⟩
def uL:D->Bool
 | .non=>true
 |_=>false
def oIs:O2
 | .bl b,.bl c,μ=>some (.bl (b==c),μ)
 |x,.non,μ=>some (.bl (uL x),μ)
 |_,_,_=>none
def sr:O2
 | .bl b,.bl c,μ=>some (.bl (b != c),μ)
 |x,.non,μ=>some (.bl (!uL x),μ)
 |_,_,_=>none
theorem Io{K:PySem.W.Frag}{tb:List Addr}{W:Wd}{x:D}{v:V}(h:Den K tb W x v):decide (v= .non)=uL x:=by
 cases x with
 |non=>rw[nO h];rfl
 |bl b=>rw[jM h];rfl
 |int i=>rw[bQ h];rfl
 |str z=>rw[lK h];rfl
 |tup ds=>obtain⟨a,xs,rfl,_⟩:=iz h;rfl
 |lst ds=>obtain⟨a,xs,rfl,_⟩:=mQ h;rfl
 |ro ds=>obtain⟨a,xs,rfl,_⟩:=zu h;rfl
 |dic ds=>obtain⟨a,xs,rfl,_⟩:=Lz h;rfl
 |cell n=>obtain⟨a,rfl,_⟩:=jo h;rfl
theorem Bd{x y d:D}{μ μ':Mu}(h:sr x y μ=some (d,μ')):μ'=μ/\((∃b c,x= .bl b/\y= .bl c/\d= .bl (b != c))∨(y= .non/\d= .bl (!uL x))):=by
 unfold sr at h
 split at h
 .cases h;exact⟨rfl,.inl ⟨_,_,rfl,rfl,rfl⟩⟩
 .cases h;exact⟨rfl,.inr ⟨rfl,rfl⟩⟩
 .cases h
theorem Ke{X:Cx}{tb:List Addr}:OpD X tb (compareOp .IsNot) sr:=⟨_,HS.or PB,λW x y v u d μ' Q ok dx dy ho h=>by
 obtain⟨rfl,⟨b,c,rfl,rfl,rfl⟩|⟨rfl,rfl⟩⟩:=Bd ho
 .exact .inl ⟨b,c,jM dx,jM dy,put ok h fG⟩
 .refine .inr ⟨nO dy,?_⟩
  rw[Io dx]
  exact put ok h fG⟩
end L3
namespace L2
open PySem PySem.Spec PyProof.Rows
section
variable {κ:Type} [DecidableEq κ]
def putK(kvs:List (κ×V))(k:κ)(v:V):List (κ×V):=
 if(kvs.any λkv=>decide (kv.1=k))=true then kvs.map (λkv=>if kv.1=k then(kv.1,v)else kv)else kvs++[(k,v)]
theorem KV.any{kvs:List (κ×V)}{vs:List (κ×Value)}(r:KV kvs vs)(k:κ):(kvs.any λkv=>decide (kv.1=k))=vs.any λkv=>decide (kv.1=k):=by
 unfold KV at r
 induction r with
 |nil=>rfl
 |cons h t ih=>rw[List.any_cons,List.any_cons,ih,h.1]
theorem KV.repl{kvs:List (κ×V)}{vs:List (κ×Value)}(r:KV kvs vs)(k:κ){y:V}{u:Value}(ry:RelV y u):
  KV (kvs.map λkv=>if kv.1=k then(kv.1,y)else kv) (vs.map λkv=>if kv.1=k then(kv.1,u)else kv):=by
 unfold KV at r ⊢
 induction r with
 |nil=>exact .nil
 | @cons p q ps qs h t ih=>
  rw[Zj,Zj]
  refine .cons ?_ ih
  obtain⟨h1,h2⟩:=h
  by_cases e:p.1=k
  .rw[if_pos e,if_pos (h1.symm.trans e)];exact⟨h1,ry⟩
  .rw[if_neg e,if_neg (λz=>e (h1.trans z))];exact⟨h1,h2⟩
theorem KV.put{kvs:List (κ×V)}{vs:List (κ×Value)}(r:KV kvs vs)(k:κ){y:V}{u:Value}(ry:RelV y u):KV (putK kvs k y) (stored vs k u):=by
 unfold putK stored
 rw[r.any k]
 by_cases e:(vs.any λkv=>decide (kv.1=k))=true
 .rw[if_pos e,if_pos e];exact r.repl k ry
 .rw[if_neg e,if_neg e];exact Paired.snoc r ⟨rfl,ry⟩
end
theorem Xn{P:Program}{w:World}{k:Key}{u:Value}(r:RelV (kV k) u):(jW P w).is k u=true:=by
 cases k with
 |inl i=>obtain⟨t,e⟩:=(show∃t,u=Value.int i t from r);subst e;exact CW P w i t
 |inr x=>obtain⟨t,e⟩:=(show∃t,u=Value.str x t from r);subst e;exact Du P w x t
section
variable {X:Cx} {pins:List (Addr×Obj)} {σ:St} {H:Hp} {s:Shared} {a:Addr} {y v:V} {u r:Value} {o:Option V} {A:Around} {E:Value->Shared->Prop}
theorem Inv.big(I:Inv X pins σ H s):sysModules<s.heap.objs.size:=by
 have h:mainGlobals<s.heap.objs.size:=(I.mod.glob.keeps I.bk).lt
 exact Nat.lt_trans (by decide) h
end
theorem Kh{P:Program}{w:World}{H:Hp}(h:Heap)(hb:sysModules<h.objs.size):jB P w H (h.push { cls:=.type "dict",data:=.dict #[] }) h.objs.size (.dK []):=
 ⟨Nat.zero_le _,beq_eq_false_iff_ne.mpr (Ne.symm (Zk hb)),[],.nil,Heap.DictOf.new h⟩
def VB:TE:=λ_ H Q=>∀p,H p=none->Q (.ref p) (upd H p (.dK []))
section
variable {X:Cx} {pos:Pos}
theorem Mj:PE X (.Dict [] [] pos) VB:=λpins s σ H Q I h=>
 wpAny_Dict_empty ⟨.ref s.heap.objs.size,_,I.laid (a:=s.heap.objs.size) (o:=.dK []) (t':=s.toks) (λ_ _ q=>Zb _ q) (Zg _) (Kh s.heap I.big),rfl,h _ (I.hok.fresh (Zg _))⟩
end
def Ez:List (TE×TE)->St->Hp->(List (V×V)->Hp->Prop)->Prop
 | [],_,H,Q=>Q [] H
 |(tk,tv)::r,σ,H,Q=>tk σ H λx H1=>tv σ H1 λy H2=>Ez r σ H2 λps H3=>Q ((x,y)::ps) H3
abbrev VV:List (V×V)->List (Value×Value)->Prop:=Paired λp q=>RelV p.1 q.1/\RelV p.2 q.2
def PPs(X:Cx)(pos:Pos)(keys:List (Option Expr))(values:List Expr)(trs:List (TE×TE)):Prop:=
 ∀(pins:List (Addr×Obj))(s:Shared)(σ:St)(H:Hp)(Q:List (V×V)->Hp->Prop),Inv X pins σ H s->Ez trs σ H Q->
  wpAny (model X.prog X.w) X.A (evalPairs (pairTrees keys values X.env pos)) (λvs s'=>∃ps H',Inv X pins σ H' s'/\VV ps vs/\Q ps H') X.xe s
theorem Ql{X:Cx}{pos:Pos}:PPs X pos [] [] []:=λpins s σ H Q I h=>pairTrees_nil_walk ⟨[],H,I,.nil,h⟩
theorem NK{X:Cx}{pos:Pos}{k v:Expr}{ks:List (Option Expr)}{vs:List Expr}{tk tv:TE}{trs:List (TE×TE)}(hk:PE X k tk)(hv:PE X v tv)(hr:PPs X pos ks vs trs):
  PPs X pos (some k::ks) (v::vs) ((tk,tv)::trs):=λpins s σ H Q I h=>
 pairTrees_cons_walk (thn (hk pins s σ H _ I h) λu s1 ⟨x,H1,I1,rx,q1⟩=>thn (hv pins s1 σ H1 _ I1 q1) λw2 s2 ⟨y,H2,I2,ry,q2⟩=>
  thn (hr pins s2 σ H2 _ I2 q2) λws s3 ⟨ps,H3,I3,rel,q3⟩=>⟨(x,y)::ps,H3,I3,.cons ⟨rx,ry⟩ rel,q3⟩)
def Gh(kvs more:List (Key×V)):List (Key×V):=more.foldl (λacc kv=>putK acc kv.1 kv.2) kvs
theorem KV.merge:∀{more:List (Key×V)}{rs:List (Key×Value)}{kvs:List (Key×V)}{vs:List (Key×Value)},KV more rs->KV kvs vs->KV (Gh kvs more) (merged vs rs):=by
 intro more rs kvs vs r
 unfold KV at r
 induction r generalizing kvs vs with
 |nil=>intro q;exact q
 | @cons p q ps qs h t ih=>
  intro r0
  have e:KV (putK kvs p.1 p.2) (stored vs q.1 q.2):=by
   have:=r0.put p.1 h.2
   rw[<-h.1];exact this
  exact ih e
theorem yf{P:Program}{w:World}:∀{kvs:List (Key×V)}{ws:List (Value×Value)},VV (kvs.map λkv=>(kV kv.1,kv.2)) ws->∃rs,Carries (jW P w) ws rs/\KV kvs rs
 | [],_,r=>by rw[List.map_nil]at r;cases r;exact⟨[],True.intro,.nil⟩
 |p::kvs,_,r=>by
  rw[Zj]at r
  cases r with
  | @cons a b as bs h t=>
   obtain⟨rs,c,q⟩:=yf (P:=P) (w:=w) t
   obtain⟨b1,b2⟩:=b
   exact⟨(p.1,b2)::rs,⟨Xn h.1,rfl,c⟩,.cons ⟨rfl,h.2⟩ q⟩
section
variable {X:Cx} {pins:List (Addr×Obj)} {σ:St} {H H2:Hp} {s s2:Shared} {h':Heap} {p:Addr} {o:HO} {ob:Obj} {t':Nat}
theorem Inv.pin1(I:Inv X pins σ H s)(hd:∀v,ob.data≠ .cell v)(hfr:ob.isFreed=false):Inv X (pins++[(s.heap.objs.size,ob)]) σ H { s with heap:=s.heap.push ob}:=by
 have I1:Inv X pins σ H { s with heap:=s.heap.push ob}:=I.kept (t':=s.toks) λb u e=>Zb _ e
 refine I1.pins_of λq hq=>?_
 rcases Zm.mp hq with z|z
 .exact I1.pin q (Zn _ z)
 .have e:q=(s.heap.objs.size,ob):=by simpa using z
  subst e
  exact⟨Zf _ hfr,I.hok.fresh (Zg _),Nat.ne_of_gt I.lt,I.nofs (Zg _),hd⟩
theorem Inv.track(I0:Inv X pins σ H s)(hp:s.heap.objs.size<=p)(I:Inv X (pins++[(p,ob)]) σ H2 s2)(k:∀b u,b≠p->s2.heap.get? b=some u->h'.get? b=some u)(he:∃u,h'.get? p=some u)(new:jB X.prog X.w (upd H2 p o) h' p o):
  Inv X pins σ (upd H2 p o) { s2 with heap:=h',toks:=t'}:=by
 obtain⟨h1,h2,h3,h4,h5⟩:=I.pin (p,ob) (by simp)
 have J:Inv X pins σ H2 s2:=I.pins_of λq hq=>I.pin q (by simp only[Zm];exact .inr (.inl hq))
 have np:∀b u,H2 b=some u->b≠p:=λb u e z=>by rw[z,h2]at e;cases e
 refine J.step (g':=s2.gens) (d':=s2.drawn) (t':=t') (ch:=[p]) (λb hb=>?_) (λb o _ _ hc e _=>k b o (λz=>hc (by simp[z])) e) (λb o _ _ hc e _=>⟨o.slots,k b o (λz=>hc (by simp[z])) e⟩)
  (λb o hc e n=>?_) (λb o hc e=>⟨o,k b o (λz=>hc (by simp[z])) e⟩) (λb xs e=>?_) (λb o u e=>?_) (λb ps e=>⟨#[],?_⟩) (λm hm=>?_) (λb u e=>?_) J.bare.again
 .have e:b=p:=by simpa using hb
  subst e
  refine⟨.inr (Zl I0.sz hp),h3,λx c e z=>?_,λq hq z=>?_⟩
  .obtain⟨v,oc,hc,_⟩:=I0.cell x c e
   have:=Ze hc
   rw[z]at this
   exact absurd this (Nat.not_lt.mpr hp)
  .have:=Ze (I0.pin q hq).1
   rw[z]at this
   exact absurd this (Nat.not_lt.mpr hp)
 .rw[aX (λz=>hc (by simp[z]))];exact n
 .rw[aX (np b _ e)];exact e
 .rw[aX (np b _ e)];exact e
 .rw[aX (np b _ e),e];simp
 .obtain⟨o,es,ep,ho,r⟩:=hm
  exact⟨o,es,ep,k _ o (Ne.symm h3) ho,r⟩
 .by_cases hb:b=p
  .subst hb
   rw[gV]at e
   cases e
   exact new
  .rw[aX hb]at e
   refine(J.hok b u e).stay (λc v hc q=>k c v ?_ q) (λc q=>by rw[aX (np c _ q)];exact q) λc xs q=>by rw[aX (np c _ q)];exact q
   rcases hc with z|z
   .rw[z];exact hb
   .exact np c _ z
end
def Tz(tk tv:TE):TE:=λσ H Q=>tk σ H λx H1=>tv σ H1 λy H2=>∃k:Key,x=kV k/\∀p,H2 p=none->Q (.ref p) (upd H2 p (.dK [(k,y)]))
theorem Kc{X:Cx}{pos:Pos}{k v:Expr}{tk tv:TE}(hk:PE X k tk)(hv:PE X v tv):PE X (.Dict [some k] [v] pos) (Tz tk tv):=by
 intro pins s σ H Q I q
 have I1:=I.pin1 (ob:={ cls:=.type "dict",data:=.dict #[] }) (λv z=>by cases z) rfl
 have h:=NK (pos:=pos) hk hv Ql
 refine wpAny_Dict_walk (knd:=jW X.prog X.w) rfl rfl (by simp) (by simp) (thn (h (pins++[(s.heap.objs.size,{ cls:=.type "dict",data:=.dict #[] })]) _ σ H (λps H2=>∃(k:Key)(y:V),ps=[(kV k,y)]/\∀p,H2 p=none->Q (.ref p) (upd H2 p (.dK [(k,y)]))) I1 ?_) λws s2 ⟨ps,H2,I2,rel,k,y,ep,q2⟩=>?_)
 .have:Ez [(tk,tv)] σ H (λps H2=>∃(k:Key)(y:V),ps=[(kV k,y)]/\∀p,H2 p=none->Q (.ref p) (upd H2 p (.dK [(k,y)])))=tk σ H λx H1=>tv σ H1 λy H2=>∃(k:Key)(y':V),[(x,y)]=[(kV k,y')]/\∀p,H2 p=none->Q (.ref p) (upd H2 p (.dK [(k,y')])):=rfl
  rw[this]
  have e2:(λx H1=>tv σ H1 λy H2=>∃k:Key,x=kV k/\∀p,H2 p=none->Q (.ref p) (upd H2 p (.dK [(k,y)])))=(λx H1=>tv σ H1 λy H2=>∃(k:Key)(y':V),[(x,y)]=[(kV k,y')]/\∀p,H2 p=none->Q (.ref p) (upd H2 p (.dK [(k,y')]))):=by
   funext x H1
   congr 1
   funext y H2
   apply propext
   constructor
   .rintro⟨k,rfl,h⟩
    exact⟨k,y,rfl,h⟩
   .rintro⟨k,y',e,h⟩
    simp only[List.cons.injEq,Prod.mk.injEq,and_true]at e
    obtain⟨rfl,rfl⟩:=e
    exact⟨k,rfl,h⟩
  rw[<-e2]
  exact q
 .subst ep
  obtain⟨rs,c,rk⟩:=yf (P:=X.prog) (w:=X.w) (kvs:=[(k,y)]) rel
  obtain⟨h1,h2,_⟩:=I2.pin (s.heap.objs.size,{ cls:=.type "dict",data:=.dict #[] }) (by simp)
  have dd:s2.heap.DictOf (jW X.prog X.w) s.heap.objs.size []:=by
   obtain⟨o,es,ep,e1,e2,e3,e4⟩:=Heap.DictOf.new (knd:=jW X.prog X.w) s.heap
   rw[Zf _ rfl]at e1
   cases e1
   exact⟨_,es,ep,h1,e2,e3,e4⟩
  refine⟨rs,c,dd,λh' dd' hs=>⟨.ref s.heap.objs.size,_,?_,rfl,q2 _ h2⟩⟩
  have he:∃q,h'.get? s.heap.objs.size=some q:=let⟨q,_,_,hq,_⟩:=dd';⟨q,hq⟩
  have hm:KV (Gh [] [(k,y)]) (merged [] rs):=rk.merge .nil
  have e:Gh [] [(k,y)]=[(k,y)]:=rfl
  rw[e]at hm
  refine I.track (Zg _) I2 (λb u hb e=>(hs.2 b hb).trans e) he (show jB X.prog X.w _ h' _ (.dK [(k,y)])from⟨?_,?_,_,hm,dd'⟩)
  .show 1<=sizeLine
   rw[sizeLine_eq];decide
  .exact beq_eq_false_iff_ne.mpr (Ne.symm (Zk I.big))
end L2
namespace L3
open PySem PySem.Spec PyProof.Rows L2
def Tf:D->Option Key
 | .int i=>some (.inl i)
 | .str x=>some (.inr x)
 |_=>none
theorem Rp{K:PySem.W.Frag}{tb:List Addr}{W:Wd}{x:D}{v:V}{k:Key}(h:Den K tb W x v)(e:Tf x=some k):v=kV k:=by
 cases x with
 |int i=>cases e;exact bQ h
 |str z=>cases e;exact lK h
 |_=>cases e
def MN:EF:=λ_ μ=>some (.dic [],μ)
def zW(fk fv:EF):EF:=λδ μ=>(fk δ μ).bind λr=>(fv δ r.2).bind λq=>(Tf r.1).map λk=>(.dic [(k,q.1)],q.2)
section
variable {X:Cx} {tb:List Addr} {k v:Expr} {fk fv:EF} {pos:Pos}
theorem Hn{K:PySem.W.Frag}{W:Wd}{Q:VK}{kvs:List (Key×D)}{ps:List (Key×V)}{p:Addr}(ok:WOk K tb W)(h:∀v W',WOk K tb W'->Le tb W W'->W'.mu=W.mu->Den K tb W' (.dic kvs) v->Q v W'.H)(r:iW K (W.fz tb) W.ad kvs ps)(hp:W.H p=none):Q (.ref p) (upd W.H p (.dK ps)):=by
 obtain⟨ok',le,e⟩:=ok.alloc (o:=.dK ps) hp
 refine h (.ref p) _ ok' le rfl ?_
 show bL _ _ _ _ _
 unfold bL
 exact⟨p,ps,rfl,e,iW.mono le.same le.ad _ _ r⟩
theorem QL:PD X tb (.Dict [] [] pos) MN:=fU Mj λσ H Q zq1=>by
 obtain⟨W,δ,d,μ',e,ok,hd,hf,h⟩:=zq1
 subst e;cases hf
 exactλp hp=>Hn ok h (by unfold iW;rfl) hp
theorem Hd(hk:PD X tb k fk)(hv:PD X tb v fv):PD X tb (.Dict [some k] [v] pos) (zW fk fv):=fU (Kc hk hv) λσ H Q zq2=>by
 obtain⟨W,δ,d,μ',e,ok,hd,hf,h⟩:=zq2
 unfold zW at hf
 obtain⟨⟨x,μ1⟩,e1,hf⟩:=Za.mp hf
 obtain⟨⟨y,μ2⟩,e2,hf⟩:=Za.mp hf
 obtain⟨k,e3,e4⟩:=Zp.mp hf
 cases e4
 refine⟨W,δ,x,μ1,e,ok,hd,e1,λv W1 ok1 l1 m1 d1=>⟨W1,δ,y,_,rfl,ok1,hd.mono' l1,(by rw[m1];exact e2),λu W2 ok2 l2 m2 d2=>⟨k,Rp d1 e3,λp hp=>?_⟩⟩⟩
 exact Hn ok2 (λv' W' ok' l' m' d'=>h v' W' ok' ((l1.trans l2).trans l') (m'.trans m2) d') (by unfold iW;exact⟨_,_,rfl,⟨rfl,d2⟩,by unfold iW;rfl⟩) hp
end
def KC(f:EF):EF:=λδ μ=>(f δ μ).bind λr=>match r.1 with
 | .cell n=>(r.2.getD n none).map λds=>(.lst ds,r.2.set n none)
 |d=>some (d,r.2)
theorem Ut{X:Cx}{tb:List Addr}{e:Expr}{f:EF}(h:PD X tb e f):PD X tb e (KC f):=
 fU h λσ H Q zq1=>by
  obtain⟨W,δ,d,μ',e,ok,hd,hf,k⟩:=zq1
  unfold KC at hf
  obtain⟨⟨x,μ1⟩,e1,e2⟩:=Za.mp hf
  refine⟨W,δ,x,μ1,e,ok,hd,e1,λv W1 ok1 l1 m1 d1=>?_⟩
  cases x with
  |cell n=>
   obtain⟨ds,e3,e4⟩:=Zp.mp e2
   cases e4
   obtain⟨a,rfl,ea⟩:=jo d1
   have em:W1.mu[n]? =some (some ds):=by
    rw[m1]
    rw[List.getD_eq_getElem?_getD]at e3
    cases q:μ1[n]? with
    |none=>rw[q]at e3;cases e3
    |some z=>rw[q]at e3;exact congrArg some e3
   obtain⟨ok2,l2,d2⟩:=ok1.freeze ea em
   exact k _ ⟨W1.H,W1.ad,W1.mu.set n none⟩ ok2 (l1.trans l2) (by show W1.mu.set n none=_;rw[m1]) d2
  |_=>cases e2;exact k v W1 ok1 l1 m1 d1
mutual
def cLt(m:Nat):D->Bool
 | .tup ds=>lY m ds
 | .lst ds=>lY m ds
 | .ro ds=>lY m ds
 | .dic kvs=>An m kvs
 | .cell n=>decide (n<m)
 |_=>true
def lY(m:Nat):List D->Bool
 | []=>true
 |d::ds=>cLt m d&&lY m ds
def An(m:Nat):List (Key×D)->Bool
 | []=>true
 |p::ds=>cLt m p.2&&An m ds
end
section
variable {K:PySem.W.Frag} {F F':Hp} {ad:List Addr} {m:Nat}
mutual
theorem bL.cut(s:pD F F'):∀(d:D)(v:V),cLt m d=true->bL K F ad d v->bL K F' (ad.take m) d v
 | .non,v,_,h=>by unfold bL at h ⊢;exact h
 | .bl _,v,_,h=>by unfold bL at h ⊢;exact h
 | .int _,v,_,h=>by unfold bL at h ⊢;exact h
 | .str _,v,_,h=>by unfold bL at h ⊢;exact h
 | .tup ds,v,c,h=>by
  unfold bL at h ⊢;unfold cLt at c
  obtain⟨a,xs,e,q,r⟩:=h
  exact⟨a,xs,e,SqT.mono s q,aC.cut s ds xs c r⟩
 | .lst ds,v,c,h=>by
  unfold bL at h ⊢;unfold cLt at c
  obtain⟨a,xs,e,q,r⟩:=h
  exact⟨a,xs,e,s _ _ q,aC.cut s ds xs c r⟩
 | .ro ds,v,c,h=>by
  unfold bL at h ⊢;unfold cLt at c
  obtain⟨a,xs,e,q,r⟩:=h
  exact⟨a,xs,e,SqL.mono s q,aC.cut s ds xs c r⟩
 | .dic kvs,v,c,h=>by
  unfold bL at h ⊢;unfold cLt at c
  obtain⟨a,ps,e,q,r⟩:=h
  exact⟨a,ps,e,s _ _ q,iW.cut s kvs ps c r⟩
 | .cell n,v,c,h=>by
  unfold bL at h ⊢;unfold cLt at c
  obtain⟨a,e,q⟩:=h
  exact⟨a,e,by rw[List.getElem?_take_of_lt (by simpa using c)];exact q⟩
theorem aC.cut(s:pD F F'):∀(ds:List D)(vs:List V),lY m ds=true->aC K F ad ds vs->aC K F' (ad.take m) ds vs
 | [],vs,_,h=>by unfold aC at h ⊢;exact h
 |d::ds,vs,c,h=>by
  unfold aC at h ⊢;unfold lY at c
  have c:=(Zo _ _).mp c
  obtain⟨u,us,e,p,r⟩:=h
  exact⟨u,us,e,bL.cut s d u c.1 p,aC.cut s ds us c.2 r⟩
theorem iW.cut(s:pD F F'):∀(ds:List (Key×D))(vs:List (Key×V)),An m ds=true->iW K F ad ds vs->iW K F' (ad.take m) ds vs
 | [],vs,_,h=>by unfold iW at h ⊢;exact h
 |p::ds,vs,c,h=>by
  unfold iW at h ⊢;unfold An at c
  have c:=(Zo _ _).mp c
  obtain⟨u,us,e,⟨p1,p2⟩,r⟩:=h
  exact⟨u,us,e,⟨p1,bL.cut s p.2 u.2 c.1 p2⟩,iW.cut s ds us c.2 r⟩
end
end
def cOk(m:Nat)(μ:Mu):Bool:=μ.all λo=>match o with
 |some ds=>lY m ds
 |none=>true
theorem WOk.cut{K:PySem.W.Frag}{tb:List Addr}{W:Wd}{m:Nat}(ok:WOk K tb W)(c:cOk m (W.mu.take m)=true):
  WOk K tb ⟨W.H,W.ad.take m,W.mu.take m⟩/\pD (W.fz tb) (Wd.fz tb ⟨W.H,W.ad.take m,W.mu.take m⟩):=by
 have lv:∀b,qT (W.ad.take m) (W.mu.take m) b->qT W.ad W.mu b:=λb zq2=>by
  obtain⟨i,es,e1,e2⟩:=zq2
  have h1:i<m:=by have:=(Zh.mp e1).1;simp at this;omega
  rw[List.getElem?_take_of_lt h1]at e1 e2
  exact⟨i,es,e1,e2⟩
 have sm:pD (W.fz tb) (Wd.fz tb ⟨W.H,W.ad.take m,W.mu.take m⟩):=λb u e=>by
  obtain⟨e1,e2,e3⟩:=fP e
  have q:=tU (tb:=tb) (W:=⟨W.H,W.ad.take m,W.mu.take m⟩) (b:=b) (λz=>e2 (lv b z)) e3
  rw[q];exact e1
 refine⟨⟨by simp[ok.len],λi a ds e1 e2=>?_,λi j a ds es e1 e2 e3 e4=>?_,ok.tab⟩,sm⟩
 .have h1:i<m:=by have:=(Zh.mp e1).1;simp at this;omega
  have cd:lY m ds=true:=by
   have:=List.all_eq_true.mp c (some ds) (List.mem_of_getElem? e2)
   exact this
  have e1':(W.ad.take m)[i]? =some a:=e1
  have e2':(W.mu.take m)[i]? =some (some ds):=e2
  rw[List.getElem?_take_of_lt h1]at e1' e2'
  obtain⟨xs,e,r⟩:=ok.cont i a ds e1' e2'
  exact⟨xs,e,aC.cut sm ds xs cd r⟩
 .have h1:i<m:=by have:=(Zh.mp e1).1;simp at this;omega
  have h2:j<m:=by have:=(Zh.mp e2).1;simp at this;omega
  have e1':(W.ad.take m)[i]? =some a:=e1
  have e2':(W.ad.take m)[j]? =some a:=e2
  have e3':(W.mu.take m)[i]? =some (some ds):=e3
  have e4':(W.mu.take m)[j]? =some (some es):=e4
  rw[List.getElem?_take_of_lt h1]at e1' e3'
  rw[List.getElem?_take_of_lt h2]at e2' e4'
  exact ok.inj i j a ds es e1' e2' e3' e4'
def trunc(φ:FF):FF:=λds μ=>(φ ds μ).bind λr=>if(cLt μ.length r.1&&cOk μ.length (r.2.take μ.length))=true then some (r.1,r.2.take μ.length)else some r
theorem FI.trunc{P:Program}{w:World}{K:PySem.W.Frag}{mg:Str->Option Value}{base:Heap}{tb:List Addr}{x:Str}{n k:Nat}{φ:FF}(F:FI P w K mg base tb x n k φ):FI P w K mg base tb x n k (trunc φ):=by
 obtain⟨f,fd,ps,h1,h2⟩:=F.is
 refine⟨f,fd,ps,h1.imp λvs H Q E ⟨W,ds,d,μ',e,ok,dl,hl,hf,k⟩=>?_,h2⟩
 unfold L3.trunc at hf
 obtain⟨⟨d1,μ1⟩,e1,e2⟩:=Za.mp hf
 split at e2
 .rename_i hc
  have hc:=(Zo _ _).mp hc
  cases e2
  refine⟨W,ds,d1,μ1,e,ok,dl,hl,e1,λv W' ok' l' m' d'=>?_⟩
  obtain⟨ok2,sm⟩:=ok'.cut (m:=W.mu.length) (by rw[m'];exact hc.2)
  exact k v ⟨W'.H,W'.ad.take W.mu.length,W'.mu.take W.mu.length⟩ ok2 ⟨l'.same.trans sm,λi x q=>by
   have hi:i<W.mu.length:=by rw[<-ok.len];exact(Zh.mp q).1
   show(W'.ad.take W.mu.length)[i]? =some x
   rw[List.getElem?_take_of_lt hi];exact l'.ad i x q⟩ (by show W'.mu.take _=_;rw[m']) (bL.cut sm d1 v hc.1 d')
 .cases e2
  exact⟨W,ds,d,μ',e,ok,dl,hl,e1,k⟩
theorem za{φ:FF}{ds:List D}{μ μ':Mu}{d:D}(h:φ ds μ=some (d,μ'))(hl:μ'.length=μ.length):trunc φ ds μ=some (d,μ'):=by
 unfold trunc
 rw[h]
 simp only[Option.bind_some]
 rw[<-hl,List.take_length]
 split<;>rfl
theorem iJ{φ:FF}{ds:List D}{μ:Mu}{d:D}(h:φ ds μ=some (d,μ)):trunc φ ds μ=some (d,μ):=za h rfl
def tH:D->Bool
 | .non=>true
 | .bl _=>true
 | .int _=>true
 | .str _=>true
 |_=>false
def eqF:D->D->Bool
 | .non,.non=>true
 | .bl a,.bl b=>a==b
 | .bl a,.int b=>(if a then 1 else 0)==b
 | .int a,.bl b=>a==(if b then 1 else 0)
 | .int a,.int b=>a==b
 | .str a,.str b=>a==b
 |_,_=>false
def inF(x:D)(ds:List D):Bool:=ds.any λy=>eqF y x
def oIn(neg:Bool):O2:=λx y μ=>(bC y μ).bind λds=>if tH x=true/\ds.all tH=true then some (.bl (if neg then !inF x ds else inF x ds),μ)else none
section
variable {K:PySem.W.Frag} {tb:List Addr} {W:Wd}
theorem xH{x:D}{v:V}(h:Den K tb W x v)(f:tH x=true):rO v=true/\(∀y u,Den K tb W y u->tH y=true->eqV v u=eqF x y):=by
 cases x with
 |non=>rw[nO h];refine⟨rfl,λy u d g=>?_⟩;cases y<;>first|(rw[nO d];rfl)|(rw[jM d];rfl)|(rw[bQ d];rfl)|(rw[lK d];rfl)|cases g
 |bl b=>rw[jM h];refine⟨rfl,λy u d g=>?_⟩;cases y<;>first|(rw[nO d];rfl)|(rw[jM d];rfl)|(rw[bQ d];rfl)|(rw[lK d];rfl)|cases g
 |int b=>rw[bQ h];refine⟨rfl,λy u d g=>?_⟩;cases y<;>first|(rw[nO d];rfl)|(rw[jM d];rfl)|(rw[bQ d];rfl)|(rw[lK d];rfl)|cases g
 |str b=>rw[lK h];refine⟨rfl,λy u d g=>?_⟩;cases y<;>first|(rw[nO d];rfl)|(rw[jM d];rfl)|(rw[bQ d];rfl)|(rw[lK d];rfl)|cases g
 |_=>cases f
theorem uJ{x:D}{v:V}(h:Den K tb W x v)(f:tH x=true):∀{ds:List D}{vs:List V},cV K tb W ds vs->ds.all tH=true->vs.all rO=true/\inV v vs=inF x ds
 | [],vs,r,_=>by
  have r':aC _ _ _ _ _:=r
  unfold aC at r'
  subst r'
  exact⟨rfl,rfl⟩
 |d::ds,vs,r,g=>by
  have r':aC _ _ _ _ _:=r
  unfold aC at r'
  obtain⟨u,us,rfl,p,r2⟩:=r'
  rw[List.all_cons,Zo]at g
  obtain⟨h1,h2⟩:=uJ h f (show cV K tb W ds us from r2) g.2
  obtain⟨h3,h4⟩:=xH (show Den K tb W d u from p) g.1
  refine⟨by rw[List.all_cons,h3,h1];rfl,?_⟩
  show(eqV u v||inV v us)=(eqF d x||inF x ds)
  rw[h4 x v h f,h2]
end
theorem Xp{X:Cx}{tb:List Addr}:OpD X tb (compareOp .In) (oIn false):=⟨_,IW,λW x y v u d μ' Q ok dx dy ho h=>by
 unfold oIn at ho
 obtain⟨ds,e1,e2⟩:=Za.mp ho
 split at e2
 .rename_i hf
  cases e2
  obtain⟨a,xs,rfl,q,r⟩:=lr ok dy e1
  obtain⟨h1,h2⟩:=uJ dx hf.1 r hf.2
  refine⟨a,xs,rfl,SqB.or q,(xH dx hf.1).1,h1,?_⟩
  rw[h2]
  exact put ok h fG
 .cases e2⟩
theorem Eb{X:Cx}{tb:List Addr}:OpD X tb (compareOp .NotIn) (oIn true):=⟨_,Bv,λW x y v u d μ' Q ok dx dy ho h=>by
 unfold oIn at ho
 obtain⟨ds,e1,e2⟩:=Za.mp ho
 split at e2
 .rename_i hf
  cases e2
  obtain⟨a,xs,rfl,q,r⟩:=lr ok dy e1
  obtain⟨h1,h2⟩:=uJ dx hf.1 r hf.2
  refine⟨a,xs,rfl,SqB.or q,(xH dx hf.1).1,h1,?_⟩
  rw[h2]
  exact put ok h fG
 .cases e2⟩
open PySem.SeqAt
theorem Ly{X:Cx}{k:Nat}(hr:iB k X.A):OpR X (compareOp .NotEq) (λv u H Q=>∃a b xs ys,v= .ref a/\u= .ref b/\SqL X.K H a xs/\SqL X.K H b ys/\xs.length≠ys.length/\Q (.bl true) H):=by
 intro pins s σ H v u vv uu Q I rv ru h
 obtain⟨a,b,xs,ys,rfl,rfl,hx,hy,hl,q⟩:=h
 have hun:=hr.un
 cases rv
 cases ru
 obtain⟨its0,iv0,pl0,hz0⟩:=I.list hx
 obtain⟨its1,iv1,pl1,hz1⟩:=I.list hy
 have hl':its0.length≠its1.length:=by rw[<-iv0.length,<-iv1.length];exact hl
 exact RcNeAt.lists_lengths (A:=X.A) pl0.isList pl1.isList (by simpa using hl') (by omega) X.prog X.w X.xe _ ⟨.bl true,H,I,rfl,q⟩
def FN:O2:=λx y μ=>match x,y with
 | .lst ds,.lst []=>some (.bl (!ds.isEmpty),μ)
 |x,y=>oNe x y μ
theorem EY{x y:D}{μ:Mu}:FN x y μ=oNe x y μ∨∃d ds,x= .lst (d::ds)/\y= .lst []/\FN x y μ=some (.bl true,μ):=by
 unfold FN
 split
 .rename_i ds
  cases ds with
  |nil=>left;unfold oNe rsv;simp[eG,ik,jJ,kW,eqD,kj]
  |cons d ds=>exact .inr ⟨d,ds,rfl,rfl,rfl⟩
 .exact .inl rfl
theorem Tr{X:Cx}{tb:List Addr}{k:Nat}(hr:iB k X.A):OpD X tb (compareOp .NotEq) FN:=⟨_,(Mr hr).or (Ly hr),λW x y v u d μ' Q ok dx dy ho h=>by
 rcases EY (x:=x) (y:=y) (μ:=W.mu)with e|⟨d',ds,rfl,rfl,e⟩
 .rw[e]at ho
  unfold oNe at ho
  split at ho
  .rename_i hc
   cases ho
   rw[Zo]at hc
   exact .inl ⟨_,_,pH ok dx hc.1.1,pH ok dy hc.1.2,hc.2,put ok h fG⟩
  .cases ho
 .rw[e]at ho
  cases ho
  obtain⟨a,xs,rfl,q,r⟩:=mQ dx
  obtain⟨b,ys,rfl,q2,r2⟩:=mQ dy
  refine .inr ⟨a,b,xs,ys,rfl,rfl,SqL.fz q,SqL.fz q2,?_,put ok h fG⟩
  have h1:=aC.length r
  have h2:=aC.length r2
  simp at h1 h2
  omega⟩
def pP:D->Mu->Option (List D)
 | .lst ds,_=>some ds
 | .cell n,μ=>(μ[n]?).join
 |_,_=>none
theorem vg{K:PySem.W.Frag}{tb:List Addr}{W:Wd}{x:D}{v:V}{ds:List D}(ok:WOk K tb W)(h:Den K tb W x v)(e:pP x W.mu=some ds):∃a xs,v= .ref a/\W.H a=some (.lst xs)/\cV K tb W ds xs:=by
 cases x with
 |lst es=>
  cases e
  obtain⟨a,xs,rfl,q,r⟩:=sZ h
  exact⟨a,xs,rfl,(fP q).1,r⟩
 |cell n=>
  obtain⟨a,rfl,q⟩:=jo h
  have e:(W.mu[n]?).join=some ds:=e
  cases e2:W.mu[n]? with
  |none=>rw[e2]at e;cases e
  |some o=>
   rw[e2]at e
   have e:o=some ds:=e
   subst e
   obtain⟨xs,ex,r⟩:=ok.cont n a ds q e2
   exact⟨a,xs,rfl,ex,r⟩
 |_=>cases e
def Fv(fa fb:EF):LF:=λδ μ=>(fa δ μ).bind λr=>(fb δ r.2).bind λq=>(pP r.1 q.2).bind λxs=>(pP q.1 q.2).bind λys=>if xs.length+ys.length<=sizeLine then some (xs++ys,q.2)else none
theorem RK{X:Cx}{tb:List Addr}{a b:Expr}{fa fb:EF}{pos:Pos}(ha:PD X tb a fa)(hb:PD X tb b fb):PDN X tb (.BinOp a .Add b pos) (Fv fa fb):=
 fU (RM Nf ha hb) λσ H Q zq3=>by
  obtain⟨W,δ,ds,μ',e,ok,hd,hf,h⟩:=zq3
  unfold Fv at hf
  obtain⟨⟨x,μ1⟩,e1,hf⟩:=Za.mp hf
  obtain⟨⟨y,μ2⟩,e2,hf⟩:=Za.mp hf
  obtain⟨xs,e3,hf⟩:=Za.mp hf
  obtain⟨ys,e4,hf⟩:=Za.mp hf
  refine⟨W,δ,x,μ1,e,ok,hd,e1,λv W1 ok1 l1 m1 d1=>⟨W1,δ,y,μ2,rfl,ok1,hd.mono' l1,(by rw[m1];exact e2),λu W2 ok2 l2 m2 d2=>?_⟩⟩
  have d1:=Den.mono' d1 l2
  split at hf
  .rename_i hz
   cases hf
   obtain⟨a1,us,rfl,q1,r1⟩:=vg ok2 d1 (by rw[m2];exact e3)
   obtain⟨a2,ws,rfl,q2,r2⟩:=vg ok2 d2 (by rw[m2];exact e4)
   exact⟨a1,a2,us,ws,rfl,rfl,q1,q2,by rw[<-aC.length r1,<-aC.length r2];exact hz,λp hp=>h p _ W2 ok2 (l1.trans l2) m2 hp (aC.append r1 r2)⟩
  .cases hf
theorem us0{α:Type}{P:List α->Prop}(h:P []):∀us:List α,us.length=0->P us
 | [],_=>h
theorem us1{α:Type}{P:List α->Prop}(h:∀a,P [a]):∀us:List α,us.length=1->P us
 | [a],_=>h a
theorem us2{α:Type}{P:List α->Prop}(h:∀a b,P [a,b]):∀us:List α,us.length=2->P us
 | [a,b],_=>h a b
theorem us3{α:Type}{P:List α->Prop}(h:∀a b c,P [a,b,c]):∀us:List α,us.length=3->P us
 | [a,b,c],_=>h a b c
structure Got(K:PySem.W.Frag)(x:Str)(st:Stmt)(f c P:Addr)(fd:FuncData):Prop where
 F:dG K x x st f fd P
 m:PySem.W.nsIn K mainGlobals x=some (some (.ref f))
 t:PySem.W.tabIn K x=some (c,P)
 e:∃kV dc pm an ct,fd=PySem.W.fnOf x x (oH st) (kZ st) (aO st) .none kV dc pm an (.ref c) ct
theorem Ud{K:PySem.W.Frag}{x:Str}{st:Stmt}{f c P:Addr}{oc:Value}{od an:Option Addr}{osl:Array (Option Value)}{kV doc pm ct:Value}{dd:Option Addr}{vs:Array Value}{sl:Array (Option Value)}(a:PySem.W.nsIn K mainGlobals x=some (some (.ref f)))
  (l:K.lookup f=some ⟨oc,od,.func (PySem.W.fnOf x x (oH st) (kZ st) (aO st) .none kV doc pm an (.ref c) ct),osl⟩) (hc:PySem.W.codeIn K (.ref c) x=true) (k:PySem.W.keepIn K (.ref f)=true)
  (lc:K.lookup c=some ⟨.type "code",dd,.fields vs,sl⟩) (p:vs[11]? =some (.ref P)) (q:Bl vs=true) (ne:(c != P)=true):∃f c P fd,Got K x st f c P fd:=
 ⟨f,c,P,_,Pu l hc k lc p q ne,a,Vy a l rfl lc p,kV,doc,pm,an,ct,rfl⟩
end L3
namespace L2
open PySem PySem.Spec PyProof.Rows PySem.W
def Cz{α:Type}(f:Nat->Nat->Bool):KasT α->α
 | .ret a=>a
 | .ask i j k=>Cz f (k (f i j))
def gj{α:Type}(n:Nat)(R:α->Prop):KasT α->Prop
 | .ret a=>R a
 | .ask i j k=>i<n/\j<n/\∀b,gj n R (k b)
theorem gj.bind{α β:Type}{n:Nat}{R:α->Prop}{R':β->Prop}{f:α->KasT β}(hf:∀a,R a->gj n R' (f a)):∀{t:KasT α},gj n R t->gj n R' (t.bind f)
 | .ret a,h=>hf a h
 | .ask i j k,h=>⟨h.1,h.2.1,λb=>gj.bind hf (h.2.2 b)⟩
theorem gj.run{α:Type}{n:Nat}{R:α->Prop}{f:Nat->Nat->Bool}:∀{t:KasT α},gj n R t->R (Cz f t)
 | .ret a,h=>h
 | .ask i j k,h=>show R (Cz f (k (f i j)))from gj.run (t:=k (f i j)) (h.2.2 (f i j))
theorem gj.wp{α:Type}{n:Nat}{R:α->Prop}{f:Nat->Nat->Bool}{cmp:Nat->Nat->(Bool->Shared->Prop)->Shared->Prop}{s:Shared}(hc:∀i j (C:Bool->Shared->Prop),i<n->j<n->C (f i j) s->cmp i j C s){Q:α->Shared->Prop}:
  ∀{t:KasT α},gj n R t->Q (Cz f t) s->t.kasWp cmp Q s
 | .ret a,_,q=>q
 | .ask i j k,h,q=>hc i j _ h.1 h.2.1 (gj.wp hc (h.2.2 (f i j)) q)
def iC(n:Nat)(p:Array Nat):Prop:=p.toList.Perm (List.range n)
theorem iC.getD{n:Nat}{p:Array Nat}(h:iC n p)(h0:0<n)(k:Nat):p.getD k 0<n:=by
 unfold Array.getD
 split
 .rename_i hk
  have:p.getInternal k hk∈p.toList:=by
   show p[k]∈p.toList
   simp
  exact List.mem_range.mp (h.mem_iff.mp this)
 .exact h0
theorem iC.of{n:Nat}{p q:Array Nat}(h:iC n p)(e:q.Perm p):iC n q:=(Array.perm_iff_toList_perm.mp e).trans h
theorem iC.rev{n:Nat}{p:Array Nat}(h:iC n p)(i j:Nat):iC n (kas_rev p i j):=h.of (mirror_perm _ _ _ _)
theorem yj{n:Nat}{p:Array Nat}(hp:iC n p)(h0:0<n):∀(f k:Nat),gj n (λ_=>True) (kas_asc p f k)
 |0,k=>trivial
 |f+1,k=>⟨hp.getD h0 _,hp.getD h0 _,λb=>by
  cases b
  .exact yj hp h0 f (k+1)
  .exact trivial⟩
theorem qQ{n:Nat}(h0:0<n):∀(f:Nat)(p:Array Nat)(k q:Nat),iC n p->gj n (λr=>iC n r.1) (kas_desc f p k q)
 |0,p,k,q,hp=>hp
 |f+1,p,k,q,hp=>⟨hp.getD h0 _,hp.getD h0 _,λb=>by
  cases b
  .refine⟨hp.getD h0 _,hp.getD h0 _,λc=>?_⟩
   cases c
   .exact qQ h0 f p (k+1) (q+1) hp
   .exact hp
  .show gj n _ (if true=true then(if q>0 then kas_desc f (kas_rev p (k-(q+1)) k) (k+1) 0 else kas_desc f p (k+1) 0)else _)
   rw[if_pos rfl]
   split
   .exact qQ h0 f _ (k+1) 0 (hp.rev _ _)
   .exact qQ h0 f p (k+1) 0 hp⟩
theorem wL{n:Nat}(h0:0<n){p:Array Nat}(hp:iC n p)(a b:Nat):gj n (λr=>iC n r.2) (kas_tail3 a b p):=by
 unfold kas_tail3
 refine gj.bind (R:=λ_=>True) (λm _=>?_) (yj (hp.rev _ _) h0 _ _)
 exact hp.rev 0 a
theorem rG{n:Nat}(h0:0<n){p:Array Nat}(hp:iC n p)(a b:Nat):gj n (λr=>iC n r.2) (kas_descPart a b p):=
 gj.bind (λr hr=>by
  split
  .exact wL h0 (iC.rev hr _ _) _ _
  .exact wL h0 hr _ _) (qQ h0 _ p _ _ hp)
theorem Fp{n:Nat}(h0:0<n){p:Array Nat}(hp:iC n p)(a:Nat):gj n (λr=>iC n r.2) (kas_count a p):=
 gj.bind (λm _=>by
  split
  .exact hp
  .split
   .refine⟨hp.getD h0 _,hp.getD h0 _,λc=>?_⟩
    cases c
    .exact rG h0 (hp.rev _ _) _ _
    .exact hp
   .exact rG h0 hp _ _) (yj hp h0 _ _)
theorem sJ{n:Nat}(h0:0<n){p:Array Nat}(hp:iC n p)(k:Nat):∀(f l r:Nat),gj n (λ_=>True) (kas_place p k f l r)
 |0,l,r=>trivial
 |f+1,l,r=>by
  unfold kas_place
  split
  .exact trivial
  .refine⟨hp.getD h0 _,hp.getD h0 _,λc=>?_⟩
   cases c
   .exact sJ h0 hp k f _ _
   .exact sJ h0 hp k f _ _
theorem DN{n:Nat}(h0:0<n):∀(f:Nat)(p:Array Nat)(k:Nat),iC n p->gj n (iC n) (kas_bin f p k)
 |0,p,k,hp=>hp
 |f+1,p,k,hp=>gj.bind (λl _=>DN h0 f _ (k+1) (hp.of (bubble_perm _ _ _))) (sJ h0 hp k _ _ _)
theorem Al{n:Nat}(h0:0<n):gj n (iC n) (kas_sort n):=
 gj.bind (λr hr=>by
  split
  .exact DN h0 _ _ _ hr
  .exact hr) (Fp h0 (show(List.range n).Perm (List.range n)from List.Perm.refl _) n)
def uH(f:Nat->Nat->Bool)(n:Nat):List Nat:=if 2<=n then(Cz f (kas_sort n)).toList else List.range n
theorem uO(f:Nat->Nat->Bool)(n:Nat):(uH f n).Perm (List.range n):=by
 unfold uH
 split
 .exact gj.run (Al (by omega))
 .exact List.Perm.refl _
theorem pR(f:Nat->Nat->Bool)(n:Nat):(uH f n).length=n:=by
 rw[(uO f n).length_eq,List.length_range]
theorem range_getD{α:Type}(z:α)(vs:List α):(List.range vs.length).map (λi=>vs.getD i z)=vs:=by
 apply List.ext_getElem?
 intro i
 rw[List.getElem?_map]
 by_cases h:i<vs.length
 .rw[List.getElem?_range h]
  simp[h]
 .rw[List.getElem?_eq_none (by simpa using h),List.getElem?_eq_none (by simpa using h)]
  rfl
section
variable {prog:Program} {w:World} {A:Around} {E:Value->Shared->Prop} {s:Shared} {a:Addr} {vs:List Value} {f:Nat->Nat->Bool}
def Cmp(prog:Program)(w:World)(A:Around)(vs:List Value)(f:Nat->Nat->Bool)(s:Shared):Prop:=
 wpAny (model prog w) A (keyKind' vs.toArray) (λκ s'=>s'=s/\∀i j (C:Bool->Shared->Prop),i<vs.length->j<vs.length->C (f i j) s->kas_ask prog w A κ vs i j C s) (λ_ _=>False) s
theorem HW{n:Nat}{P:PySem.Fin->Shared->Prop}(ho:s.heap.get? a=some (seqObj "list" vs.toArray n))(h64:vs.length<64)
  (hk:2<=vs.length->∀h',(∀b o,b≠a->s.heap.get? b=some o->h'.get? b=some o)->Cmp prog w A vs f { s with heap:=h'})
  (h:∀h' c,(∀b o,b≠a->s.heap.get? b=some o->h'.get? b=some o)->h'.get? a=some (seqObj "list" ((uH f vs.length).map λi=>vs.getD i Value.none).toArray c)->P (.done (.ret .none)) { s with heap:=h'}):
  wpAny (model prog w) A (Builtin.«list.sort» ⟨[.ref a],[]⟩) P E s:=by
 have upd1:=λ(g:Heap)(q:Array Value->Array Value)=>Heap.SameBut.update g a (Obj.mapSeq q)
 have e1:=get?_update_seq ho λ_=>(#[]:Array Value)
 generalize hc1:(if(#[]:Array Value).size==vs.toArray.size then n else n+1)=c1 at e1
 rw[list_sort_plain]
 refine wpAny_bind (listItems_at ho rfl ?_)
 refine wpAny_bind (listUpdate_at ho rfl ?_ (by rw[Zd,sizeLine_eq];omega) (Nat.zero_le _))
 refine wpAny_bind (seqEpoch_at e1 rfl ?_)
 refine wpAny_bind (wpAny_newTuple ?_ (by show vs.length<=_;rw[sizeLine_eq];omega))
 refine wpAny_bind (wpAny_newList ?_ (Nat.zero_le _))
 refine wpAny_holding ?_
 generalize hg:((s.heap.update a (Obj.mapSeq λ_=>(#[]:Array Value))).push (seqObj "tuple" vs.toArray 0)).push (seqObj "list" #[] 0)=g
 have kg:∀b o,b≠a->s.heap.get? b=some o->g.get? b=some o:=λb o hb e=>by
  rw[<-hg]
  exact Zb _ (Zb _ (((upd1 s.heap _).2 b hb).trans e))
 have ag:g.get? a=some (seqObj "list" #[] c1):=by
  rw[<-hg]
  exact Zb _ (Zb _ e1)
 have fin:∀(out:Array Value),out.size=vs.length->out=((uH f vs.length).map λi=>vs.getD i Value.none).toArray->P (.done (.ret .none)) { s with heap:=g.update a (Obj.mapSeq λ_=>out) }:=λout hsz ho'=>by
  have e2:=get?_update_seq ag λ_=>out
  rw[ho']at e2 ⊢
  exact h _ _ (λb o hb e=>((upd1 g _).2 b hb).trans (kg b o hb e)) e2
 show wpAny (model prog w) A _ P E { s with heap:=g}
 dsimp only
 by_cases h2:vs.toArray.size<2
 .rw[if_pos h2,if_pos h2]
  refine wpAny_bind (wpAny_pure ?_)
  rw[StateT.run_pure]
  refine wpAny_bind (wpAny_pure ?_)
  dsimp only
  have hz:(vs.toArray.zip vs.toArray).map (λp=>p.2)=vs.toArray:=by
   apply Array.toList_inj.mp
   rw[Array.toList_map]
   simp[List.map_snd_zip]
  have hA:(arrOf (SortSt.mk' general' (vs.toArray.zip vs.toArray) #[] 7 none)).map (·.2)=vs.toArray:=hz
  rw[hA]
  refine wpAny_bind (seqEpoch_at ag rfl ?_)
  refine wpAny_bind (listUpdate_at ag rfl ?_ (Nat.zero_le _) (by rw[Zd,sizeLine_eq];omega))
  simp only[bne_self_eq_false,Bool.false_eq_true,if_false]
  refine wpAny_pure (fin _ (by simp) ?_)
  rw[Zd]at h2
  unfold uH
  rw[if_neg (by omega),range_getD]
 .rw[if_neg h2,if_neg h2]
  rw[Zd]at h2
  refine wpAny_bind (wpAny_mono (hk (by omega) g kg) (λκ s' hs=>?_) λ_ _ x=>x.elim)
  obtain⟨rfl,hask⟩:=hs
  have good:(kas_sort vs.length).kasWp (kas_ask prog w A κ vs) (λp s'=>p=Cz f (kas_sort vs.length)/\s'={ s with heap:=g}) { s with heap:=g}:=
   gj.wp (n:=vs.length) (f:=f) (R:=iC vs.length) (λi j C hi hj hC=>hask i j C hi hj hC) (Al (by omega)) ⟨rfl,rfl⟩
  refine wpAny_bind (wpAny_mono (kat_run (Q:=λst' s'=>s'={ s with heap:=g}/\failedOf st'=none/\(arrOf st').map (·.2)=List.toArray ((Cz f (kas_sort vs.length)).toList.map λi=>vs.getD i Value.none)) rfl (by omega) h64 (λp st' s' a1 a2 a3 a4=>⟨a4.2,a3,by rw[<-a4.1];exact kat_snds rfl a2⟩) good) ?_ λ_ _ e=>e)
  rintro⟨⟨⟩,st'⟩ s' ⟨rfl,hf,har⟩
  dsimp only
  rw[har]
  have hlen:(List.toArray ((Cz f (kas_sort vs.length)).toList.map λi=>vs.getD i Value.none)).size=vs.length:=by
   have:=pR f vs.length
   unfold uH at this
   rw[if_pos (by omega)]at this
   rw[Zd,Zu,this]
  refine wpAny_bind (seqEpoch_at ag rfl ?_)
  refine wpAny_bind (listUpdate_at ag rfl ?_ (Nat.zero_le _) (Zl (Nat.le_of_eq hlen) (by rw[sizeLine_eq];omega)))
  rw[hf]
  simp only[bne_self_eq_false,Bool.false_eq_true,if_false]
  refine wpAny_pure (fin _ hlen ?_)
  unfold uH
  rw[if_pos (by omega)]
theorem Gx{l:Addr}{Q:Value->Shared->Prop}(hl:s.heap.IsList l vs.toArray)(h64:vs.length<64)
  (hk:2<=vs.length->∀h',(∀b o,s.heap.get? b=some o->h'.get? b=some o)->Cmp prog w A.in1.in1 vs f { s with heap:=h'})
  (h:∀D h' c,(∀b o,s.heap.get? b=some o->h'.get? b=some o)->s.heap.objs.size<=D->h'.get? D=some (seqObj "list" ((uH f vs.length).map λi=>vs.getD i Value.none).toArray c)->Q (.ref D) { s with heap:=h'}):
  wpAny (model prog w) A (call (.builtin "sorted") [.ref l]) Q E s:=by
 refine Calls.call_function_entry kind_sorted plain_sorted entry_sorted (args_sorted1 _) ?_
 unfold Builtin.«sorted»
 refine wpAny_bind (m:=checkCount "sorted" 1 1 _) (wpAny_pure ?_)
 refine wpAny_bind (collect_list hl ?_ (by rw[sizeLine_eq];omega))
 refine wpAny_bind (wpAny_newList ?_ (by rw[sizeLine_eq];omega))
 generalize hg1:(s.heap.push (seqObj "list" #[] 0)).update s.heap.objs.size (Obj.mapSeq (· ++vs.toArray))=g1
 have k1:∀b o,s.heap.get? b=some o->g1.get? b=some o:=λb o q=>by
  rw[<-hg1,Heap.get?_update_ne _ _ _ _ (Zk (Ze q)),Heap.get?_push_ne _ _ _ (Zk (Ze q))]
  exact q
 have z1:g1.objs.size=s.heap.objs.size+1:=by rw[<-hg1,Heap.size_update,size_push']
 have k2:∀b o,s.heap.get? b=some o->(g1.push (seqObj "list" vs.toArray 0)).get? b=some o:=λb o q=>Zb _ (k1 b o q)
 have o2:(g1.push (seqObj "list" vs.toArray 0)).get? g1.objs.size=some (seqObj "list" vs.toArray 0):=Zf _ rfl
 show wpAny _ _ _ _ _ { s with heap:=g1.push (seqObj "list" vs.toArray 0) }
 have hle:s.heap.objs.size<=g1.objs.size:=by omega
 generalize g1.push (seqObj "list" vs.toArray 0)=g2 at *
 generalize g1.objs.size=D at *
 refine wpAny_bind (wpAny_holding (wpAny_call_entry slot_list_sort ⟨_,o2,rfl⟩ entry_list_sort ?body (args_list_sort _)))
 case body=>
  have ne:∀b o,s.heap.get? b=some o->b≠D:=λb o q=>Zk (Zc (Ze q) hle)
  refine HW (s:={ s with heap:=g2}) (f:=f) o2 h64 (λh2 h' k'=>hk h2 h' λb o q=>k' b o (ne b o q) (k2 b o q)) λh' c k' e'=>⟨_,rfl,?_⟩
  exact wpAny_pure ⟨_,rfl,h D h' c (λb o q=>k' b o (ne b o q) (k2 b o q)) hle e'⟩
end
theorem xZ:∀{a b:List Int},a.Perm b->a.Pairwise (· <= ·)->b.Pairwise (· <= ·)->a=b
 | [],b,p,_,_=>(List.nil_perm.mp p).symm
 |x::a,b,p,ha,hb=>by
  cases b with
  |nil=>exact absurd p.length_eq (by simp)
  |cons y b=>
   obtain⟨hx,ha'⟩:=List.pairwise_cons.mp ha
   obtain⟨hy,hb'⟩:=List.pairwise_cons.mp hb
   have e:x=y:=by
    have m1:x∈y::b:=p.mem_iff.mp (by simp)
    have m2:y∈x::a:=p.mem_iff.mpr (by simp)
    rcases Zi.mp m1 with z|z
    .exact z
    .rcases Zi.mp m2 with w|w
     .exact w.symm
     .exact Int.le_antisymm (hx y w) (hy x z)
   subst e
   rw[xZ (List.Perm.cons_inv p) ha' hb']
theorem uV:∀{ns:List Int}{us:List Value},Vals (ns.map V.int) us->IntsAre us ns
 | [],_,.nil=>.nil
 |n::ns,_,.cons ⟨t,e⟩ r=>by subst e;exact .cons n t (uV r)
theorem Gn{h:Heap}{a b:Addr}{o:Obj}{g:Obj->Obj}(hb:b<a)(e:h.get? b=some o):(h.update a g).get? b=some o:=by
 rw[Heap.get?_update_ne _ _ _ _ (Zk hb)];exact e
theorem wZ{h:Heap}{vs:List Value}{out:Array Value}{b:Addr}{o:Obj}(e:h.get? b=some o):(sortedAll h vs out).get? b=some o:=by
 have hb:=Ze e
 unfold sortedAll sortedHeap
 exact Gn (Nat.lt_succ_of_lt hb) (Zb _ (Zb _ (Gn (Nat.lt_succ_of_lt hb) (Zb _ (Gn hb (Zb _ e))))))
theorem sortedAll_at{h:Heap}{vs:List Value}{out:Array Value}:∃c,(sortedAll h vs out).get? (h.objs.size+1)=some (seqObj "list" out c):=by
 unfold sortedAll
 generalize hg:(h.push (seqObj "list" #[] 0)).update h.objs.size (Obj.mapSeq (· ++vs.toArray))=g
 have hz:g.objs.size=h.objs.size+1:=by rw[<-hg,Heap.size_update,size_push']
 have e0:(g.push (seqObj "list" vs.toArray 0)).get? (h.objs.size+1)=some (seqObj "list" vs.toArray 0):=by rw[<-hz];exact Zf _ rfl
 unfold sortedHeap
 have e1:=get?_update_seq e0 λ_=>(#[]:Array Value)
 exact⟨_,get?_update_seq (Zb _ (Zb _ e1)) λ_=>out⟩
theorem Gb{X:Cx}:mH X (.builtin "sorted") (λxs H Q=>∃a ns,xs=[.ref a]/\SqL X.K H a (ns.map V.int)/\ns.length<64/\∀p,H p=none->Q (.ref p) (upd H p (.lst ((sortI ns).map V.int)))):=by
 intro pins s σ H xs us Q I r h
 obtain⟨a,ns,rfl,hq,h64,q⟩:=h
 obtain⟨u,rfl,rx⟩:=vals1 r
 cases rx
 obtain⟨its,r',pl,hz⟩:=I.list hq
 have hI:=uV r'
 have hl:=r'.length
 rw[Zu]at hl hz
 refine sorted_ints pl.isList hI (by omega) λout ns' i1 p1 o1=>?_
 have e:=xZ (p1.trans (sortI_perm ns).symm) o1 (sortI_rises ns)
 subst e
 obtain⟨c,ec⟩:=sortedAll_at (h:=s.heap) (vs:=its) (out:=out)
 have hlen:(sortI ns).length=ns.length:=(sortI_perm ns).length_eq
 refine⟨.ref (s.heap.objs.size+1),_,I.laid (t':=s.toks) (λb o e=>wZ e) (Nat.le_succ _) (show jB X.prog X.w _ _ _ (.lst ((sortI ns).map V.int))from⟨by rw[Zu,hlen];exact hz,out.toList,c,uY i1,?_⟩),rfl,q _ (I.hok.fresh (Nat.le_succ _))⟩
 rw[ec]
def KQ(h:Heap)(v:Value)(ks:List Int):Prop:=∃a o its n,v= .ref a/\h.get? a=some o/\o.cls= .type "tuple"/\o.data= .seq (List.toArray its) n/\IntsAre its ks
theorem DQ{prog:Program}{w:World}{A:Around}{Q:Bool->Shared->Prop}{s:Shared}{fin:Bool}:∀{xs ys:List Value}{ms ns:List Int},IntsAre xs ms->IntsAre ys ns->ms.length=ns.length->∀(i:Nat)(k:Bool),fin=false->Q (HT.lexLt ms ns) s->KatLex prog w A k fin Q (xs.zip ys) i s
 |_,_,_,_,.nil,.nil,_,i,k,hf,h=>by rw[hf];exact h
 |_,_,_,_,.nil,.cons _ _ _,hl,_,_,_,_=>by cases hl
 |_,_,_,_,.cons _ _ _,.nil,hl,_,_,_,_=>by cases hl
 |_,_,_,_,.cons (vs:=xs) (ns:=ms) m t h1,.cons (vs:=ys) (ns:=ns) n u h2,hl,i,k,hf,h=>by
  refine kat_cons (wpAny_eqBool_int ?_)
  unfold KatGo
  rw[HT.lexLt_cons]at h
  by_cases e:m=n
  .rw[if_pos e]at h
   rw[if_pos (by simpa using e)]
   exact DQ h1 h2 (by simpa using hl) (i+1) k hf h
  .rw[if_neg e]at h
   rw[if_neg (by simpa using e)]
   cases hb:(k&&i==0)with
   |true=>exact oneLt_int h
   |false=>exact kat_one _ _ (lt_int h)
theorem Lg{prog:Program}{w:World}{A:Around}{vs:List Value}{kss:List (List Int)}{s:Shared}{d:Nat}(hl:vs.length=kss.length)(h2:2<=vs.length)(ht:∀i,i<vs.length->KQ s.heap (vs.getD i .none) (kss.getD i []))(hd:∀ks∈kss,ks.length=d+1):
  Cmp prog w A vs (λi j=>HT.lexLt (kss.getD i []) (kss.getD j [])) s:=by
 have hdk:∀i,i<vs.length->(kss.getD i []).length=d+1:=λi hi=>by
  have:kss.getD i []=kss[i]:=by simp[List.getD,hl▸hi]
  rw[this];exact hd _ (List.getElem_mem _)
 have firsts:∀(k:Nat)(us:List Value),us=vs.drop (vs.length-k)->k<=vs.length->∃fs:List Value,KatTups s.heap us fs/\fs.length=k/\∀v∈fs,∃n t,v= .int n t:=by
  intro k
  induction k with
  |zero=>intro us e _;subst e;exact⟨[],by simp[KatTups],rfl,by simp⟩
  |succ k ih=>
   intro us e hk
   have hlt:vs.length-(k+1)<vs.length:=by omega
   obtain⟨fs,f1,f2,f3⟩:=ih (vs.drop (vs.length-k)) rfl (by omega)
   rw[List.drop_eq_getElem_cons hlt]at e
   rw[show vs.length-(k+1)+1=vs.length-k by omega]at e
   obtain⟨a,o,its,n,ev,ho,hc,hdt,hi⟩:=ht _ hlt
   have ev':vs[vs.length-(k+1)]= .ref a:=by rw[<-ev];simp[List.getD,hlt]
   rw[ev']at e
   subst e
   have hlen:=hdk _ hlt
   generalize kss.getD (vs.length-(k+1)) []=ks at *
   cases hi with
   |nil=>cases hlen
   |cons m t h1=>
    rename_i r1 r2
    exact⟨.int m t::fs,KatTups.cons ho hc hdt (by simp) f1,by simp[f2],λv hv=>by
     rcases Zi.mp hv with z|z
     .exact⟨m,t,z⟩
     .exact f3 v z⟩
 obtain⟨fs,f1,f2,f3⟩:=firsts vs.length vs (by simp) (Zg _)
 refine kat_kind (T:=.type "int") f1 (by omega) (λv hv=>?_) rfl ⟨rfl,λi j C hi hj hC=>?_⟩
 .obtain⟨n,t,rfl⟩:=f3 v hv
  exact Looks.of_pure rfl
 .obtain⟨a,o,its,n,ev,ho,hc,hdt,hI⟩:=ht i hi
  obtain⟨a',o',its',n',ev',ho',hc',hdt',hI'⟩:=ht j hj
  have e1:=hdk i hi
  have e2:=hdk j hj
  have l1:=hI.length
  have l2:=hI'.length
  show wpAny _ _ (keyLt' _ (vs.getD i Value.none) (vs.getD j Value.none)) C _ s
  rw[ev,ev']
  refine kat_lt ho hdt ho' hdt' ?_
  simp only[List.toList_toArray]
  exact DQ hI hI' (by omega) 0 _ (by rw[Zd,Zd];exact decide_eq_false (by omega)) hC
theorem yp:∀{xs:List V}{us:List Value},Vals xs us->∀i,RelV (xs.getD i .non) (us.getD i .none)
 |_,_,.nil,i=>by simp[RelV]
 |_,_,.cons r t,0=>r
 |_,_,.cons r t,i+1=>yp t i
theorem Di{xs:List V}{us:List Value}(r:Vals xs us):∀(is:List Nat),Vals (is.map λi=>xs.getD i .non) (is.map λi=>us.getD i .none)
 | []=>.nil
 |i::is=>.cons (yp r i) (Di r is)
theorem Gr{X:Cx}:mH X (.builtin "sorted") (λxs H Q=>∃(a:Addr)(ys:List V)(kss:List (List Int))(d:Nat),xs=[.ref a]/\SqL X.K H a ys/\ys.length<64/\ys.length=kss.length/\(∀ks∈kss,ks.length=d+1)/\(∀i,i<ys.length->∃p,ys.getD i .non= .ref p/\SqT X.K H p ((kss.getD i []).map V.int))/\
  ∀p,H p=none->Q (.ref p) (upd H p (.lst ((uH (λi j=>HT.lexLt (kss.getD i []) (kss.getD j [])) ys.length).map λi=>ys.getD i .non)))):=by
 intro pins s σ H xs us Q I r h
 obtain⟨a,ys,kss,d,rfl,hq,h64,hl,hd,ht,q⟩:=h
 obtain⟨u,rfl,rx⟩:=vals1 r
 cases rx
 obtain⟨its,r',pl,hz⟩:=I.list hq
 have hlen:=r'.length
 have tups:∀i,i<its.length->KQ s.heap (its.getD i .none) (kss.getD i []):=λi hi=>by
  obtain⟨p,ep,hT⟩:=ht i (by omega)
  have rl:=yp r' i
  rw[ep]at rl
  have e:its.getD i .none= .ref p:=rl
  obtain⟨us,ru,⟨o,ho,hc,n,hdt⟩,_⟩:=I.tuple hT
  exact⟨p,o,us,n,e,ho,hc,hdt,uV ru⟩
 refine Gx (f:=λi j=>HT.lexLt (kss.getD i []) (kss.getD j [])) pl.isList (by omega) (λh2 h' k'=>?_) λD h' c k' hD ec=>?_
 .refine Lg (d:=d) (by omega) h2 (λi hi=>?_) hd
  obtain⟨p,o,us,n,e1,e2,e3⟩:=tups i hi
  exact⟨p,o,us,n,e1,k' _ _ e2,e3⟩
 .refine⟨.ref D,_,I.laid (t':=s.toks) k' hD (show jB X.prog X.w _ _ _ (.lst ((uH (λi j=>HT.lexLt (kss.getD i []) (kss.getD j [])) ys.length).map λi=>ys.getD i .non))from⟨by rw[Zu,pR];exact hz,_,c,?_,ec⟩),rfl,q _ (I.hok.fresh hD)⟩
  rw[<-hlen]
  exact Di r' _
end L2
namespace L3
open PySem PySem.Spec PyProof.Rows L2
def rP:List D->Option (List Int)
 | []=>some []
 | .int i::r=>(rP r).map (i:: ·)
 |_=>none
def yC:List D->Option (List (List Int))
 | []=>some []
 | .tup es::r=>(rP es).bind λks=>(yC r).map (ks:: ·)
 |_=>none
def NT(kss:List (List Int)):Bool:=kss.all λks=>ks.length==(kss.headD []).length-1+1
def zB(ds:List D):Option (List D):=if ds.length<64 then match rP ds with
  |some ns=>some ((PySem.W.sortI ns).map .int)
  |none=>match yC ds with
   |some kss=>if NT kss=true then some ((uH (λi j=>HT.lexLt (kss.getD i []) (kss.getD j [])) ds.length).map λi=>ds.getD i .non)else none
   |none=>none
 else none
theorem yr:∀{ds:List D}{ns:List Int},rP ds=some ns->ds=ns.map .int
 | [],ns,h=>by cases h;rfl
 |d::r,ns,h=>by
  cases d with
  |int i=>
   obtain⟨ms,e,rfl⟩:=Zp.mp (show(rP r).map (i:: ·)=some ns from h)
   rw[yr e];rfl
  |_=>cases h
theorem Cm:∀(ns:List Int),rP (ns.map .int)=some ns
 | []=>rfl
 |n::ns=>by
  show(rP (ns.map .int)).map (n:: ·)=_
  rw[Cm ns];rfl
theorem Ep:∀{ds:List D}{kss:List (List Int)},yC ds=some kss->ds=kss.map λks=>.tup (ks.map .int)
 | [],kss,h=>by cases h;rfl
 |d::r,kss,h=>by
  cases d with
  |tup es=>
   obtain⟨ks,e1,h⟩:=Za.mp (show(rP es).bind (λks=>(yC r).map (ks:: ·))=some kss from h)
   obtain⟨ms,e,rfl⟩:=Zp.mp h
   rw[Ep e,yr e1];rfl
  |_=>cases h
theorem CN:∀(kss:List (List Int)),yC (kss.map λks=>.tup (ks.map .int))=some kss
 | []=>rfl
 |ks::kss=>by
  show(rP (ks.map .int)).bind (λks=>(yC (kss.map λks=>.tup (ks.map .int))).map (ks:: ·))=_
  rw[Cm ks,CN kss];rfl
theorem zg{K:PySem.W.Frag}{tb:List Addr}{W:Wd}:∀(ns:List Int),cV K tb W (ns.map .int) (ns.map V.int)
 | []=>aC.nil
 |n::ns=>aC.cons gH (zg ns)
theorem ye{K:PySem.W.Frag}{tb:List Addr}{W:Wd}:∀{ns:List Int}{xs:List V},cV K tb W (ns.map .int) xs->xs=ns.map V.int
 | [],xs,h=>by
  have:=aC.length h
  cases xs with
  |nil=>rfl
  |cons a b=>cases this
 |n::ns,xs,h=>by
  cases xs with
  |nil=>have:=aC.length h;cases this
  |cons a b=>
   obtain⟨u,us,e,h1,h2⟩:∃u us,a::b=u::us/\bL K (Wd.fz tb W) W.ad (.int n) u/\aC K (Wd.fz tb W) W.ad (ns.map .int) us:=by unfold cV aC at h;exact h
   cases e
   rw[bQ h1,ye h2];rfl
def zE(fs:AF):LF:=λδ μ=>(fs δ μ).bind λr=>match r.1 with
 | [x]=>(pP x r.2).bind λds=>(zB ds).map λes=>(es,r.2)
 |_=>none
theorem El{X:Cx}{tb:List Addr}{a:Expr}{fs:AF}{p pos:Pos}(hm:X.mg "sorted"=none)(ha:PAD X tb [a] fs)(hg:Gl X "sorted":=by rfl)(he:starEach [a] X.env=(false,eval a X.env)::starEach [] X.env:=by rfl):PDN X tb (.Call (.Name "sorted" p) [a] [] pos) (zE fs):=
 fU (qp (Gb.or Gr) hg hm PyProof.Rows.boot_sorted ha (by decide) (by decide) he (by rfl)) λσ H Q zq1=>by
  obtain⟨W,δ,ds,μ',e,ok,hd,hf,k⟩:=zq1
  unfold zE at hf
  obtain⟨⟨xs,μ1⟩,e1,e2⟩:=Za.mp hf
  match xs,e1,e2 with
  | [x],e1,e2=>
   obtain⟨es,e3,e4⟩:=Za.mp (show(pP x μ1).bind (λds=>(zB ds).map λes=>(es,μ1))=some (ds,μ')from e2)
   obtain⟨os,e5,e6⟩:=Zp.mp e4
   cases e6
   refine⟨W,δ,[x],_,e,ok,hd,e1,λvs W1 ok1 l1 m1 d1=>?_⟩
   obtain⟨v,rfl,dv⟩:=aC.one d1
   obtain⟨a,ys,rfl,q,r⟩:=vg ok1 dv (by rw[m1];exact e3)
   have hlen:=aC.length r
   unfold zB at e5
   split at e5
   .rename_i h64
    split at e5
    .rename_i ns hn
     cases e5
     have:=yr hn
     subst this
     have hy:=ye r
     subst hy
     exact .inl ⟨a,ns,rfl,SqL.of q,by simpa using h64,λl hl=>k l _ W1 ok1 l1 m1 hl (zg _)⟩
    .split at e5
     .rename_i kss hk
      split at e5
      .rename_i hev
       cases e5
       have hk':=Ep hk
       have hkl:es.length=kss.length:=by rw[hk'];simp
       refine .inr ⟨a,ys,kss,(kss.headD []).length-1,rfl,SqL.of q,by omega,by omega,λks h=>?_,λi hi=>?_,λl hl=>?_⟩
       .have:=List.all_eq_true.mp hev ks h
        simpa using this
       .have hi':i<es.length:=by omega
        have hik:i<kss.length:=by omega
        obtain⟨u,eu,du⟩:=aC.get r (List.getElem?_eq_getElem hi')
        have e7:es[i]= .tup ((kss.getD i []).map .int):=by
         have:kss.getD i []=kss[i]:=by simp[List.getD,hik]
         rw[this]
         simp[hk']
        rw[e7]at du
        obtain⟨b,zs,rfl,qb,rb⟩:=iz du
        have hz:=ye rb
        subst hz
        refine⟨b,?_,SqT.fz qb⟩
        rw[List.getD_eq_getElem?_getD,eu];rfl
       .rw[hlen]at k
        exact k l _ W1 ok1 l1 m1 hl (Dk r _)
      .cases e5
     .cases e5
   .cases e5
open PySem.SeqAt
theorem UJ{X:Cx}{k:Nat}(hr:iB k X.A):OpR X (compareOp .Eq) (λv u H Q=>∃a b xs,v= .ref a/\u= .ref b/\SqT X.K H a xs/\SqT X.K H b []/\Q (.bl xs.isEmpty) H):=by
 intro pins s σ H v u vv uu Q I rv ru h
 obtain⟨a,b,xs,rfl,rfl,hx,hy,q⟩:=h
 have hun:=hr.un
 cases rv
 cases ru
 obtain⟨its0,iv0,pl0,hz0⟩:=I.tuple hx
 obtain⟨its1,iv1,pl1,hz1⟩:=I.tuple hy
 have e1:its1=[]:=List.eq_nil_of_length_eq_zero (by rw[<-iv1.length];rfl)
 subst e1
 have rc:=RcAt.tuples (A:=X.A) (e:=λ_=>true) pl0 pl1 (by omega) (λj h1 h2=>absurd h2 (by simp))
 have e2:((List.range (min its0.toArray.size ([]:List Value).toArray.size)).all (λ_=>true)&&its0.toArray.size==([]:List Value).toArray.size)=xs.isEmpty:=by
  have hl:=iv0.length
  cases xs with
  |nil=>
   have:its0=[]:=List.eq_nil_of_length_eq_zero hl.symm
   subst this;rfl
  |cons x xs=>
   cases its0 with
   |nil=>cases hl
   |cons y ys=>simp
 rw[e2]at rc
 exact rc X.prog X.w X.xe _ ⟨.bl xs.isEmpty,H,I,rfl,q⟩
def Ck:O2:=λx y μ=>match x,y with
 | .tup ds,.tup []=>some (.bl ds.isEmpty,μ)
 |x,y=>oEq x y μ
theorem Fb{x y:D}{μ:Mu}:Ck x y μ=oEq x y μ∨∃ds,x= .tup ds/\y= .tup []/\Ck x y μ=some (.bl ds.isEmpty,μ):=by
 unfold Ck
 split
 .exact .inr ⟨_,rfl,rfl,rfl⟩
 .exact .inl rfl
theorem MF{X:Cx}{tb:List Addr}{k:Nat}(hr:iB k X.A):OpD X tb (compareOp .Eq) Ck:=⟨_,(Mq hr).or (UJ hr),λW x y v u d μ' Q ok dx dy ho h=>by
 rcases Fb (x:=x) (y:=y) (μ:=W.mu)with e|⟨ds,rfl,rfl,e⟩
 .rw[e]at ho
  unfold oEq at ho
  split at ho
  .rename_i hc
   cases ho
   rw[Zo]at hc
   exact .inl ⟨_,_,pH ok dx hc.1.1,pH ok dy hc.1.2,hc.2,put ok h fG⟩
  .cases ho
 .rw[e]at ho
  cases ho
  obtain⟨a,xs,rfl,q,r⟩:=iz dx
  obtain⟨b,ys,rfl,q2,r2⟩:=iz dy
  have e1:ys=[]:=List.eq_nil_of_length_eq_zero (aC.length r2).symm
  subst e1
  have e2:xs.isEmpty=ds.isEmpty:=by
   have:=aC.length r
   cases ds<;>cases xs<;>first|rfl|cases this
  refine .inr ⟨a,b,xs,rfl,rfl,SqT.fz q,SqT.fz q2,?_⟩
  rw[e2]
  exact put ok h fG⟩
end L3
namespace L2
open PySem PySem.Spec PyProof.Rows
section
variable {prog:Program} {w:World} {A:Around} {E:Value->Shared->Prop} {s:Shared}
theorem uq{t:Addr}{its:List Value}{z:Value}{Q:List Value->Shared->Prop}(hh:A.handled=none)(ht:IsTup s.heap t (its++[z]).toArray)(hz:(its++[z]).length<=sizeLine)
  (hQ:∀(g:Heap)(tk:Nat),(∀b o,s.heap.get? b=some o->g.get? b=some o)->Q [.ref g.objs.size,z] { s with heap:=g.push { cls:=.type "list",data:=.seq its.toArray},toks:=tk}):
  wpAny (model prog w) A (unpackItems (.ref t) 2 (some 0)) Q E s:=by
 have hlt:t≠s.heap.objs.size:=by obtain⟨o,ho,_⟩:=ht;exact Zk (Ze ho)
 unfold unpackItems
 refine wpAny_bind ?_
 unfold notIterableAtAll
 refine wpAny_bind (wpAny_specialOf ht.typeIs slot_tuple_iter.lookup ?_)
 refine wpAny_pure ?_
 simp only[Bool.false_eq_true,if_false]
 refine wpAny_bind (wpAny_holding (iter_tuple ht ?_))
 have hit:Heap.IsTupleIter (s.heap.push { cls:=.type "tuple_iterator",data:=.fields #[.ref t,.int 0 0] }) s.heap.objs.size t 0:=⟨_,Zf _ rfl,rfl,rfl⟩
 have ht1:Heap.IsTuple (s.heap.push { cls:=.type "tuple_iterator",data:=.fields #[.ref t,.int 0 0] }) t (its++[z]).toArray:=by
  obtain⟨o,ho,hc⟩:=ht
  exact⟨o,Zb _ ho,hc⟩
 refine wpAny_bind (wpAny_holding (wpAny_pure ?_))
 simp only[List.length_nil,Nat.not_lt_zero,if_false]
 refine wpAny_bind (wpAny_holding (wpAny_collect_iter (T:="tuple_iterator") (.inr (.inr (.inr rfl))) (Walks.tuple (A:=A.in1) hh s.heap.objs.size t hlt (its++[z]).toArray).toS (λi s' st=>?_) ⟨hit,ht1⟩ (λb hb=>?_) (by simp) (λs' acc hm hi=>?_) (by simpa using hz)))
 .obtain⟨o,ho,hc,_⟩:=st.1
  exact⟨o,ho,hc⟩
 .simp only[Zi,List.not_mem_nil,or_false]at hb
  rcases hb with rfl|rfl
  .exact Ze (Zf _ rfl)
  .obtain⟨o,ho,_⟩:=ht1
   exact Ze ho
 .obtain⟨hsz,hat⟩:=hi
  have hacc:acc.toList=its++[z]:=by
   have hsz:acc.toList.length=(its++[z]).length:=by simpa using hsz
   refine List.ext_getElem? λj=>?_
   by_cases hj:j<acc.toList.length
   .have e1:acc[j]? =some acc.toList[j]:=by simp[hj]
    have:=hat j _ e1
    have e2:(its++[z])[j]? =some acc.toList[j]:=by simpa using this
    rw[e2]
    simp[hj]
   .rw[List.getElem?_eq_none (by omega),List.getElem?_eq_none (by omega)]
  rw[hacc]
  have h1:¬(its++[z]).length<2-1-0:=by simp
  have h2:(its++[z]).length-(2-1-0)=its.length:=by simp
  rw[if_neg h1,h2]
  have h3:List.take its.length (its++[z])=its:=by simp
  have h4:List.drop its.length (its++[z])=[z]:=by simp
  rw[h3,h4]
  refine wpAny_bind (wpAny_newList ?_)
  refine wpAny_pure ?_
  have es:s'={ s with heap:=s'.heap,toks:=s'.toks}:=by
   have g1:=hm.gens
   have g2:=hm.drawn
   have g3:=hm.os
   cases s'
   simp only at g1 g2 g3
   subst g1 g2 g3
   rfl
  have hk:∀b o,s.heap.get? b=some o->s'.heap.get? b=some o:=λb o e=>hm.heap b o (λhb=>by
   simp only[Zi,List.not_mem_nil,or_false]at hb
   exact absurd (Ze e) (by rw[hb];exact Nat.lt_irrefl _)) (Zb _ e)
  rw[es]
  exact hQ s'.heap s'.toks hk
end
theorem yZ:∀{xs:List V}{x:V}{us:List Value},Vals (xs++[x]) us->∃vs z,us=vs++[z]/\Vals xs vs/\RelV x z
 | [],x,_,.cons r .nil=>⟨[],_,rfl,.nil,r⟩
 |y::xs,x,_,.cons r rr=>by
  obtain⟨vs,z,e,a,b⟩:=yZ rr
  exact⟨_::vs,z,by rw[e];rfl,.cons r a,b⟩
def Wx(K:PySem.W.Frag)(t:TGs):TG:=λv σ H Q=>∃a xs x,v= .ref a/\SqT K H a (xs++[x])/\∀l,H l=none->t [.ref l,x] σ (upd H l (.lst xs)) Q
theorem PN{X:Cx}{pos p:Pos}{e1 e2:Expr}{k:Nat}{t:TGs}(hc:X.calm=true)(h:PGs X [e1,e2] t)
  (hs:(assignEach [.Starred e1 p,e2] X.env).map (·.2)=(assignEach [e1,e2] X.env).map (·.2):=by rfl) (hn:(assignEach [.Starred e1 p,e2] X.env).length=2:=by rfl)
  (hst:(assignEach [.Starred e1 p,e2] X.env).findIdx? (·.1)=some 0:=by rfl):PG X (.Tuple [.Starred e1 p,e2] k pos) (Wx X.K t):=by
 intro pins s σ H v u Q I r hw
 obtain⟨a,xs,x,e0,hq,hw⟩:=hw
 subst e0
 cases r
 obtain⟨its,rv,ht,hz⟩:=I.tuple hq
 obtain⟨vs,z,rfl,r1,r2⟩:=yZ rv
 have hl:(vs++[z]).length<=sizeLine:=by rw[<-rv.length];exact hz
 rw[assign_Tuple]
 refine wpAny_bind (wpAny_standAt ?_)
 unfold unpack
 rw[hn,hst,hs]
 refine wpAny_bind (wpAny_holding (uq (I.ok.hd hc) ht hl λg tk hk=>?_))
 have I1:Inv X pins σ H { s with heap:=g,toks:=tk}:=I.kept (t':=tk) hk
 have hf:H g.objs.size=none:=I1.hok.fresh (Zg _)
 have I2:Inv X pins σ (upd H g.objs.size (.lst xs)) { s with heap:=g.push { cls:=.type "list",data:=.seq vs.toArray},toks:=tk}:=I1.laid (t':=tk) (λb u e=>Zb _ e) (Zg _) (by
  refine⟨?_,vs,0,r1,?_⟩
  .have:=hz;simp at this;omega
  .exact Zf _ rfl)
 exact h pins _ σ _ [.ref g.objs.size,x] _ Q I2 (.cons (show RelV (.ref g.objs.size) (.ref g.objs.size)from rfl) (.cons r2 .nil)) (hw _ hf)
end L2
namespace L3
open PySem PySem.Spec PyProof.Rows L2
def CP(i j:Nat)(f:EF):SF:=λδ μ=>(f δ μ).bind λr=>match r.1 with
 | .tup ds=>if ds=[]then none else some (.nx,(δ.set i (some (.lst ds.dropLast))).set j (some (ds.getLastD .non)),r.2)
 |_=>none
theorem cV.snoc{K:PySem.W.Frag}{tb:List Addr}{W:Wd}{ds:List D}{d:D}{vs:List V}(h:cV K tb W (ds++[d]) vs):∃ws w,vs=ws++[w]/\cV K tb W ds ws/\Den K tb W d w:=by
 induction ds generalizing vs with
 |nil=>
  obtain⟨v,rfl,dv⟩:=aC.one h
  exact⟨[],v,rfl,aC.nil,dv⟩
 |cons c ds ih=>
  have h':aC _ _ _ (c::(ds++[d])) vs:=h
  unfold aC at h'
  obtain⟨u,us,rfl,p,q⟩:=h'
  obtain⟨ws,w,rfl,a,b⟩:=ih q
  exact⟨u::ws,w,rfl,aC.cons p a,b⟩
theorem LK{X:Cx}{tb:List Addr}{e:Expr}{f:EF}{pos p1 p2 p3 p4:Pos}{k i j:Nat}{x y:Str}(hN:X.N.Nodup)(hc:X.calm=true)(he:PD X tb e f)(hi:X.N[i]? =some x:=by rfl)(hj:X.N[j]? =some y:=by rfl)
  (hx:Loc X.env.scope x:=by first|exact Or.inl rfl|exact Or.inr rfl) (hy:Loc X.env.scope y:=by first|exact Or.inl rfl|exact Or.inr rfl)
  (hfx:X.fn x=true∨X.env.scope.names.lookup x=some .local:=by first|exact .inl rfl|exact .inr rfl|assumption) (hfy:X.fn y=true∨X.env.scope.names.lookup y=some .local:=by first|exact .inl rfl|exact .inr rfl|assumption)
  (hs:swapsWithSole [.Tuple [.Starred (.Name x p1) p2,.Name y p3] k p4] e pos.line X.env=pure false:=by rfl) (hw:swappedStores [.Tuple [.Starred (.Name x p1) p2,.Name y p3] k p4] e X.env=pure none:=by rfl)
  (h1:(assignEach [.Tuple [.Starred (.Name x p1) p2,.Name y p3] k p4] X.env).map (·.2)=[assign (.Tuple [.Starred (.Name x p1) p2,.Name y p3] k p4) X.env]:=by rfl):
  PSD X tb (.Assign [.Tuple [.Starred (.Name x p1) p2,.Name y p3] k p4] e pos) (CP i j f):=
 qu (Oc he (PN hc (xG (Ci hN hi hx hfx) (xG (Ci hN hj hy hfy) GQ))) hs hw h1) λE σ H zq5=>by
  obtain⟨W,δ,fl,δ',μ',e,ok,hd,hf,k⟩:=zq5
  unfold CP at hf
  obtain⟨⟨z,μ1⟩,e1,hf⟩:=Za.mp hf
  cases z with
  |tup ds=>
   have hf:(if ds=[]then none else some (Fl.nx,(δ.set i (some (.lst ds.dropLast))).set j (some (ds.getLastD .non)),μ1))=some (fl,δ',μ'):=hf
   by_cases hz:ds=[]
   .rw[if_pos hz]at hf;cases hf
   .rw[if_neg hz]at hf
    cases hf
    refine⟨W,δ,.tup ds,_,e,ok,hd,e1,λv W1 ok1 l1 m1 d1=>?_⟩
    obtain⟨a,xs,rfl,q,r⟩:=iz d1
    have hds:ds=ds.dropLast++[ds.getLastD .non]:=by
     have h1:=List.dropLast_concat_getLast hz
     have h2:ds.getLastD .non=ds.getLast hz:=by rw[List.getLastD_eq_getLast?,List.getLast?_eq_getLast hz];rfl
     rw[h2,h1]
    rw[hds]at r
    obtain⟨ws,w,rfl,ra,rb⟩:=cV.snoc r
    refine⟨a,ws,w,rfl,SqT.fz q,λl hl=>?_⟩
    obtain⟨ok2,le2,e2⟩:=ok1.alloc (o:=.lst ws) hl
    refine⟨_,_,rfl,_,_,rfl,rfl,?_⟩
    refine k _ _ ok2 (l1.trans le2) m1 (((hd.mono' (l1.trans le2)).set (d:=.lst ds.dropLast) ?_).set (Den.mono' rb le2))
    show bL _ _ _ _ _
    unfold bL
    exact⟨l,ws,rfl,e2,cV.mono' ra le2⟩
  |_=>cases hf
def Jh(fo:EF)(lf:LF):EF:=λδ μ=>(fo δ μ).bind λr=>(lf δ r.2).bind λq=>match r.1 with
 | .cell n=>match q.2[n]? with
  |some (some ds)=>if jR r.2 n=true/\ds.length+q.1.length<=sizeLine then some (.non,q.2.set n (some (ds++q.1)))else none
  |_=>none
 |_=>none
theorem Iv{X:Cx}{tb:List Addr}{e:Expr}{lf:LF}{o:Expr}{fo:EF}{apos cpos:Pos}(ho:PD X tb o fo)(ha:PDN X tb e lf)
  (hbase:attributeBase o "extend" X.env (eval o X.env)=eval o X.env:=by rfl)
  (hfew:((backTo cpos (starEach [e] X.env)).all (λx=>!x.1)&&(backToKw cpos (keywordEach [] X.env)).all (λx=>x.1.isSome)
   &&decide ([e].length+([]:List Keyword).length+(if([]:List Keyword).isEmpty then 0 else 1)<30))=true:=by rfl)
  (hline:(apos.endLine==cpos.line)=true:=by rfl) (hs:starEach [e] X.env=(false,eval e X.env)::starEach [] X.env:=by rfl):PD X tb (.Call (.Attribute o "extend" apos) [e] [] cpos) (Jh fo lf):=
 fU (Lb PySem.F.plainAttrs_list PySem.F.slot_list_extend PySem.F.type_list_extend Jd ho (uo ha Az hs) hbase hfew hline hs (by rfl)) λσ H Q zq3=>by
  obtain⟨W,δ,d,μ',e,ok,hd,hf,h⟩:=zq3
  unfold Jh at hf
  obtain⟨⟨x,μ1⟩,e1,hf⟩:=Za.mp hf
  obtain⟨⟨ys,μ2⟩,e2,hf⟩:=Za.mp hf
  refine⟨W,δ,x,μ1,e,ok,hd,e1,λv W1 ok1 l1 m1 d1=>?_⟩
  match x,e1,e2,hf,d1 with
  | .cell n,e1,e2,hf,d1=>
   have hf':(match μ2[n]? with|some (some ds)=>if jR μ1 n=true/\ds.length+ys.length<=sizeLine then some (D.non,μ2.set n (some (ds++ys)))else none|_=>none)=some (d,μ'):=hf
   cases e4:μ2[n]? with
   |none=>rw[e4]at hf';cases hf'
   |some oo=>
    cases oo with
    |none=>rw[e4]at hf';cases hf'
    |some ds=>
     rw[e4]at hf'
     have hf'':(if jR μ1 n=true/\ds.length+ys.length<=sizeLine then some (D.non,μ2.set n (some (ds++ys)))else none)=some (d,μ'):=hf'
     split at hf''
     .rename_i hz
      cases hf''
      obtain⟨a,rfl,q⟩:=jo d1
      obtain⟨ds0,e5⟩:=vC hz.1
      obtain⟨xs0,ex0,_⟩:=ok1.cont n a ds0 q (by rw[m1];exact e5)
      refine⟨.inl ⟨rfl,xs0,SqL.of ex0⟩,W1,δ,ys,μ2,rfl,ok1,hd.mono' l1,(by rw[m1];exact e2),λp vs W2 ok2 l2 m2 hp r2=>?_⟩
      obtain⟨ok3,l3,e7⟩:=ok2.alloc (o:=.lst vs) hp
      have q3:=l3.ad _ _ (l2.ad _ _ q)
      have e6:W2.mu[n]? =some (some ds):=by rw[m2];exact e4
      obtain⟨xs,ex,r⟩:=ok3.cont n a ds q3 e6
      refine⟨a,p,xs,vs,rfl,rfl,ex,(fP e7).1,by rw[<-aC.length r,<-aC.length r2];exact hz.2,?_⟩
      obtain⟨ok4,l4⟩:=ok3.write q3 e6 (aC.append r (cV.mono' r2 l3))
      exact h .non _ ok4 (((l1.trans l2).trans l3).trans l4) (by show W2.mu.set n _=_;rw[m2]) qJ
     .cases hf''
end L3
set_option maxHeartbeats 4000000
namespace LG
open PySem PySem.Spec PyProof.Rows L2 L3
noncomputable def iD:SF:=bA (nj (M1 (ao 0) (iV "int")) (wB (M1 (ao 0) (iV "bool"))))
noncomputable def dY(fO:FF):SF:=bA (nj (M1 (ao 0) (iV "tuple")) (yt (mK ["part"] [] (cI (ao 0)) (hName 0) (MC (aj (ao 0) (au)) fO))))
noncomputable def eZ:SF:=aU (yX 0 1 (aj (MC (aj (ao 0) (au)) (bu rT)) (aj (MC (aj (ao 1) (au)) (bu rT)) (au)))) (aU (nU (toB (M2 (ao 1) (mC (.int 0)) oNe)) (yX 0 1 (aj (ao 1) (aj (M2 (ao 0) (ao 1) oMod) (au))))) (bA (ao 0)))
noncomputable def fj(cL:FF):SF:=aU (bz 1 (mC (.int 0))) (aU (km (cI (ao 0)) (hName 2) (aU (bz 1 (MC (aj (ao 1) (aj (ao 2) (au))) cL)) (sIf (toB (M2 (ao 1) (mC (.int 1)) oEq)) (xj) (bG)))) (bA (ao 1)))
noncomputable def ji:SF:=aU (bz 2 (M2 (M2 (M2 (M2 (M2 (ao 0) (mC (.int 2147483647)) oMod) (mC (.int 48271)) cF) (M2 (M2 (mC (.int 7919)) (ao 1) cF) (ao 1) cF) cN) (mC (.int 104729)) cN) (mC (.int 2147483647)) oMod)) (bA (M2 (M2 (ao 2) (ao 2) cF) (mC (.int 2147483629)) oMod))
noncomputable def pQ(aZ:FF):SF:=aU (bz 1 (nG (qU (au)))) (aU (km (bN (aj (MC (aj (MC (aj (ao 0) (au)) (bu cJ)) (aj (mC (.int 63)) (au))) (tB xJ)) (au))) (hName 2) (aU (bz 3 (MC (aj (M2 (ao 0) (ao 2) oIx) (au)) (bu rT))) (aU (sIf (toB (M2 (ao 3) (M2 (mC (.int 10)) (mC (.int 18)) yI) oLt)) (km (bN (aj (mC (.int 12)) (au))) (hName 4) (iU (lX (ao 1) (aj (MC (aj (MC (aj (ao 3) (aj (M2 (M2 (mC (.int 3)) (ao 4) cF) (mC (.int 1)) cN) (au))) aZ) (aj (M2 (M2 (ao 4) (ao 2) cN) (mC (.int 2)) cN) (au))) aZ) (au))))) (bG)) (aU (nU (rQ (toB (M2 (ao 3) (M2 (mC (.int 10)) (mC (.int 18)) yI) oGe)) (toB (M2 (MC (aj (ao 1) (au)) (bu cJ)) (mC (.int 900)) oLt))) (aU (iU (lX (ao 1) (aj (M2 (ao 3) (mC (.int 2147483629)) oMod) (au)))) (bz 3 (M2 (ao 3) (mC (.int 2147483629)) oDiv)))) (sIf (toB (M2 (ao 3) (mC (.int 2147483629)) oGe)) (iU (lX (ao 1) (aj (M2 (ao 3) (mC (.int 2147483629)) oMod) (au)))) (bG)))))) (bA (ao 1)))
noncomputable def jZ:SF:=aU (sIf (toB (M2 (ao 0) (MC (au) oLst) oEq)) (bA (mC (.int 0))) (bG)) (bA (Hi (ao 0)))
noncomputable def uR:SF:=aU (nU (toB (M2 (ao 1) (mC (.int 0)) oNe)) (yX 0 1 (aj (ao 1) (aj (M2 (ao 0) (ao 1) oMod) (au))))) (bA (MC (aj (ao 0) (au)) (bu rT)))
noncomputable def lw(mz:FF):SF:=aU (bz 2 (ao 1)) (aU (km (cI (ao 0)) (hName 3) (bz 2 (MC (aj (ao 2) (aj (ao 3) (au))) mz))) (aU (sIf (toB (M2 (ao 1) (mC (.int 0)) oLt)) (bz 2 (M2 (mC (.int 0)) (MC (aj (ao 2) (au)) (bu rT)) jg)) (bG)) (bA (M2 (MC (aj (mFz (lLC ["_law_number"] [2] (cI (ao 0)) (hName 0) (aQ) (M2 (ao 0) (ao 1) oDiv))) (au)) gG) (MC (aj (M2 (ao 1) (ao 2) oDiv) (au)) oTup) cN))))
noncomputable def nH:SF:=bA (nj (M1 (ao 0) (iV "int")) (wB (M1 (ao 0) (iV "bool"))))
noncomputable def qH:SF:=bA (nj (M1 (ao 0) (iV "bool")) (M2 (ao 0) (ao 1) oEq))
noncomputable def jU(cM:FF):SF:=aU (bz 1 (MC (aj (ao 0) (au)) cM)) (bA (CV (mK ["number"] [1] (cI (ao 0)) (hName 0) (M2 (ao 0) (ao 1) oDiv))))
noncomputable def lE(gw:FF):SF:=aU (bz 2 (mIf (toB (M2 (ao 1) (mC (.int 0)) oGt)) (mC (.int 1)) (M1 (mC (.int 1)) jc))) (bA (MC (aj (mFz (lLC ["number"] [2] (cI (MC (Hj (ao 0) (aj (ao 1) (au))) oTup)) (hName 0) (aQ) (M2 (ao 1) (ao 0) cF))) (au)) gw))
noncomputable def fW(bR:FF):SF:=aU (sIf (jm (eU (iw (MC (aj (ao 1) (au)) bR))) (toB (M2 (MC (aj (ao 1) (au)) (bu cJ)) (mC (.int 2)) oNe))) (bA (mC (.bl false))) (bG)) (bA (nj (MCh (mC (.int 0)) (M2 (ao 1) (mC (.int 0)) oIx) (ao 0) oLe oLt) (M2 (M2 (ao 1) (mC (.int 1)) oIx) (mC (.int 1)) oGe)))
noncomputable def eQ(gC:FF):SF:=aU (sIf (jm (eU (iw (M1 (ao 1) (iV "tuple")))) (toB (M2 (MC (aj (ao 1) (au)) (bu cJ)) (mC (.int 0)) oEq))) (bA (mC (.bl false))) (bG)) (aU (sIf (eU (iw (yt (mK ["part"] [0] (cI (ao 1)) (hName 0) (MC (aj (ao 1) (aj (ao 0) (au))) gC))))) (bA (mC (.bl false))) (bG)) (bA (yt (mK ["one","other"] [] (pq (aj (ao 1) (aj (mSl (ao 1) (fAt (mC (.int 1))) (fNo)) (au)))) (jl 2 (bH (hName 0) (bH (hName 1) (jf)))) (M2 (M2 (ao 0) (mC (.int 0)) oIx) (M2 (ao 1) (mC (.int 0)) oIx) oLt)))))
noncomputable def bj:SF:=bA (uP (mK ["one","other"] [] (pq (aj (ao 0) (aj (ao 1) (au)))) (jl 2 (bH (hName 0) (bH (hName 1) (jf)))) (M2 (ao 0) (ao 1) cF)))
noncomputable def lG(aP:FF):SF:=bA (mFz (lLC ["at"] [1,0] (bN (aj (MC (aj (M2 (ao 0) (mC (.int 0)) oIx) (au)) (bu cJ)) (au))) (hName 0) (aQ) (MC (aj (ao 1) (aj (mFz (lLC ["row"] [0] (cI (ao 2)) (hName 0) (aQ) (M2 (ao 0) (ao 1) oIx))) (au))) aP)))
noncomputable def zY(φ_Lodd φ_Lput:FF):SF:=aU (bz 2 (M2 (ao 1) (MC (aj (ao 0) (au)) (bu cJ)) oMod)) (aU (bz 3 (M2 (ao 1) (mC (.int 41)) oDiv)) (aU (bz 4 (nG (qU (aj (MC (aj (ao 0) (aj (ao 2) (aj (MC (aj (ao 3) (au)) φ_Lodd) (au)))) φ_Lput) (aj (MC (aj (ao 3) (au)) φ_Lodd) (aj (M2 (MC (aj (MC (aj (ao 3) (au)) φ_Lodd) (au)) oTup) (MC (aj (ao 0) (au)) (bu cJ)) cF) (aj (mFz (lOf (aj (ao 0) (au)))) (au)))))))) (aU (bz 4 (nG (Fv (ao 4) (MC (aj (ao 0) (aj (MC (aj (ao 0) (au)) oTup) (aj (MC (aj (mFz (lLC ["_law_one"] [] (cI (ao 0)) (hName 0) (aQ) (M2 (M2 (mC (.int 10)) (mC (.int 60)) yI) (ao 0) cF))) (au)) gG) (aj (zW (mC (.int 0)) (ao 0)) (aj (M2 (ao 0) (ao 0) cN) (au)))))) oLst)))) (aU (bz 5 (mFz (lLC ["_law_one"] [] (cI (ao 0)) (hName 0) (rQ (toB (M2 (ao 0) (mC (.int 1)) oNe)) (toB (M2 (ao 0) (mC (.int 0)) oNe))) (ao 0)))) (aU (sIf (toB (M2 (ao 5) (MC (au) oLst) oEq)) (iU (lX (ao 4) (aj (MC (aj (mFz (lLC ["_law_one"] [] (cI (ao 0)) (hName 0) (aQ) (M2 (ao 0) (mC (.int 1)) oEq))) (au)) gG) (au)))) (bG)) (bA (mFz (Fv (ao 4) (MC (aj (MC (aj (M2 (MC (aj (mC (.bl false)) (au)) oLst) (MC (aj (ao 0) (au)) (bu cJ)) cF) (au)) gG) (aj (MC (aj (M2 (MC (aj (mC .non) (au)) oLst) (MC (aj (ao 0) (au)) (bu cJ)) cF) (au)) gG) (aj (M2 (MC (aj (M2 (mC (.int 10)) (mC (.int 60)) yI) (au)) oTup) (MC (aj (ao 0) (au)) (bu cJ)) cF) (aj (MC (au) oTup) (au))))) oLst)))))))))
noncomputable def lM:SF:=bA (nj (M1 (ao 1) (iV "tuple")) (M2 (MC (aj (ao 1) (au)) (bu cJ)) (ao 0) oEq))
noncomputable def lU(jr iM:FF):SF:=aU (bz 2 (mFz (lLC ["k","share"] [0] (cI (ao 1)) (jl 2 (bH (hName 0) (bH (hName 1) (jf)))) (aQ) (M2 (ao 2) (ao 0) oIx)))) (aU (bz 3 (mFz (lLC ["k","share"] [] (cI (ao 1)) (jl 2 (bH (hName 0) (bH (hName 1) (jf)))) (aQ) (ao 1)))) (bA (MC (aj (MC (aj (ao 2) (aj (ao 3) (au))) jr) (aj (uP (mJ (ao 3))) (au))) iM)))
noncomputable def jz(aP:FF):SF:=aU (CP 2 3 (ao 0)) (bA (M2 (M2 (ao 3) (MC (aj (ao 2) (aj (ao 1) (au))) aP) cF) (MC (aj (ao 2) (aj (ao 2) (au))) aP) oGe))
noncomputable def gO(fL dH gP:FF):SF:=aU (sIf (eU (iw (MC (aj (MC (aj (ao 0) (au)) (bu cJ)) (aj (ao 1) (au))) fL))) (bA (mC (.bl false))) (bG)) (aU (bz 2 (MC (aj (ao 0) (aj (ao 1) (au))) dH)) (bA (yt (mK ["arrow"] [2] (cI (ao 0)) (hName 0) (MC (aj (ao 1) (aj (ao 0) (au))) gP)))))
noncomputable def iI:SF:=bA (mFz (lLC ["colour","k"] [] (pq (aj (ao 0) (aj (ao 1) (au)))) (jl 2 (bH (hName 0) (bH (hName 1) (jf)))) (aQ) (M2 (ao 0) (ao 1) oIx)))
noncomputable def iy(bR:FF):SF:=aU (sIf (jm (eU (iw (MC (aj (ao 1) (au)) bR))) (toB (M2 (MC (aj (ao 1) (au)) (bu cJ)) (MC (aj (ao 0) (au)) (bu cJ)) oNe))) (bA (mC (.bl false))) (bG)) (bA (yt (mK ["colour","k"] [] (pq (aj (ao 0) (aj (ao 1) (au)))) (jl 2 (bH (hName 0) (bH (hName 1) (jf)))) (MCh (mC (.int 0)) (ao 1) (MC (aj (ao 0) (au)) (bu cJ)) oLe oLt))))
noncomputable def ju(jt gU cG eY:FF):SF:=aU (sIf (eU (iw (MC (aj (mC (.int 2)) (aj (ao 1) (au))) jt))) (bA (mC (.bl false))) (bG)) (aU (Iz (ao 1) (jl 2 (bH (hName 2) (bH (hName 3) (jf))))) (bA (nj (MC (aj (ao 0) (aj (ao 2) (au))) gU) (MC (aj (MC (aj (ao 0) (aj (ao 2) (au))) cG) (aj (ao 3) (au))) eY))))
noncomputable def jT(cG dH:FF):SF:=aU (Iz (ao 1) (jl 2 (bH (hName 2) (bH (hName 3) (jf))))) (bA (MC (aj (MC (aj (ao 0) (aj (ao 2) (au))) cG) (aj (ao 3) (au))) dH))
noncomputable def gY:SF:=aU (Iz (ao 0) (jl 2 (bH (hName 2) (bH (hName 3) (jf))))) (aU (bz 4 (mFz (lLC ["at"] [2,1] (bN (aj (MC (aj (ao 2) (au)) (bu cJ)) (au))) (hName 0) (toB (M2 (M2 (ao 1) (ao 0) oIx) (M2 (M2 (ao 2) (mC (.int 0)) oIx) (ao 0) oIx) oNe)) (ao 0)))) (bA (nj (M2 (MC (aj (ao 4) (au)) (bu cJ)) (mC (.int 1)) oEq) (M2 (M2 (ao 4) (mC (.int 0)) oIx) (mFz (lLC ["at","share"] [] (cI (ao 3)) (jl 2 (bH (hName 0) (bH (hName 1) (jf)))) (aQ) (ao 0))) (oIn true)))))
noncomputable def jy(aP:FF):SF:=aU (bz 2 (MC (aj (mSl (ao 0) (fNo) (fAt (M1 (mC (.int 1)) jc))) (aj (mSl (ao 0) (fNo) (fAt (M1 (mC (.int 1)) jc))) (au))) aP)) (aU (bz 3 (MC (aj (mSl (ao 1) (fNo) (fAt (M1 (mC (.int 1)) jc))) (aj (mSl (ao 1) (fNo) (fAt (M1 (mC (.int 1)) jc))) (au))) aP)) (bA (M2 (M2 (M2 (ao 2) (M2 (ao 1) (M1 (mC (.int 1)) jc) oIx) cF) (M2 (ao 1) (M1 (mC (.int 1)) jc) oIx) cF) (M2 (M2 (ao 3) (M2 (ao 0) (M1 (mC (.int 1)) jc) oIx) cF) (M2 (ao 0) (M1 (mC (.int 1)) jc) oIx) cF) oLt)))
noncomputable def cZ(iR fu iH gJ:FF):SF:=aU (sIf (jm (eU (iw (M1 (ao 1) (iV "tuple")))) (toB (M2 (MC (aj (ao 1) (au)) (bu cJ)) (mC (.int 0)) oEq))) (bA (mC (.bl false))) (bG)) (aU (sIf (jm (eU (iw (yt (mK ["step"] [0] (cI (ao 1)) (hName 0) (MC (aj (ao 1) (aj (ao 0) (au))) iR))))) (iw (Np (mJ (M2 (M2 (ao 1) (mC (.int 0)) oIx) (mC (.int 0)) oIx))))) (bA (mC (.bl false))) (bG)) (aU (sIf (eU (iw (yt (mK ["step","later"] [] (pq (aj (ao 1) (aj (mSl (ao 1) (fAt (mC (.int 1))) (fNo)) (au)))) (jl 2 (bH (hName 0) (bH (hName 1) (jf)))) (MC (aj (ao 0) (aj (ao 1) (au))) fu))))) (bA (mC (.bl false))) (bG)) (aU (bz 2 (mFz (lLC ["step"] [0] (cI (ao 1)) (hName 0) (aQ) (MC (aj (ao 1) (aj (ao 0) (au))) iH)))) (bA (nj (wB (Np (mJ (mSl (M2 (ao 2) (M1 (mC (.int 1)) jc) oIx) (fNo) (fAt (M1 (mC (.int 1)) jc)))))) (yt (mK ["mix","later"] [] (pq (aj (ao 2) (aj (mSl (ao 2) (fAt (mC (.int 1))) (fNo)) (au)))) (jl 2 (bH (hName 0) (bH (hName 1) (jf)))) (MC (aj (ao 1) (aj (ao 0) (au))) gJ))))))))
noncomputable def jG(fZ:FF):SF:=aU (bz 2 (M2 (MC (aj (mC (.int 0)) (au)) oLst) (MC (aj (M2 (ao 0) (mC (.int 0)) oIx) (au)) (bu cJ)) cF)) (aU (bz 3 (mC (.int 0))) (aU (km (cI (ao 1)) (jl 2 (bH (hName 4) (bH (hName 5) (jf)))) (aU (bz 3 (M2 (ao 3) (ao 5) cN)) (bz 2 (mFz (lLC ["_law_i"] [2,5,0,4] (bN (aj (MC (aj (ao 2) (au)) (bu cJ)) (au))) (hName 0) (aQ) (M2 (M2 (ao 1) (ao 0) oIx) (M2 (ao 2) (M2 (M2 (ao 3) (ao 4) oIx) (ao 0) oIx) cF) cN)))))) (bA (MC (aj (ao 2) (aj (ao 3) (au))) fZ))))
noncomputable def iG(aZ:FF):SF:=aU (bz 3 (mFz (lLC ["_law_k"] [0] (bN (aj (ao 1) (au))) (hName 0) (aQ) (MC (aj (ao 1) (aj (M2 (ao 0) (mC (.int 5)) cN) (au))) aZ)))) (aU (sIf (toB (M2 (ao 2) (mC (.int 0)) oEq)) (bA (mFz (lLC ["_law_one"] [] (cI (ao 3)) (hName 0) (aQ) (M2 (M2 (ao 0) (mC (.int 7)) oMod) (mC (.int 3)) jg)))) (bG)) (aU (sIf (toB (M2 (ao 2) (mC (.int 1)) oEq)) (bA (mFz (lLC ["_law_one"] [] (cI (ao 3)) (hName 0) (aQ) (M2 (M2 (ao 0) (mC (.int 41)) oMod) (mC (.int 20)) jg)))) (bG)) (aU (sIf (toB (M2 (ao 2) (mC (.int 2)) oEq)) (bA (mFz (lLC ["_law_one"] [] (cI (ao 3)) (hName 0) (aQ) (M2 (M2 (ao 0) (mC (.int 2000001)) oMod) (mC (.int 1000000)) jg)))) (bG)) (aU (sIf (toB (M2 (ao 2) (mC (.int 3)) oEq)) (bA (M2 (MC (aj (M2 (mC (.int 1)) (M2 (M2 (ao 3) (mC (.int 0)) oIx) (mC (.int 9)) oMod) cN) (au)) oLst) (mFz (lLC ["_law_one"] [] (cI (mSl (ao 3) (fAt (mC (.int 1))) (fNo))) (hName 0) (aQ) (M2 (M2 (ao 0) (mC (.int 11)) oMod) (mC (.int 5)) jg))) cN)) (bG)) (bA (M2 (MC (aj (M2 (mC (.int 3)) (M2 (M2 (M2 (M2 (ao 3) (mC (.int 0)) oIx) (mC (.int 9)) oDiv) (mC (.int 2)) oMod) (M2 (M2 (ao 3) (mC (.int 0)) oIx) (mC (.int 5)) oMod) cF) cN) (au)) oLst) (mFz (lLC ["_law_one"] [] (cI (mSl (ao 3) (fAt (mC (.int 1))) (fNo))) (hName 0) (aQ) (M2 (M2 (ao 0) (mC (.int 9)) oMod) (mC (.int 4)) jg))) cN))))))
noncomputable def mZ(bc cY cR:FF):SF:=aU (bz 3 (MC (aj (ao 0) (au)) bc)) (aU (bz 4 (M2 (mC (.int 1)) (M2 (M2 (ao 3) (mC (.int 9)) oDiv) (ao 2) oMod) cN)) (aU (bz 5 (M2 (ao 3) (mC (.int 9)) oMod)) (aU (bz 6 (nG (lLC ["_law_j"] [0,1,5] (bN (aj (ao 4) (au))) (hName 0) (aQ) (MC (aj (MC (aj (ao 1) (au)) bc) (aj (ao 2) (aj (M2 (ao 3) (mC (.int 5)) oMod) (au)))) cY)))) (aU (sIf (toB (M2 (ao 5) (mC (.int 5)) oEq)) (bz 6 (nG (Fv (ao 6) (mFz (lLC ["_law_row"] [] (cI (mSl (ao 6) (fNo) (fAt (M2 (mC (.int 1)) (M2 (ao 4) (mC (.int 2)) oDiv) cN)))) (hName 0) (aQ) (mFz (lLC ["_law_one"] [] (cI (ao 0)) (hName 0) (aQ) (M2 (mC (.int 0)) (ao 0) jg)))))))) (bG)) (aU (sIf (toB (M2 (ao 5) (mC (.int 6)) oEq)) (iU (lX (ao 6) (aj (mFz (lLC ["_law_k"] [6] (bN (aj (ao 1) (au))) (hName 0) (aQ) (M2 (mC (.int 0)) (uP (mJ (mFz (lLC ["_law_row"] [0] (cI (ao 1)) (hName 0) (aQ) (M2 (ao 0) (ao 1) oIx))))) jg))) (au)))) (bG)) (aU (sIf (toB (M2 (ao 5) (mC (.int 7)) oEq)) (bz 6 (nG (lLC ["_law_row"] [6] (cI (ao 6)) (hName 0) (aQ) (M2 (ao 1) (mC (.int 0)) oIx)))) (bG)) (aU (sIf (toB (M2 (ao 5) (mC (.int 8)) oEq)) (bz 6 (nG (lLC ["_law_j"] [6] (bN (aj (ao 4) (au))) (hName 0) (aQ) (mFz (lLC ["_law_one"] [0] (cI (M2 (ao 1) (mC (.int 0)) oIx)) (hName 0) (aQ) (M2 (M2 (M2 (ao 1) (mC (.int 5)) oMod) (mC (.int 1)) cN) (ao 0) cF)))))) (bG)) (bA (MC (aj (M2 (ao 3) (mC (.int 9000)) oDiv) (aj (KC (ao 6)) (aj (ao 1) (au)))) cR)))))))))
noncomputable def gn(aZ:FF):SF:=aU (bz 3 (mFz (zE (aj (mFz (lLC ["_law_k"] [0] (bN (aj (ao 2) (au))) (hName 0) (aQ) (MC (aj (MC (aj (ao 1) (aj (M2 (ao 0) (mC (.int 9)) cN) (au))) aZ) (aj (ao 0) (au))) oTup))) (au))))) (aU (bz 4 (mFz (lLC ["_law_mark"] [] (cI (ao 3)) (hName 0) (aQ) (M2 (mC (.int 1)) (M2 (mC (.int 2)) (M2 (M2 (M2 (ao 0) (mC (.int 0)) oIx) (mC (.int 3)) oDiv) (mC (.int 2)) oMod) cF) jg)))) (bA (mFz (lLC ["_law_row"] [2,4,3] (cI (ao 1)) (hName 0) (aQ) (MC (aj (mFz (lLC ["_law_k"] [2,0,3] (bN (aj (ao 1) (au))) (hName 0) (aQ) (M2 (M2 (ao 1) (ao 0) oIx) (M2 (ao 2) (M2 (M2 (ao 3) (ao 0) oIx) (mC (.int 1)) oIx) oIx) cF))) (au)) gG)))))
noncomputable def nQ(cO:FF):SF:=aU (sIf (jm (eU (iw (M1 (ao 1) (iV "tuple")))) (toB (M2 (ao 1) (MC (au) oTup) Ck))) (bA (mC (.bl false))) (bG)) (aU (bz 2 (M1 (mC (.int 1)) jc)) (aU (km (cI (ao 1)) (hName 3) (aU (sIf (jm (eU (iw (M1 (ao 3) (iV "tuple")))) (jm (toB (M2 (MC (aj (ao 3) (au)) (bu cJ)) (mC (.int 2)) oNe)) (jm (eU (iw (MC (aj (M2 (ao 3) (mC (.int 0)) oIx) (au)) cO))) (eU (iw (MC (aj (M2 (ao 3) (mC (.int 1)) oIx) (au)) cO)))))) (bA (mC (.bl false))) (bG)) (aU (sIf (jm (toB (M2 (M2 (ao 3) (mC (.int 0)) oIx) (ao 2) oLe)) (jm (toB (M2 (M2 (ao 3) (mC (.int 0)) oIx) (ao 0) oGe)) (toB (M2 (M2 (ao 3) (mC (.int 1)) oIx) (mC (.int 1)) oLt)))) (bA (mC (.bl false))) (bG)) (bz 2 (M2 (ao 3) (mC (.int 0)) oIx))))) (bA (mC (.bl true)))))
noncomputable def sO:SF:=bA (uP (mJ (mFz (lLC ["_law_one","_law_other"] [] (pq (aj (ao 0) (aj (ao 1) (au)))) (jl 2 (bH (hName 0) (bH (hName 1) (jf)))) (aQ) (M2 (ao 0) (ao 1) cF)))))
noncomputable def gF:SF:=bA (M2 (mFz (lLC ["_law_number"] [] (cI (mSl (ao 0) (fNo) (fAt (M1 (mC (.int 1)) jc)))) (hName 0) (toB (M2 (ao 0) (mC (.int 0)) oNe)) (ao 0))) (MC (au) oLst) oEq)
noncomputable def lV(eO bI dX:FF):SF:=aU (sIf (eU (iw (MC (aj (MC (aj (ao 0) (au)) (bu cJ)) (aj (ao 1) (au))) eO))) (bA (mC (.bl false))) (bG)) (aU (bz 2 (MC (aj (ao 0) (aj (ao 1) (au))) bI)) (aU (bz 3 (MC (aj (ao 2) (aj (mSl (ao 2) (fNo) (fAt (M1 (mC (.int 1)) jc))) (au))) dX)) (bA (M2 (mFz (lLC ["_law_arrow_here"] [2,3] (cI (ao 0)) (hName 0) (toB (M2 (M2 (MC (aj (ao 1) (aj (ao 0) (au))) dX) (M2 (ao 1) (M1 (mC (.int 1)) jc) oIx) cF) (ao 2) oLt)) (ao 0))) (MC (au) oLst) oEq))))
noncomputable def vH(bc aZ:FF):SF:=aU (bz 2 (MC (aj (ao 0) (au)) bc)) (aU (bz 3 (mFz (zE (aj (mFz (lLC ["_law_k"] [2] (bN (aj (MC (aj (ao 1) (au)) (bu cJ)) (au))) (hName 0) (aQ) (MC (aj (MC (aj (ao 1) (aj (M2 (ao 0) (mC (.int 2)) cN) (au))) aZ) (aj (ao 0) (au))) oTup))) (au))))) (bA (mFz (lLC ["_law_mark"] [1] (cI (ao 3)) (hName 0) (aQ) (M2 (ao 1) (M2 (ao 0) (mC (.int 1)) oIx) oIx)))))
noncomputable def qg(eO bI dX:FF):SF:=aU (sIf (eU (iw (MC (aj (MC (aj (ao 0) (au)) (bu cJ)) (aj (ao 1) (au))) eO))) (bA (mC (.bl false))) (bG)) (aU (bz 2 (MC (aj (ao 0) (aj (ao 1) (au))) bI)) (aU (bz 3 (MC (aj (ao 2) (aj (mSl (ao 2) (fNo) (fAt (M1 (mC (.int 1)) jc))) (au))) dX)) (bA (M2 (mFz (lLC ["_law_arrow_here"] [2,3] (cI (ao 0)) (hName 0) (toB (M2 (M2 (MC (aj (ao 1) (aj (ao 0) (au))) dX) (M2 (ao 1) (M1 (mC (.int 1)) jc) oIx) cF) (ao 2) oLt)) (ao 0))) (MC (au) oLst) oEq))))
noncomputable def rM(bc cY cR:FF):SF:=aU (bz 3 (MC (aj (ao 0) (au)) bc)) (aU (bz 4 (M2 (mC (.int 1)) (M2 (M2 (ao 3) (mC (.int 9)) oDiv) (ao 2) oMod) cN)) (aU (bz 5 (M2 (ao 3) (mC (.int 9)) oMod)) (aU (bz 6 (nG (lLC ["_law_j"] [0,1,5] (bN (aj (ao 4) (au))) (hName 0) (aQ) (MC (aj (MC (aj (ao 1) (au)) bc) (aj (ao 2) (aj (M2 (ao 3) (mC (.int 5)) oMod) (au)))) cY)))) (aU (sIf (toB (M2 (ao 5) (mC (.int 5)) oEq)) (bz 6 (nG (Fv (ao 6) (mFz (lLC ["_law_row"] [] (cI (mSl (ao 6) (fNo) (fAt (M2 (mC (.int 1)) (M2 (ao 4) (mC (.int 2)) oDiv) cN)))) (hName 0) (aQ) (mFz (lLC ["_law_one"] [] (cI (ao 0)) (hName 0) (aQ) (M2 (mC (.int 0)) (ao 0) jg)))))))) (bG)) (aU (sIf (toB (M2 (ao 5) (mC (.int 6)) oEq)) (iU (lX (ao 6) (aj (mFz (lLC ["_law_k"] [6] (bN (aj (ao 1) (au))) (hName 0) (aQ) (M2 (mC (.int 0)) (uP (mJ (mFz (lLC ["_law_row"] [0] (cI (ao 1)) (hName 0) (aQ) (M2 (ao 0) (ao 1) oIx))))) jg))) (au)))) (bG)) (aU (sIf (toB (M2 (ao 5) (mC (.int 7)) oEq)) (bz 6 (nG (lLC ["_law_row"] [6] (cI (ao 6)) (hName 0) (aQ) (M2 (ao 1) (mC (.int 0)) oIx)))) (bG)) (aU (sIf (toB (M2 (ao 5) (mC (.int 8)) oEq)) (bz 6 (nG (lLC ["_law_j"] [6] (bN (aj (ao 4) (au))) (hName 0) (aQ) (mFz (lLC ["_law_one"] [0] (cI (M2 (ao 1) (mC (.int 0)) oIx)) (hName 0) (aQ) (M2 (M2 (M2 (ao 1) (mC (.int 5)) oMod) (mC (.int 1)) cN) (ao 0) cF)))))) (bG)) (bA (MC (aj (M2 (ao 3) (mC (.int 9000)) oDiv) (aj (KC (ao 6)) (aj (ao 1) (au)))) cR)))))))))
noncomputable def mV:SF:=bA (MC (aj (mC .non) (aj (mC (.bl true)) (aj (mC (.bl false)) (aj (mC (.int 0)) (aj (mC (.int 1)) (aj (M1 (mC (.int 1)) jc) (aj (mC (.str "")) (aj (mC (.str "((0, 1),)")) (aj (MC (au) oLst) (aj (MN) (aj (MC (au) oTup) (aj (MC (aj (mC .non) (au)) oTup) (aj (MC (aj (mC (.int 0)) (au)) oTup) (aj (MC (aj (mC (.int 1)) (aj (mC (.int 1)) (au))) oTup) (aj (MC (aj (MC (au) oTup) (au)) oTup) (aj (MC (aj (MC (aj (mC (.int 0)) (au)) oTup) (au)) oTup) (aj (MC (aj (MC (aj (mC (.int 0)) (aj (mC (.int 1)) (aj (mC (.int 1)) (au)))) oTup) (au)) oTup) (aj (MC (aj (MC (aj (mC (.int 0)) (aj (mC (.int 1)) (au))) oTup) (au)) oLst) (aj (MC (aj (MC (aj (mC (.int 0)) (aj (mC (.int 1)) (au))) oLst) (au)) oTup) (aj (MC (aj (MC (aj (mC (.int 0)) (aj (mC (.str "1")) (au))) oTup) (au)) oTup) (aj (MC (aj (MC (aj (mC (.str "0")) (aj (mC (.int 1)) (au))) oTup) (au)) oTup) (aj (MC (aj (MC (aj (mC (.int 0)) (aj (mC .non) (au))) oTup) (au)) oTup) (aj (MC (aj (MC (aj (mC .non) (aj (mC (.int 1)) (au))) oTup) (au)) oTup) (aj (MC (aj (MC (aj (mC (.int 0)) (aj (MC (aj (mC (.int 1)) (au)) oTup) (au))) oTup) (au)) oTup) (aj (MC (aj (MC (aj (MC (aj (mC (.int 0)) (aj (mC (.int 1)) (au))) oTup) (au)) oTup) (au)) oTup) (aj (zW (mC (.int 0)) (mC (.int 1))) (aj (MC (aj (zW (mC (.int 0)) (mC (.int 1))) (au)) oTup) (aj (MC (aj (mC (.str "01")) (au)) oTup) (aj (MC (aj (MC (aj (mC (.int 0)) (aj (mC (.int 1)) (au))) oTup) (aj (mC .non) (au))) oTup) (aj (MC (aj (MC (aj (mC (.int 0)) (aj (mC (.int 1)) (au))) oTup) (aj (mC (.int 1)) (au))) oTup) (aj (MC (aj (MC (aj (mC (.int 0)) (aj (mC (.int 1)) (au))) oTup) (aj (MC (au) oLst) (au))) oTup) (aj (MC (aj (MC (aj (mC (.int 0)) (aj (mC (.int 1)) (au))) oTup) (aj (MC (aj (mC (.int 1)) (aj (mC (.int 1)) (au))) oLst) (au))) oTup) (aj (MC (aj (MC (aj (mC (.bl false)) (aj (mC (.int 1)) (au))) oTup) (au)) oTup) (aj (MC (aj (MC (aj (mC (.int 0)) (aj (mC (.bl true)) (au))) oTup) (au)) oTup) (aj (MC (aj (MC (aj (mC (.int 0)) (aj (mC (.int 0)) (au))) oTup) (au)) oTup) (aj (MC (aj (MC (aj (mC (.int 0)) (aj (M1 (mC (.int 1)) jc) (au))) oTup) (au)) oTup) (aj (MC (aj (MC (aj (M1 (mC (.int 1)) jc) (aj (mC (.int 1)) (au))) oTup) (au)) oTup) (aj (MC (aj (MC (aj (mC (.int 0)) (aj (mC (.int 1)) (au))) oTup) (aj (MC (aj (mC (.int 0)) (aj (mC (.int 1)) (au))) oTup) (au))) oTup) (au))))))))))))))))))))))))))))))))))))))) oLst)
noncomputable def nA(fZ:FF):SF:=aU (bz 2 (M2 (MC (aj (mC (.int 0)) (au)) oLst) (MC (aj (M2 (ao 0) (mC (.int 0)) oIx) (au)) (bu cJ)) cF)) (aU (bz 3 (mC (.int 0))) (aU (km (cI (ao 1)) (jl 2 (bH (hName 4) (bH (hName 5) (jf)))) (aU (bz 3 (M2 (ao 3) (ao 5) cN)) (bz 2 (mFz (lLC ["_law_i"] [2,5,0,4] (bN (aj (MC (aj (ao 2) (au)) (bu cJ)) (au))) (hName 0) (aQ) (M2 (M2 (ao 1) (ao 0) oIx) (M2 (ao 2) (M2 (M2 (ao 3) (ao 4) oIx) (ao 0) oIx) cF) cN)))))) (bA (MC (aj (ao 2) (aj (ao 3) (au))) fZ))))
noncomputable def gq(dX:FF):SF:=aU (yX 2 3 (aj (MC (aj (ao 0) (aj (mSl (ao 0) (fNo) (fAt (M1 (mC (.int 1)) jc))) (au))) dX) (aj (MC (aj (ao 1) (aj (mSl (ao 1) (fNo) (fAt (M1 (mC (.int 1)) jc))) (au))) dX) (au)))) (bA (M2 (M2 (M2 (ao 2) (M2 (ao 1) (M1 (mC (.int 1)) jc) oIx) cF) (M2 (ao 1) (M1 (mC (.int 1)) jc) oIx) cF) (M2 (M2 (ao 3) (M2 (ao 0) (M1 (mC (.int 1)) jc) oIx) cF) (M2 (ao 0) (M1 (mC (.int 1)) jc) oIx) cF) oLt))
noncomputable def jh(cO:FF):SF:=aU (sIf (jm (eU (iw (M1 (ao 1) (iV "tuple")))) (toB (M2 (ao 1) (MC (au) oTup) Ck))) (bA (mC (.bl false))) (bG)) (aU (bz 2 (M1 (mC (.int 1)) jc)) (aU (km (cI (ao 1)) (hName 3) (aU (sIf (jm (eU (iw (M1 (ao 3) (iV "tuple")))) (jm (toB (M2 (MC (aj (ao 3) (au)) (bu cJ)) (mC (.int 2)) oNe)) (jm (eU (iw (MC (aj (M2 (ao 3) (mC (.int 0)) oIx) (au)) cO))) (eU (iw (MC (aj (M2 (ao 3) (mC (.int 1)) oIx) (au)) cO)))))) (bA (mC (.bl false))) (bG)) (aU (sIf (jm (toB (M2 (M2 (ao 3) (mC (.int 0)) oIx) (ao 2) oLe)) (jm (toB (M2 (M2 (ao 3) (mC (.int 0)) oIx) (ao 0) oGe)) (toB (M2 (M2 (ao 3) (mC (.int 1)) oIx) (mC (.int 1)) oLt)))) (bA (mC (.bl false))) (bG)) (bz 2 (M2 (ao 3) (mC (.int 0)) oIx))))) (bA (mC (.bl true)))))
noncomputable def dW(cO:FF):SF:=aU (sIf (jm (eU (iw (M1 (ao 1) (iV "tuple")))) (toB (M2 (MC (aj (ao 1) (au)) (bu cJ)) (MC (aj (ao 0) (au)) (bu cJ)) oNe))) (bA (mC (.bl false))) (bG)) (aU (km (pq (aj (ao 0) (aj (ao 1) (au)))) (jl 2 (bH (hName 2) (bH (hName 3) (jf)))) (sIf (jm (eU (iw (MC (aj (ao 3) (au)) cO))) (jm (toB (M2 (ao 3) (mC (.int 0)) oLt)) (toB (M2 (ao 3) (MC (aj (ao 2) (au)) (bu cJ)) oGe)))) (bA (mC (.bl false))) (bG))) (bA (mC (.bl true))))
noncomputable def lz:SF:=bA (mFz (lLC ["_law_colour","_law_number"] [] (pq (aj (ao 0) (aj (ao 1) (au)))) (jl 2 (bH (hName 0) (bH (hName 1) (jf)))) (aQ) (M2 (ao 0) (ao 1) oIx)))
noncomputable def gb(fV dC gA:FF):SF:=aU (sIf (jm (eU (iw (M1 (ao 1) (iV "tuple")))) (jm (toB (M2 (MC (aj (ao 1) (au)) (bu cJ)) (mC (.int 2)) oNe)) (eU (iw (MC (aj (ao 0) (aj (M2 (ao 1) (mC (.int 0)) oIx) (au))) fV))))) (bA (mC (.bl false))) (bG)) (bA (MC (aj (MC (aj (ao 0) (aj (M2 (ao 1) (mC (.int 0)) oIx) (au))) dC) (aj (M2 (ao 1) (mC (.int 1)) oIx) (au))) gA))
noncomputable def iK(dC bI:FF):SF:=bA (MC (aj (MC (aj (ao 0) (aj (M2 (ao 1) (mC (.int 0)) oIx) (au))) dC) (aj (M2 (ao 1) (mC (.int 1)) oIx) (au))) bI)
noncomputable def jw(bU bY dO:FF):SF:=aU (bz 3 (MC (aj (ao 0) (aj (ao 1) (au))) bU)) (aU (bz 4 (mFz (lLC ["_law_k"] [1,2] (bN (aj (MC (aj (ao 0) (au)) (bu cJ)) (au))) (hName 0) (toB (M2 (M2 (M2 (ao 1) (mC (.int 0)) oIx) (ao 0) oIx) (M2 (M2 (ao 2) (mC (.int 0)) oIx) (ao 0) oIx) oNe)) (ao 0)))) (aU (sIf (jm (iw (MC (aj (ao 3) (au)) bY)) (jm (toB (M2 (MC (aj (ao 4) (au)) (bu cJ)) (mC (.int 1)) oNe)) (toB (M2 (M2 (ao 4) (mC (.int 0)) oIx) (mFz (lLC ["_law_k","_law_share"] [] (cI (M2 (ao 1) (mC (.int 1)) oIx)) (jl 2 (bH (hName 0) (bH (hName 1) (jf)))) (aQ) (ao 0))) (oIn false))))) (bA (mC (.bl false))) (bG)) (bA (MC (aj (MC (aj (ao 0) (aj (ao 2) (au))) bU) (aj (ao 3) (au))) dO))))
noncomputable def eV(gB bU bY gD:FF):SF:=aU (sIf (jm (eU (iw (M1 (ao 1) (iV "tuple")))) (toB (M2 (ao 1) (MC (au) oTup) Ck))) (bA (mC (.bl false))) (bG)) (aU (sIf (toB (M2 (mFz (lLC ["_law_step"] [0] (cI (ao 1)) (hName 0) (eU (iw (MC (aj (ao 1) (aj (ao 0) (au))) gB))) (ao 0))) (MC (au) oLst) FN)) (bA (mC (.bl false))) (bG)) (aU (sIf (jm (toB (M2 (M2 (M2 (ao 1) (mC (.int 0)) oIx) (mC (.int 0)) oIx) (M2 (MC (aj (mC (.int 0)) (au)) oTup) (MC (aj (ao 0) (au)) (bu cJ)) cF) oNe)) (eU (iw (MC (aj (MC (aj (ao 0) (aj (M2 (ao 1) (M1 (mC (.int 1)) jc) oIx) (au))) bU) (au)) bY)))) (bA (mC (.bl false))) (bG)) (aU (bz 2 (mFz (lLC ["_law_at"] [0,1] (bN (aj (M2 (MC (aj (ao 1) (au)) (bu cJ)) (mC (.int 1)) jg) (au))) (hName 0) (aQ) (MC (aj (ao 1) (aj (M2 (ao 2) (ao 0) oIx) (aj (M2 (ao 2) (M2 (ao 0) (mC (.int 1)) cN) oIx) (au)))) gD)))) (bA (M2 (mC (.bl false)) (ao 2) (oIn true))))))
noncomputable def fK(bc cY aZ gK:FF):SF:=aU (bz 3 (nG (lLC ["_law_j"] [0,1] (bN (aj (ao 2) (au))) (hName 0) (aQ) (MC (aj (MC (aj (ao 1) (au)) bc) (aj (ao 2) (aj (M2 (MC (aj (ao 1) (au)) bc) (mC (.int 2)) oMod) (au)))) cY)))) (aU (bz 4 (MC (aj (ao 0) (au)) bc)) (aU (bz 5 (mFz (lLC ["_law_j"] [4] (bN (aj (ao 2) (au))) (hName 0) (aQ) (M2 (mC (.int 1)) (M2 (MC (aj (ao 1) (aj (ao 0) (au))) aZ) (mC (.int 3)) oMod) cN)))) (aU (iU (lX (ao 3) (aj (mFz (lLC ["_law_k"] [2,5,3] (bN (aj (ao 1) (au))) (hName 0) (aQ) (M2 (mC (.int 0)) (uP (mJ (mFz (lLC ["_law_j"] [2,3,0] (bN (aj (ao 1) (au))) (hName 0) (aQ) (M2 (M2 (ao 1) (ao 0) oIx) (M2 (M2 (ao 2) (ao 0) oIx) (ao 3) oIx) cF))))) jg))) (au)))) (aU (sIf (toB (M2 (M2 (ao 4) (mC (.int 4)) oMod) (mC (.int 0)) oEq)) (iU (lX (ao 3) (aj (MC (aj (M2 (ao 4) (mC (.int 4)) oDiv) (aj (ao 1) (aj (mC (.int 1)) (au)))) cY) (au)))) (bG)) (bA (mFz (lLC ["_law_row"] [] (cI (MC (aj (ao 0) (aj (ao 3) (au))) gK)) (hName 0) (aQ) (MC (aj (ao 0) (au)) gG))))))))
noncomputable def dN(bc dM:FF):SF:=bA (mFz (lLC ["_law_k"] [0,1,2] (bN (aj (M2 (ao 1) (mC (.int 1)) cN) (au))) (hName 0) (aQ) (MC (aj (ao 1) (aj (ao 2) (aj (M2 (mC (.int 1)) (M2 (MC (aj (ao 1) (au)) bc) (ao 3) oMod) cN) (au)))) dM)))
noncomputable def gW(bc aZ:FF):SF:=aU (bz 2 (MC (aj (ao 0) (au)) bc)) (aU (bz 3 (mFz (zE (aj (mFz (lLC ["_law_k"] [2] (bN (aj (MC (aj (ao 1) (au)) (bu cJ)) (au))) (hName 0) (aQ) (MC (aj (MC (aj (ao 1) (aj (M2 (ao 0) (mC (.int 2)) cN) (au))) aZ) (aj (ao 0) (au))) oTup))) (au))))) (bA (mFz (lLC ["_law_mark"] [1] (cI (ao 3)) (hName 0) (aQ) (M2 (ao 1) (M2 (ao 0) (mC (.int 1)) oIx) oIx)))))
noncomputable def uI(jx bc cX iQ fX dg cA jF:FF):SF:=aU (bz 1 (MC (aj (ao 0) (au)) jx)) (aU (km (bN (aj (mC (.int 3)) (au))) (hName 2) (aU (bz 3 (M2 (mC (.int 1)) (M2 (MC (aj (ao 1) (au)) bc) (mC (.int 4)) oMod) cN)) (aU (bz 4 (MC (aj (ao 1) (aj (ao 3) (aj (mC (.int 3)) (au)))) cX)) (aU (sIf (toB (M2 (M2 (MC (aj (ao 1) (au)) bc) (mC (.int 2)) oMod) (mC (.int 0)) oEq)) (bz 4 (mFz (lLC ["_law_k"] [1,3] (bN (aj (M2 (ao 3) (mC (.int 1)) cN) (au))) (hName 0) (aQ) (MC (aj (ao 1) (aj (ao 2) (aj (mC (.int 4)) (au)))) iQ)))) (bG)) (aU (bz 5 (M2 (MC (aj (mC (.int 0)) (au)) oTup) (MC (aj (ao 4) (au)) (bu cJ)) cF)) (aU (bz 6 (MC (aj (mFz (lLC ["_law_colour"] [] (cI (ao 4)) (hName 0) (aQ) (M2 (MC (aj (ao 0) (au)) (bu cJ)) (mC (.int 1)) jg))) (au)) gG)) (aU (bz 7 (nG (qU (aj (ao 5) (aj (ao 6) (aj (MC (aj (ao 5) (au)) oTup) (aj (MC (aj (MC (aj (ao 5) (au)) oTup) (au)) oTup) (aj (MC (aj (MC (aj (ao 5) (aj (MC (au) oTup) (au))) oTup) (au)) oTup) (aj (MC (aj (MC (aj (ao 5) (aj (mC .non) (au))) oTup) (au)) oTup) (aj (MC (aj (MC (aj (ao 5) (aj (ao 5) (au))) oTup) (au)) oTup) (aj (MC (aj (ao 5) (aj (MC (au) oTup) (au))) oTup) (au)))))))))))) (aU (km (cI (MC au fX)) (hName 8) (iU (Jh (ao 7) (qU (aj (ao 8) (aj (MC (aj (ao 8) (au)) oTup) (aj (MC (aj (MC (aj (ao 5) (aj (ao 8) (au))) oTup) (au)) oTup) (aj (MC (aj (MC (aj (ao 8) (aj (MC (aj (MC (aj (mC (.int 0)) (aj (mC (.int 1)) (au))) oTup) (au)) oTup) (au))) oTup) (au)) oTup) (aj (MC (aj (MC (aj (ao 8) (aj (ao 8) (au))) oTup) (au)) oTup) (au)))))))))) (aU (km (cI (ao 7)) (hName 8) (sIf (eU (iw (MC (aj (MC (aj (ao 4) (aj (ao 8) (au))) cA) (aj (MC (aj (ao 4) (aj (ao 8) (au))) dg) (au))) jF))) (bA (mC (.bl false))) (bG))) (sIf (jm (iw (MC (aj (ao 4) (aj (MC (au) oTup) (au))) dg)) (toB (M2 (MC (aj (ao 4) (aj (MC (au) oTup) (au))) cA) (mC (.bl false)) sr))) (bA (mC (.bl false))) (bG))))))))))) (bA (mC (.bl true))))
end LG
namespace Lk49
open PySem PySem.Spec PyProof.Rows L2 L3 LG
def top(i:Nat):Stmt:=PySem.Challenge.pw_heapsmeet_k49_no_trails.main.body.getD i (.Pass ⟨0,0,0,0⟩)
structure BI(K:PySem.W.Frag)(mg:Str->Option Value):Prop where
 b_abs:mg "abs"=none
 b_all:mg "all"=none
 b_any:mg "any"=none
 b_bool:mg "bool"=none
 b_int:mg "int"=none
 b_isinstance:mg "isinstance"=none
 b_len:mg "len"=none
 b_min:mg "min"=none
 b_range:mg "range"=none
 b_sorted:mg "sorted"=none
 b_sum:mg "sum"=none
 b_tuple:mg "tuple"=none
 b_zip:mg "zip"=none
variable {P:Program} {w:World} {K:PySem.W.Frag} {mg:Str->Option Value} {base:Heap} {tb:List Addr} {f Tb:Addr} {fd:FuncData}
abbrev xP:Stmt:=top 27
theorem Af:aW ["_law_cell","_law_k","_law_number"] ["_law_cell","_law_k"] (aO xP):=⟨rfl,rfl,rfl,by decide +kernel,rfl,by decide +kernel,by decide +kernel⟩
theorem Il(T:BI K mg)(F:dG K "_law_mixed" "_law_mixed" xP f fd Tb)(KB:K.In base)(hmg:mg "_law_mixed"=some (.ref f)):FI P w K mg base tb "_law_mixed" 2 (0+1) (aJ 3 (ji)):=
 cB F KB hmg Af rfl (λ_ _ _ _ _ _=>us2 λ_ _=>rfl) λc A outer s H E hcd hr=>by
  have nd:=Af.nd
  refine aB ?_ (aF (aN (aK dF (aK dB (pdv 2) (pdv 2)) az)))
  refine bw (i:=2) nd ?_
  refine aK dF ?_ az
  refine aK dZ ?_ az
  exact aK dZ (aK dB (aK dF (pdv 0) az) az) (aK dB (aK dB az (pdv 1)) (pdv 1))
abbrev wQ:Stmt:=top 28
theorem zT:aW ["_law_script","_law_drawn","_law_k","_law_cell","_law_j"] ["_law_script"] (aO wQ):=⟨rfl,rfl,rfl,by decide +kernel,rfl,by decide +kernel,by decide +kernel⟩
theorem Jo{aZ:FF}(T:BI K mg)(F:dG K "_law_draws" "_law_draws" wQ f fd Tb)(KB:K.In base)(hmg:mg "_law_draws"=some (.ref f))(F_Lmixed:FI P w K mg base tb "_law_mixed" 2 1 aZ):FI P w K mg base tb "_law_draws" 1 (1+1) (aJ 5 (pQ aZ)):=
 cB F KB hmg zT rfl (λ_ _ _ _ _ _=>us1 λ_=>rfl) λc A outer s H E hcd hr=>by
  have nd:=zT.nd
  refine aB (bw (i:=1) nd (nW (Bw aq))) ?_
  refine aB ?_ (aF (aN (pdv 1)))
  refine jX (ts:=[2]) PassesOwn.never rfl ?_ (aH (i:=2) nd) ?_
  refine bM T.b_range ?_
  refine aa ?_ aq
  refine Py rfl T.b_min ?_
  exact aa (dh T.b_len (aa (pdv 0) aq)) (aa az aq)
  refine aB (bw (i:=3) nd (wO T.b_abs (aa (bB (pdv 0) (pdv 2)) aq))) ?_
  refine aB ?_ ?_
  refine cg (bx pZ (pdv 3) (aK NZ az az)) ?_ bh
  refine aF ?_
  refine jX (ts:=[4]) PassesOwn.never rfl (bM T.b_range (aa az aq)) (aH (i:=4) nd) ?_
  refine aF ?_
  refine lL ?_
  refine lB (pdv 1) ?_
  refine aa ?_ aq
  refine aL F_Lmixed (hr.mono (by decide)) ?_ (aA (aA aM))
  refine aa ?_ (aa (aK dZ (aK dZ (pdv 4) (pdv 2)) az) aq)
  refine aL F_Lmixed (hr.mono (by decide)) ?_ (aA (aA aM))
  exact aa (pdv 3) (aa (aK dZ (aK dB az (pdv 4)) az) aq)
  refine aB ?_ ?_
  refine uE PassesOwn.never ?_ ?_
  refine iY ?_
  exact Oj (bx zH (pdv 3) (aK NZ az az)) (Lj (bx pZ (dh T.b_len (aa (pdv 1) aq)) az))
  refine aB ?_ (aF (bw (i:=3) nd (aK mR (pdv 3) az)))
  exact lL (lB (pdv 1) (aa (aK dF (pdv 3) az) aq))
  refine aF ?_
  refine cg (bx zH (pdv 3) az) ?_ bh
  refine aF ?_
  exact lL (lB (pdv 1) (aa (aK dF (pdv 3) az) aq))
abbrev Be:Stmt:=top 29
theorem Ey:aW ["_law_drawn"] ["_law_drawn"] (aO Be):=⟨rfl,rfl,rfl,by decide +kernel,rfl,by decide +kernel,by decide +kernel⟩
theorem Nq(T:BI K mg)(F:dG K "_law_next" "_law_next" Be f fd Tb)(KB:K.In base)(hmg:mg "_law_next"=some (.ref f)):FI P w K mg base tb "_law_next" 1 (0+1) (aJ 1 (jZ)):=
 cB F KB hmg Ey rfl (λ_ _ _ _ _ _=>us1 λ_=>rfl) λc A outer s H E hcd hr=>by
  have nd:=Ey.nd
  refine aB ?_ (aF (aN (Qs (pdv 0))))
  exact cg (bx (jH hr) (pdv 0) (jP aq)) (aF (aN az)) bh
abbrev xq:Stmt:=top 40
theorem Ad:aW ["_law_number","_law_size","_law_kind","_law_row"] ["_law_number","_law_size","_law_kind"] (aO xq):=⟨rfl,rfl,rfl,by decide +kernel,rfl,by decide +kernel,by decide +kernel⟩
theorem Ii{aZ:FF}(T:BI K mg)(F:dG K "_law_arrow" "_law_arrow" xq f fd Tb)(KB:K.In base)(hmg:mg "_law_arrow"=some (.ref f))(F_Lmixed:FI P w K mg base tb "_law_mixed" 2 1 aZ):FI P w K mg base tb "_law_arrow" 3 (1+1) (aJ 4 (iG aZ)):=
 cB F KB hmg Ad rfl (λ_ _ _ _ _ _=>us3 λ_ _ _=>rfl) λc A outer s H E hcd hr=>by
  have nd:=Ad.nd
  refine aB ?_ ?_
  refine mG (i:=3) nd (own:=["_law_k"]) (cap:=["_law_number"]) (capI:=[0]) (ts:=[0]) rfl ⟨rfl,by decide +kernel,⟨⟨rfl,by first|exact Or.inl rfl|exact Or.inr rfl⟩,trivial⟩,by decide +kernel,by decide +kernel⟩ (by decide +kernel) (bM T.b_range (aa (pdv 1) aq)) (λcs C fp s2 H2=>aH (i:=0) (show(["_law_k","_law_number"]:List Str).Nodup by decide +kernel)) ?_ ?_
  intro cs C fp s2 H2
  exact aY
  intro cs C fp s2 H2
  exact aL F_Lmixed (hr.mono (by decide)) (aa (pdv 1) (aa (aK dZ (pdv 0) az) aq)) (aA (aA aM))
  refine aB ?_ ?_
  refine cg (bx (jH hr) (pdv 2) az) ?_ bh
  refine aF ?_
  refine aN ?_
  refine cj ?_
  refine bT (own:=["_law_one"]) (cap:=[]) (capI:=[]) (ts:=[0]) rfl ⟨rfl,by decide +kernel,trivial,by decide +kernel,by decide +kernel⟩ (by decide +kernel) (bF (pdv 3)) (λcs C fp s2 H2=>aH (i:=0) (show(["_law_one"]:List Str).Nodup by decide +kernel)) ?_ ?_
  intro cs C fp s2 H2
  exact aY
  intro cs C fp s2 H2
  exact aK kJ (aK dF (pdv 0) az) az
  refine aB ?_ ?_
  refine cg (bx (jH hr) (pdv 2) az) ?_ bh
  refine aF ?_
  refine aN ?_
  refine cj ?_
  refine bT (own:=["_law_one"]) (cap:=[]) (capI:=[]) (ts:=[0]) rfl ⟨rfl,by decide +kernel,trivial,by decide +kernel,by decide +kernel⟩ (by decide +kernel) (bF (pdv 3)) (λcs C fp s2 H2=>aH (i:=0) (show(["_law_one"]:List Str).Nodup by decide +kernel)) ?_ ?_
  intro cs C fp s2 H2
  exact aY
  intro cs C fp s2 H2
  exact aK kJ (aK dF (pdv 0) az) az
  refine aB ?_ ?_
  refine cg (bx (jH hr) (pdv 2) az) ?_ bh
  refine aF ?_
  refine aN ?_
  refine cj ?_
  refine bT (own:=["_law_one"]) (cap:=[]) (capI:=[]) (ts:=[0]) rfl ⟨rfl,by decide +kernel,trivial,by decide +kernel,by decide +kernel⟩ (by decide +kernel) (bF (pdv 3)) (λcs C fp s2 H2=>aH (i:=0) (show(["_law_one"]:List Str).Nodup by decide +kernel)) ?_ ?_
  intro cs C fp s2 H2
  exact aY
  intro cs C fp s2 H2
  exact aK kJ (aK dF (pdv 0) az) az
  refine aB ?_ ?_
  refine cg (bx (jH hr) (pdv 2) az) ?_ bh
  refine aF ?_
  refine aN ?_
  refine aK dZ ?_ ?_
  refine jP ?_
  exact aa (aK dZ az (aK dF (bB (pdv 3) az) az)) aq
  refine cj ?_
  refine bT (own:=["_law_one"]) (cap:=[]) (capI:=[]) (ts:=[0]) rfl ⟨rfl,by decide +kernel,trivial,by decide +kernel,by decide +kernel⟩ (by decide +kernel) (bF (fJ (pdv 3) (fD az) fH)) (λcs C fp s2 H2=>aH (i:=0) (show(["_law_one"]:List Str).Nodup by decide +kernel)) ?_ ?_
  intro cs C fp s2 H2
  exact aY
  intro cs C fp s2 H2
  exact aK kJ (aK dF (pdv 0) az) az
  refine aF ?_
  refine aN ?_
  refine aK dZ ?_ ?_
  refine jP ?_
  refine aa ?_ aq
  refine aK dZ az ?_
  exact aK dB (aK dF (aK mR (bB (pdv 3) az) az) az) (aK dF (bB (pdv 3) az) az)
  refine cj ?_
  refine bT (own:=["_law_one"]) (cap:=[]) (capI:=[]) (ts:=[0]) rfl ⟨rfl,by decide +kernel,trivial,by decide +kernel,by decide +kernel⟩ (by decide +kernel) (bF (fJ (pdv 3) (fD az) fH)) (λcs C fp s2 H2=>aH (i:=0) (show(["_law_one"]:List Str).Nodup by decide +kernel)) ?_ ?_
  intro cs C fp s2 H2
  exact aY
  intro cs C fp s2 H2
  exact aK kJ (aK dF (pdv 0) az) az
abbrev qi:Stmt:=top 43
theorem tL:aW ["_law_drawn","_law_things_here","_law_number","_law_order"] ["_law_drawn","_law_things_here"] (aO qi):=⟨rfl,rfl,rfl,by decide +kernel,rfl,by decide +kernel,by decide +kernel⟩
theorem Ca{bc aZ:FF}(T:BI K mg)(F:dG K "_law_shuffled" "_law_shuffled" qi f fd Tb)(KB:K.In base)(hmg:mg "_law_shuffled"=some (.ref f))(F_Lnext:FI P w K mg base tb "_law_next" 1 1 bc)(F_Lmixed:FI P w K mg base tb "_law_mixed" 2 1 aZ):FI P w K mg base tb "_law_shuffled" 2 (1+1) (aJ 4 (gW bc aZ)):=
 cB F KB hmg tL rfl (λ_ _ _ _ _ _=>us2 λ_ _=>rfl) λc A outer s H E hcd hr=>by
  have nd:=tL.nd
  refine aB ?_ ?_
  exact bw (i:=2) nd (aL F_Lnext (hr.mono (by decide)) (aa (pdv 0) aq) (aA aM))
  refine aB ?_ ?_
  refine bw (i:=3) nd ?_
  refine cj ?_
  refine El T.b_sorted ?_
  refine aa ?_ aq
  refine cj ?_
  refine bT (own:=["_law_k"]) (cap:=["_law_number"]) (capI:=[2]) (ts:=[0]) rfl ⟨rfl,by decide +kernel,⟨⟨rfl,by first|exact Or.inl rfl|exact Or.inr rfl⟩,trivial⟩,by decide +kernel,by decide +kernel⟩ (by decide +kernel) (bM T.b_range (aa (dh T.b_len (aa (pdv 1) aq)) aq)) (λcs C fp s2 H2=>aH (i:=0) (show(["_law_k","_law_number"]:List Str).Nodup by decide +kernel)) ?_ ?_
  intro cs C fp s2 H2
  exact aY
  intro cs C fp s2 H2
  refine aR ?_
  refine aa ?_ (aa (pdv 0) aq)
  exact aL F_Lmixed (hr.mono (by decide)) (aa (pdv 1) (aa (aK dZ (pdv 0) az) aq)) (aA (aA aM))
  refine aF ?_
  refine aN ?_
  refine cj ?_
  refine bT (own:=["_law_mark"]) (cap:=["_law_things_here"]) (capI:=[1]) (ts:=[0]) rfl ⟨rfl,by decide +kernel,⟨⟨rfl,by first|exact Or.inl rfl|exact Or.inr rfl⟩,trivial⟩,by decide +kernel,by decide +kernel⟩ (by decide +kernel) (bF (pdv 3)) (λcs C fp s2 H2=>aH (i:=0) (show(["_law_mark","_law_things_here"]:List Str).Nodup by decide +kernel)) ?_ ?_
  intro cs C fp s2 H2
  exact aY
  intro cs C fp s2 H2
  exact bB (pdv 1) (bB (pdv 0) az)
abbrev lO:Stmt:=top 51
theorem pg:aW ["_law_drawn","_law_size","_law_many","_law_rows","_law_number","_law_shares"] ["_law_drawn","_law_size","_law_many"] (aO lO):=⟨rfl,rfl,rfl,by decide +kernel,rfl,by decide +kernel,by decide +kernel⟩
theorem vQ{bc cY aZ gK:FF}(T:BI K mg)(F:dG K "_law_held_colour" "_law_held_colour" lO f fd Tb)(KB:K.In base)(hmg:mg "_law_held_colour"=some (.ref f))(F_Lnext:FI P w K mg base tb "_law_next" 1 1 bc)(F_Larrow:FI P w K mg base tb "_law_arrow" 3 2 cY)(F_Lmixed:FI P w K mg base tb "_law_mixed" 2 1 aZ)(F_Lshuffled:FI P w K mg base tb "_law_shuffled" 2 2 gK):FI P w K mg base tb "_law_held_colour" 3 (2+1) (aJ 6 (fK bc cY aZ gK)):=
 cB F KB hmg pg rfl (λ_ _ _ _ _ _=>us3 λ_ _ _=>rfl) λc A outer s H E hcd hr=>by
  have nd:=pg.nd
  refine aB ?_ ?_
  refine bw (i:=3) nd ?_
  refine nW ?_
  refine bT (own:=["_law_j"]) (cap:=["_law_drawn","_law_size"]) (capI:=[0,1]) (ts:=[0]) rfl ⟨rfl,by decide +kernel,⟨⟨rfl,by first|exact Or.inl rfl|exact Or.inr rfl⟩,⟨⟨rfl,by first|exact Or.inl rfl|exact Or.inr rfl⟩,trivial⟩⟩,by decide +kernel,by decide +kernel⟩ (by decide +kernel) (bM T.b_range (aa (pdv 2) aq)) (λcs C fp s2 H2=>aH (i:=0) (show(["_law_j","_law_drawn","_law_size"]:List Str).Nodup by decide +kernel)) ?_ ?_
  intro cs C fp s2 H2
  exact aY
  intro cs C fp s2 H2
  refine aL F_Larrow (hr.mono (by decide)) ?_ (aA (aA (aA aM)))
  refine aa (aL F_Lnext (hr.mono (by decide)) (aa (pdv 1) aq) (aA aM)) ?_
  refine aa (pdv 2) ?_
  refine aa ?_ aq
  exact aK dF (aL F_Lnext (hr.mono (by decide)) (aa (pdv 1) aq) (aA aM)) az
  refine aB ?_ ?_
  exact bw (i:=4) nd (aL F_Lnext (hr.mono (by decide)) (aa (pdv 0) aq) (aA aM))
  refine aB ?_ ?_
  refine bw (i:=5) nd ?_
  refine cj ?_
  refine bT (own:=["_law_j"]) (cap:=["_law_number"]) (capI:=[4]) (ts:=[0]) rfl ⟨rfl,by decide +kernel,⟨⟨rfl,by first|exact Or.inl rfl|exact Or.inr rfl⟩,trivial⟩,by decide +kernel,by decide +kernel⟩ (by decide +kernel) (bM T.b_range (aa (pdv 2) aq)) (λcs C fp s2 H2=>aH (i:=0) (show(["_law_j","_law_number"]:List Str).Nodup by decide +kernel)) ?_ ?_
  intro cs C fp s2 H2
  exact aY
  intro cs C fp s2 H2
  refine aK dZ az ?_
  exact aK dF (aL F_Lmixed (hr.mono (by decide)) (aa (pdv 1) (aa (pdv 0) aq)) (aA (aA aM))) az
  refine aB ?_ ?_
  refine lL ?_
  refine lB (pdv 3) ?_
  refine aa ?_ aq
  refine cj ?_
  refine bT (own:=["_law_k"]) (cap:=["_law_many","_law_shares","_law_rows"]) (capI:=[2,5,3]) (ts:=[0]) rfl ⟨rfl,by decide +kernel,⟨⟨rfl,by first|exact Or.inl rfl|exact Or.inr rfl⟩,⟨⟨rfl,by first|exact Or.inl rfl|exact Or.inr rfl⟩,⟨⟨rfl,by first|exact Or.inl rfl|exact Or.inr rfl⟩,trivial⟩⟩⟩,by decide +kernel,by decide +kernel⟩ (by decide +kernel) (bM T.b_range (aa (pdv 1) aq)) (λcs C fp s2 H2=>aH (i:=0) (show(["_law_k","_law_many","_law_shares","_law_rows"]:List Str).Nodup by decide +kernel)) ?_ ?_
  intro cs C fp s2 H2
  exact aY
  intro cs C fp s2 H2
  refine aK kJ az ?_
  refine xn rfl T.b_sum ?_
  refine lC rfl ?_
  refine cj ?_
  refine bT (own:=["_law_j"]) (cap:=["_law_shares","_law_rows","_law_k"]) (capI:=[2,3,0]) (ts:=[0]) rfl ⟨rfl,by decide +kernel,⟨⟨rfl,by first|exact Or.inl rfl|exact Or.inr rfl⟩,⟨⟨rfl,by first|exact Or.inl rfl|exact Or.inr rfl⟩,⟨⟨rfl,by first|exact Or.inl rfl|exact Or.inr rfl⟩,trivial⟩⟩⟩,by decide +kernel,by decide +kernel⟩ (by decide +kernel) (bM T.b_range (aa (pdv 1) aq)) (λcs C fp s2 H2=>aH (i:=0) (show(["_law_j","_law_shares","_law_rows","_law_k"]:List Str).Nodup by decide +kernel)) ?_ ?_
  intro cs C fp s2 H2
  exact aY
  intro cs C fp s2 H2
  exact aK dB (bB (pdv 1) (pdv 0)) (bB (bB (pdv 2) (pdv 0)) (pdv 3))
  refine aB ?_ ?_
  refine cg (bx (jH hr) (aK dF (pdv 4) az) az) ?_ bh
  refine aF ?_
  refine lL ?_
  refine lB (pdv 3) ?_
  refine aa ?_ aq
  refine aL F_Larrow (hr.mono (by decide)) ?_ (aA (aA (aA aM)))
  exact aa (aK mR (pdv 4) az) (aa (pdv 1) (aa az aq))
  refine aF ?_
  refine aN ?_
  refine cj ?_
  refine bT (own:=["_law_row"]) (cap:=[]) (capI:=[]) (ts:=[0]) rfl ⟨rfl,by decide +kernel,trivial,by decide +kernel,by decide +kernel⟩ (by decide +kernel) ?_ (λcs C fp s2 H2=>aH (i:=0) (show(["_law_row"]:List Str).Nodup by decide +kernel)) ?_ ?_
  exact bF (aL F_Lshuffled (hr.mono (by decide)) (aa (pdv 0) (aa (pdv 3) aq)) (aA (aA aM)))
  intro cs C fp s2 H2
  exact aY
  intro cs C fp s2 H2
  exact tG T.b_tuple (aa (pdv 0) aq)
abbrev kE:Stmt:=top 52
theorem nq:aW ["_law_drawn","_law_size","_law_most"] ["_law_drawn","_law_size","_law_most"] (aO kE):=⟨rfl,rfl,rfl,by decide +kernel,rfl,by decide +kernel,by decide +kernel⟩
theorem uC{bc dM:FF}(T:BI K mg)(F:dG K "_law_held_colours" "_law_held_colours" kE f fd Tb)(KB:K.In base)(hmg:mg "_law_held_colours"=some (.ref f))(F_Lnext:FI P w K mg base tb "_law_next" 1 1 bc)(F_Lheld_colour:FI P w K mg base tb "_law_held_colour" 3 3 dM):FI P w K mg base tb "_law_held_colours" 3 (3+1) (aJ 3 (dN bc dM)):=
 cB F KB hmg nq rfl (λ_ _ _ _ _ _=>us3 λ_ _ _=>rfl) λc A outer s H E hcd hr=>by
  have nd:=nq.nd
  refine aF ?_
  refine aN ?_
  refine cj ?_
  refine bT (own:=["_law_k"]) (cap:=["_law_drawn","_law_size","_law_most"]) (capI:=[0,1,2]) (ts:=[0]) rfl ⟨rfl,by decide +kernel,⟨⟨rfl,by first|exact Or.inl rfl|exact Or.inr rfl⟩,⟨⟨rfl,by first|exact Or.inl rfl|exact Or.inr rfl⟩,⟨⟨rfl,by first|exact Or.inl rfl|exact Or.inr rfl⟩,trivial⟩⟩⟩,by decide +kernel,by decide +kernel⟩ (by decide +kernel) (bM T.b_range (aa (aK dZ (pdv 1) az) aq)) (λcs C fp s2 H2=>aH (i:=0) (show(["_law_k","_law_drawn","_law_size","_law_most"]:List Str).Nodup by decide +kernel)) ?_ ?_
  intro cs C fp s2 H2
  exact aY
  intro cs C fp s2 H2
  refine aL F_Lheld_colour (hr.mono (by decide)) ?_ (aA (aA (aA aM)))
  refine aa (pdv 1) ?_
  refine aa (pdv 2) ?_
  refine aa ?_ aq
  refine aK dZ az ?_
  exact aK dF (aL F_Lnext (hr.mono (by decide)) (aa (pdv 1) aq) (aA aM)) (pdv 3)
abbrev lJ:Stmt:=top 42
theorem pB:aW ["_law_number","_law_rows","_law_size","_law_order","_law_sign"] ["_law_number","_law_rows","_law_size"] (aO lJ):=⟨rfl,rfl,rfl,by decide +kernel,rfl,by decide +kernel,by decide +kernel⟩
theorem vO{aZ:FF}(T:BI K mg)(F:dG K "_law_turned_rows" "_law_turned_rows" lJ f fd Tb)(KB:K.In base)(hmg:mg "_law_turned_rows"=some (.ref f))(F_Lmixed:FI P w K mg base tb "_law_mixed" 2 1 aZ):FI P w K mg base tb "_law_turned_rows" 3 (1+1) (aJ 5 (gn aZ)):=
 cB F KB hmg pB rfl (λ_ _ _ _ _ _=>us3 λ_ _ _=>rfl) λc A outer s H E hcd hr=>by
  have nd:=pB.nd
  refine aB ?_ ?_
  refine bw (i:=3) nd ?_
  refine cj ?_
  refine El T.b_sorted ?_
  refine aa ?_ aq
  refine cj ?_
  refine bT (own:=["_law_k"]) (cap:=["_law_number"]) (capI:=[0]) (ts:=[0]) rfl ⟨rfl,by decide +kernel,⟨⟨rfl,by first|exact Or.inl rfl|exact Or.inr rfl⟩,trivial⟩,by decide +kernel,by decide +kernel⟩ (by decide +kernel) (bM T.b_range (aa (pdv 2) aq)) (λcs C fp s2 H2=>aH (i:=0) (show(["_law_k","_law_number"]:List Str).Nodup by decide +kernel)) ?_ ?_
  intro cs C fp s2 H2
  exact aY
  intro cs C fp s2 H2
  refine aR ?_
  refine aa ?_ (aa (pdv 0) aq)
  exact aL F_Lmixed (hr.mono (by decide)) (aa (pdv 1) (aa (aK dZ (pdv 0) az) aq)) (aA (aA aM))
  refine aB ?_ ?_
  refine bw (i:=4) nd ?_
  refine cj ?_
  refine bT (own:=["_law_mark"]) (cap:=[]) (capI:=[]) (ts:=[0]) rfl ⟨rfl,by decide +kernel,trivial,by decide +kernel,by decide +kernel⟩ (by decide +kernel) (bF (pdv 3)) (λcs C fp s2 H2=>aH (i:=0) (show(["_law_mark"]:List Str).Nodup by decide +kernel)) ?_ ?_
  intro cs C fp s2 H2
  exact aY
  intro cs C fp s2 H2
  refine aK kJ az ?_
  exact aK dB az (aK dF (aK mR (bB (pdv 0) az) az) az)
  refine aF ?_
  refine aN ?_
  refine cj ?_
  refine bT (own:=["_law_row"]) (cap:=["_law_size","_law_sign","_law_order"]) (capI:=[2,4,3]) (ts:=[0]) rfl ⟨rfl,by decide +kernel,⟨⟨rfl,by first|exact Or.inl rfl|exact Or.inr rfl⟩,⟨⟨rfl,by first|exact Or.inl rfl|exact Or.inr rfl⟩,⟨⟨rfl,by first|exact Or.inl rfl|exact Or.inr rfl⟩,trivial⟩⟩⟩,by decide +kernel,by decide +kernel⟩ (by decide +kernel) (bF (pdv 1)) (λcs C fp s2 H2=>aH (i:=0) (show(["_law_row","_law_size","_law_sign","_law_order"]:List Str).Nodup by decide +kernel)) ?_ ?_
  intro cs C fp s2 H2
  exact aY
  intro cs C fp s2 H2
  refine tG T.b_tuple ?_
  refine aa ?_ aq
  refine cj ?_
  refine bT (own:=["_law_k"]) (cap:=["_law_sign","_law_row","_law_order"]) (capI:=[2,0,3]) (ts:=[0]) rfl ⟨rfl,by decide +kernel,⟨⟨rfl,by first|exact Or.inl rfl|exact Or.inr rfl⟩,⟨⟨rfl,by first|exact Or.inl rfl|exact Or.inr rfl⟩,⟨⟨rfl,by first|exact Or.inl rfl|exact Or.inr rfl⟩,trivial⟩⟩⟩,by decide +kernel,by decide +kernel⟩ (by decide +kernel) (bM T.b_range (aa (pdv 1) aq)) (λcs C fp s2 H2=>aH (i:=0) (show(["_law_k","_law_sign","_law_row","_law_order"]:List Str).Nodup by decide +kernel)) ?_ ?_
  intro cs C fp s2 H2
  exact aY
  intro cs C fp s2 H2
  exact aK dB (bB (pdv 1) (pdv 0)) (bB (pdv 2) (bB (bB (pdv 3) (pdv 0)) az))
abbrev uW:Stmt:=top 41
theorem wI:aW ["_law_drawn","_law_size","_law_most","_law_number","_law_many","_law_kind","_law_rows"] ["_law_drawn","_law_size","_law_most"] (aO uW):=⟨rfl,rfl,rfl,by decide +kernel,rfl,by decide +kernel,by decide +kernel⟩
theorem GC{bc cY cR:FF}(T:BI K mg)(F:dG K "_law_arrows" "_law_arrows" uW f fd Tb)(KB:K.In base)(hmg:mg "_law_arrows"=some (.ref f))(F_Lnext:FI P w K mg base tb "_law_next" 1 1 bc)(F_Larrow:FI P w K mg base tb "_law_arrow" 3 2 cY)(F_Lturned_rows:FI P w K mg base tb "_law_turned_rows" 3 2 cR):FI P w K mg base tb "_law_arrows" 3 (2+1) (aJ 7 (rM bc cY cR)):=
 cB F KB hmg wI rfl (λ_ _ _ _ _ _=>us3 λ_ _ _=>rfl) λc A outer s H E hcd hr=>by
  have nd:=wI.nd
  refine aB ?_ ?_
  exact bw (i:=3) nd (aL F_Lnext (hr.mono (by decide)) (aa (pdv 0) aq) (aA aM))
  refine aB ?_ ?_
  exact bw (i:=4) nd (aK dZ az (aK dF (aK mR (pdv 3) az) (pdv 2)))
  refine aB (bw (i:=5) nd (aK dF (pdv 3) az)) ?_
  refine aB ?_ ?_
  refine bw (i:=6) nd ?_
  refine nW ?_
  refine bT (own:=["_law_j"]) (cap:=["_law_drawn","_law_size","_law_kind"]) (capI:=[0,1,5]) (ts:=[0]) rfl ⟨rfl,by decide +kernel,⟨⟨rfl,by first|exact Or.inl rfl|exact Or.inr rfl⟩,⟨⟨rfl,by first|exact Or.inl rfl|exact Or.inr rfl⟩,⟨⟨rfl,by first|exact Or.inl rfl|exact Or.inr rfl⟩,trivial⟩⟩⟩,by decide +kernel,by decide +kernel⟩ (by decide +kernel) (bM T.b_range (aa (pdv 4) aq)) (λcs C fp s2 H2=>aH (i:=0) (show(["_law_j","_law_drawn","_law_size","_law_kind"]:List Str).Nodup by decide +kernel)) ?_ ?_
  intro cs C fp s2 H2
  exact aY
  intro cs C fp s2 H2
  refine aL F_Larrow (hr.mono (by decide)) ?_ (aA (aA (aA aM)))
  exact aa (aL F_Lnext (hr.mono (by decide)) (aa (pdv 1) aq) (aA aM)) (aa (pdv 2) (aa (aK dF (pdv 3) az) aq))
  refine aB ?_ ?_
  refine cg (bx (jH hr) (pdv 5) az) ?_ bh
  refine aF ?_
  refine bw (i:=6) nd ?_
  refine nW ?_
  refine RK (pdv 6) ?_
  refine cj ?_
  refine bT (own:=["_law_row"]) (cap:=[]) (capI:=[]) (ts:=[0]) rfl ⟨rfl,by decide +kernel,trivial,by decide +kernel,by decide +kernel⟩ (by decide +kernel) ?_ (λcs C fp s2 H2=>aH (i:=0) (show(["_law_row"]:List Str).Nodup by decide +kernel)) ?_ ?_
  refine bF ?_
  exact fJ (pdv 6) fH (fD (aK dZ az (aK mR (pdv 4) az)))
  intro cs C fp s2 H2
  exact aY
  intro cs C fp s2 H2
  refine cj ?_
  refine bT (own:=["_law_one"]) (cap:=[]) (capI:=[]) (ts:=[0]) rfl ⟨rfl,by decide +kernel,trivial,by decide +kernel,by decide +kernel⟩ (by decide +kernel) (bF (pdv 0)) (λcs C fp s2 H2=>aH (i:=0) (show(["_law_one"]:List Str).Nodup by decide +kernel)) ?_ ?_
  intro cs C fp s2 H2
  exact aY
  intro cs C fp s2 H2
  exact aK kJ az (pdv 0)
  refine aB ?_ ?_
  refine cg (bx (jH hr) (pdv 5) az) ?_ bh
  refine aF ?_
  refine lL ?_
  refine lB (pdv 6) ?_
  refine aa ?_ aq
  refine cj ?_
  refine bT (own:=["_law_k"]) (cap:=["_law_rows"]) (capI:=[6]) (ts:=[0]) rfl ⟨rfl,by decide +kernel,⟨⟨rfl,by first|exact Or.inl rfl|exact Or.inr rfl⟩,trivial⟩,by decide +kernel,by decide +kernel⟩ (by decide +kernel) (bM T.b_range (aa (pdv 1) aq)) (λcs C fp s2 H2=>aH (i:=0) (show(["_law_k","_law_rows"]:List Str).Nodup by decide +kernel)) ?_ ?_
  intro cs C fp s2 H2
  exact aY
  intro cs C fp s2 H2
  refine aK kJ az ?_
  refine xn rfl T.b_sum ?_
  refine lC rfl ?_
  refine cj ?_
  refine bT (own:=["_law_row"]) (cap:=["_law_k"]) (capI:=[0]) (ts:=[0]) rfl ⟨rfl,by decide +kernel,⟨⟨rfl,by first|exact Or.inl rfl|exact Or.inr rfl⟩,trivial⟩,by decide +kernel,by decide +kernel⟩ (by decide +kernel) (bF (pdv 1)) (λcs C fp s2 H2=>aH (i:=0) (show(["_law_row","_law_k"]:List Str).Nodup by decide +kernel)) ?_ ?_
  intro cs C fp s2 H2
  exact aY
  intro cs C fp s2 H2
  exact bB (pdv 0) (pdv 1)
  refine aB ?_ ?_
  refine cg (bx (jH hr) (pdv 5) az) ?_ bh
  refine aF ?_
  refine bw (i:=6) nd ?_
  refine nW ?_
  refine bT (own:=["_law_row"]) (cap:=["_law_rows"]) (capI:=[6]) (ts:=[0]) rfl ⟨rfl,by decide +kernel,⟨⟨rfl,by first|exact Or.inl rfl|exact Or.inr rfl⟩,trivial⟩,by decide +kernel,by decide +kernel⟩ (by decide +kernel) (bF (pdv 6)) (λcs C fp s2 H2=>aH (i:=0) (show(["_law_row","_law_rows"]:List Str).Nodup by decide +kernel)) ?_ ?_
  intro cs C fp s2 H2
  exact aY
  intro cs C fp s2 H2
  exact bB (pdv 1) az
  refine aB ?_ ?_
  refine cg (bx (jH hr) (pdv 5) az) ?_ bh
  refine aF ?_
  refine bw (i:=6) nd ?_
  refine nW ?_
  refine bT (own:=["_law_j"]) (cap:=["_law_rows"]) (capI:=[6]) (ts:=[0]) rfl ⟨rfl,by decide +kernel,⟨⟨rfl,by first|exact Or.inl rfl|exact Or.inr rfl⟩,trivial⟩,by decide +kernel,by decide +kernel⟩ (by decide +kernel) (bM T.b_range (aa (pdv 4) aq)) (λcs C fp s2 H2=>aH (i:=0) (show(["_law_j","_law_rows"]:List Str).Nodup by decide +kernel)) ?_ ?_
  intro cs C fp s2 H2
  exact aY
  intro cs C fp s2 H2
  refine cj ?_
  refine bT (own:=["_law_one"]) (cap:=["_law_j"]) (capI:=[0]) (ts:=[0]) rfl ⟨rfl,by decide +kernel,⟨⟨rfl,by first|exact Or.inl rfl|exact Or.inr rfl⟩,trivial⟩,by decide +kernel,by decide +kernel⟩ (by decide +kernel) (bF (bB (pdv 1) az)) (λcs C fp s2 H2=>aH (i:=0) (show(["_law_one","_law_j"]:List Str).Nodup by decide +kernel)) ?_ ?_
  intro cs C fp s2 H2
  exact aY
  intro cs C fp s2 H2
  exact aK dB (aK dZ (aK dF (pdv 1) az) az) (pdv 0)
  refine aF ?_
  refine aN ?_
  refine aL F_Lturned_rows (hr.mono (by decide)) ?_ (aA (aA (aA aM)))
  exact aa (aK mR (pdv 3) az) (aa (Ut (pdv 6)) (aa (pdv 1) aq))
abbrev uD:Stmt:=top 44
theorem xF:aW [] [] (aO uD):=⟨rfl,rfl,rfl,by decide +kernel,rfl,by decide +kernel,by decide +kernel⟩
theorem Gv(T:BI K mg)(F:dG K "_law_things" "_law_things" uD f fd Tb)(KB:K.In base)(hmg:mg "_law_things"=some (.ref f)):FI P w K mg base tb "_law_things" 0 (0+1) (aJ 0 (mV)):=
 cB F KB hmg xF rfl (λ_ _ _ _ _ _=>us0 rfl) λc A outer s H E hcd hr=>by
  have nd:=xF.nd
  refine aF ?_
  refine aN ?_
  refine jP ?_
  refine aa ?_ ?_
  exact vd
  refine aa ?_ ?_
  exact fB
  refine aa ?_ ?_
  exact fB
  refine aa ?_ ?_
  exact az
  refine aa ?_ ?_
  exact az
  refine aa ?_ ?_
  refine dU ?_
  exact az
  refine aa ?_ ?_
  exact xM
  refine aa ?_ ?_
  exact xM
  refine aa ?_ ?_
  exact jP aq
  refine aa ?_ ?_
  exact QL
  refine aa ?_ ?_
  exact aR aq
  refine aa ?_ ?_
  refine aR ?_
  refine aa ?_ aq
  exact vd
  refine aa ?_ ?_
  refine aR ?_
  refine aa ?_ aq
  exact az
  refine aa ?_ ?_
  refine aR ?_
  refine aa ?_ ?_
  exact az
  refine aa ?_ aq
  exact az
  refine aa ?_ ?_
  refine aR ?_
  refine aa ?_ aq
  exact aR aq
  refine aa ?_ ?_
  refine aR ?_
  refine aa ?_ aq
  refine aR ?_
  refine aa ?_ aq
  exact az
  refine aa ?_ ?_
  refine aR ?_
  refine aa ?_ aq
  refine aR ?_
  refine aa ?_ ?_
  exact az
  refine aa ?_ ?_
  exact az
  refine aa ?_ aq
  exact az
  refine aa ?_ ?_
  refine jP ?_
  refine aa ?_ aq
  refine aR ?_
  refine aa ?_ ?_
  exact az
  refine aa ?_ aq
  exact az
  refine aa ?_ ?_
  refine aR ?_
  refine aa ?_ aq
  refine jP ?_
  refine aa ?_ ?_
  exact az
  refine aa ?_ aq
  exact az
  refine aa ?_ ?_
  refine aR ?_
  refine aa ?_ aq
  refine aR ?_
  refine aa ?_ ?_
  exact az
  refine aa ?_ aq
  exact xM
  refine aa ?_ ?_
  refine aR ?_
  refine aa ?_ aq
  refine aR ?_
  refine aa ?_ ?_
  exact xM
  refine aa ?_ aq
  exact az
  refine aa ?_ ?_
  refine aR ?_
  refine aa ?_ aq
  refine aR ?_
  refine aa ?_ ?_
  exact az
  refine aa ?_ aq
  exact vd
  refine aa ?_ ?_
  refine aR ?_
  refine aa ?_ aq
  refine aR ?_
  refine aa ?_ ?_
  exact vd
  refine aa ?_ aq
  exact az
  refine aa ?_ ?_
  refine aR ?_
  refine aa ?_ aq
  refine aR ?_
  refine aa ?_ ?_
  exact az
  refine aa ?_ aq
  refine aR ?_
  refine aa ?_ aq
  exact az
  refine aa ?_ ?_
  refine aR ?_
  refine aa ?_ aq
  refine aR ?_
  refine aa ?_ aq
  refine aR ?_
  refine aa ?_ ?_
  exact az
  refine aa ?_ aq
  exact az
  refine aa ?_ ?_
  refine Hd ?_ ?_
  exact az
  exact az
  refine aa ?_ ?_
  refine aR ?_
  refine aa ?_ aq
  refine Hd ?_ ?_
  exact az
  exact az
  refine aa ?_ ?_
  refine aR ?_
  refine aa ?_ aq
  exact xM
  refine aa ?_ ?_
  refine aR ?_
  refine aa ?_ ?_
  refine aR ?_
  refine aa ?_ ?_
  exact az
  refine aa ?_ aq
  exact az
  refine aa ?_ aq
  exact vd
  refine aa ?_ ?_
  refine aR ?_
  refine aa ?_ ?_
  refine aR ?_
  refine aa ?_ ?_
  exact az
  refine aa ?_ aq
  exact az
  refine aa ?_ aq
  exact az
  refine aa ?_ ?_
  refine aR ?_
  refine aa ?_ ?_
  refine aR ?_
  refine aa ?_ ?_
  exact az
  refine aa ?_ aq
  exact az
  refine aa ?_ aq
  exact jP aq
  refine aa ?_ ?_
  refine aR ?_
  refine aa ?_ ?_
  refine aR ?_
  refine aa ?_ ?_
  exact az
  refine aa ?_ aq
  exact az
  refine aa ?_ aq
  refine jP ?_
  refine aa ?_ ?_
  exact az
  refine aa ?_ aq
  exact az
  refine aa ?_ ?_
  refine aR ?_
  refine aa ?_ aq
  refine aR ?_
  refine aa ?_ ?_
  exact fB
  refine aa ?_ aq
  exact az
  refine aa ?_ ?_
  refine aR ?_
  refine aa ?_ aq
  refine aR ?_
  refine aa ?_ ?_
  exact az
  refine aa ?_ aq
  exact fB
  refine aa ?_ ?_
  refine aR ?_
  refine aa ?_ aq
  refine aR ?_
  refine aa ?_ ?_
  exact az
  refine aa ?_ aq
  exact az
  refine aa ?_ ?_
  refine aR ?_
  refine aa ?_ aq
  refine aR ?_
  refine aa ?_ ?_
  exact az
  refine aa ?_ aq
  refine dU ?_
  exact az
  refine aa ?_ ?_
  refine aR ?_
  refine aa ?_ aq
  refine aR ?_
  refine aa ?_ ?_
  refine dU ?_
  exact az
  refine aa ?_ aq
  exact az
  refine aa ?_ aq
  refine aR ?_
  refine aa ?_ ?_
  refine aR ?_
  refine aa ?_ ?_
  exact az
  refine aa ?_ aq
  exact az
  refine aa ?_ aq
  refine aR ?_
  refine aa ?_ ?_
  exact az
  refine aa ?_ aq
  exact az
abbrev xx:Stmt:=top 32
theorem Ab:aW ["_law_thing"] ["_law_thing"] (aO xx):=⟨rfl,rfl,rfl,by decide +kernel,rfl,by decide +kernel,by decide +kernel⟩
theorem Ir(T:BI K mg)(F:dG K "_law_whole" "_law_whole" xx f fd Tb)(KB:K.In base)(hmg:mg "_law_whole"=some (.ref f)):FI P w K mg base tb "_law_whole" 1 (0+1) (aJ 1 (nH)):=
 cB F KB hmg Ab rfl (λ_ _ _ _ _ _=>us1 λ_=>rfl) λc A outer s H E hcd hr=>by
  have nd:=Ab.nd
  refine aF ?_
  refine aN ?_
  refine oE ?_ ?_
  exact jL T.b_isinstance T.b_int PyProof.Rows.boot_int (by decide) (pdv 0)
  refine kY ?_
  refine Gz ?_
  exact jL T.b_isinstance T.b_bool PyProof.Rows.boot_bool (by decide) (pdv 0)
abbrev ou:Stmt:=top 45
theorem rK:aW ["_law_colours","_law_thing","_law_colour","_law_number"] ["_law_colours","_law_thing"] (aO ou):=⟨rfl,rfl,rfl,by decide +kernel,rfl,by decide +kernel,by decide +kernel⟩
theorem yM{cO:FF}(T:BI K mg)(F:dG K "_law_is_choice" "_law_is_choice" ou f fd Tb)(KB:K.In base)(hmg:mg "_law_is_choice"=some (.ref f))(F_Lwhole:FI P w K mg base tb "_law_whole" 1 1 cO):FI P w K mg base tb "_law_is_choice" 2 (1+1) (aJ 4 (dW cO)):=
 cB F KB hmg rK rfl (λ_ _ _ _ _ _=>us2 λ_ _=>rfl) λc A outer s H E hcd hr=>by
  have nd:=rK.nd
  refine aB ?_ ?_
  refine cg ?_ (aF (aN fB)) bh
  refine iY ?_
  refine fY ?_ ?_
  refine di ?_
  refine cT ?_
  exact jL T.b_isinstance T.b_tuple PyProof.Rows.boot_tuple (by decide) (pdv 1)
  refine gQ ?_
  exact bx (ph hr) (dh T.b_len (aa (pdv 1) aq)) (dh T.b_len (aa (pdv 0) aq))
  refine aB ?_ (aF (aN fB))
  refine jX (ts:=[2,3]) PassesOwn.never rfl (lq T.b_zip (aa (pdv 0) (aa (pdv 1) aq))) (fQ rfl (bf (aH (i:=2) nd) (bf (aH (i:=3) nd) dD))) ?_
  refine aF ?_
  refine cg ?_ (aF (aN fB)) bh
  refine iY ?_
  refine fY ?_ ?_
  refine di ?_
  exact cT (aL F_Lwhole (hr.mono (by decide)) (aa (pdv 3) aq) (aA aM))
  exact fY (bx pZ (pdv 3) az) (gQ (bx zH (pdv 3) (dh T.b_len (aa (pdv 2) aq))))
abbrev ut:Stmt:=top 46
theorem xQ:aW ["_law_colours","_law_choice"] ["_law_colours","_law_choice"] (aO ut):=⟨rfl,rfl,rfl,by decide +kernel,rfl,by decide +kernel,by decide +kernel⟩
theorem FQ(T:BI K mg)(F:dG K "_law_chosen" "_law_chosen" ut f fd Tb)(KB:K.In base)(hmg:mg "_law_chosen"=some (.ref f)):FI P w K mg base tb "_law_chosen" 2 (0+1) (aJ 2 (lz)):=
 cB F KB hmg xQ rfl (λ_ _ _ _ _ _=>us2 λ_ _=>rfl) λc A outer s H E hcd hr=>by
  have nd:=xQ.nd
  refine aF ?_
  refine aN ?_
  refine cj ?_
  refine bT (own:=["_law_colour","_law_number"]) (cap:=[]) (capI:=[]) (ts:=[0,1]) rfl ⟨rfl,by decide +kernel,trivial,by decide +kernel,by decide +kernel⟩ (by decide +kernel) (lq T.b_zip (aa (pdv 0) (aa (pdv 1) aq))) (λcs C fp s2 H2=>fQ rfl (bf (aH (i:=0) (show(["_law_colour","_law_number"]:List Str).Nodup by decide +kernel)) (bf (aH (i:=1) (show(["_law_colour","_law_number"]:List Str).Nodup by decide +kernel)) dD))) ?_ ?_
  intro cs C fp s2 H2
  exact aY
  intro cs C fp s2 H2
  exact bB (pdv 0) (pdv 1)
abbrev rY:Stmt:=top 34
theorem vp:aW ["_law_many","_law_thing","_law_last","_law_row"] ["_law_many","_law_thing"] (aO rY):=⟨rfl,rfl,rfl,by decide +kernel,rfl,by decide +kernel,by decide +kernel⟩
theorem CT{cO:FF}(T:BI K mg)(F:dG K "_law_is_rows" "_law_is_rows" rY f fd Tb)(KB:K.In base)(hmg:mg "_law_is_rows"=some (.ref f))(F_Lwhole:FI P w K mg base tb "_law_whole" 1 1 cO):FI P w K mg base tb "_law_is_rows" 2 (1+1) (aJ 4 (nQ cO)):=
 cB F KB hmg vp rfl (λ_ _ _ _ _ _=>us2 λ_ _=>rfl) λc A outer s H E hcd hr=>by
  have nd:=vp.nd
  refine aB ?_ ?_
  refine cg ?_ (aF (aN fB)) bh
  refine iY ?_
  refine fY ?_ (gQ (bx (MF hr) (pdv 1) (aR aq)))
  refine di ?_
  refine cT ?_
  exact jL T.b_isinstance T.b_tuple PyProof.Rows.boot_tuple (by decide) (pdv 1)
  refine aB (bw (i:=2) nd (dU az)) ?_
  refine aB ?_ (aF (aN fB))
  refine jX (ts:=[3]) PassesOwn.never rfl (bF (pdv 1)) (aH (i:=3) nd) ?_
  refine aB ?_ ?_
  refine cg ?_ (aF (aN fB)) bh
  refine iY ?_
  refine fY ?_ ?_
  refine di ?_
  refine cT ?_
  exact jL T.b_isinstance T.b_tuple PyProof.Rows.boot_tuple (by decide) (pdv 3)
  refine fY (bx (ph hr) (dh T.b_len (aa (pdv 3) aq)) az) ?_
  refine fY ?_ ?_
  refine di ?_
  exact cT (aL F_Lwhole (hr.mono (by decide)) (aa (bB (pdv 3) az) aq) (aA aM))
  refine gQ ?_
  refine di ?_
  exact cT (aL F_Lwhole (hr.mono (by decide)) (aa (bB (pdv 3) az) aq) (aA aM))
  refine aB ?_ (aF (bw (i:=2) nd (bB (pdv 3) az)))
  refine cg ?_ (aF (aN fB)) bh
  refine iY ?_
  refine fY (bx JT (bB (pdv 3) az) (pdv 2)) ?_
  exact fY (bx zH (bB (pdv 3) az) (pdv 0)) (gQ (bx pZ (bB (pdv 3) az) az))
abbrev Gm:Stmt:=top 30
theorem GX:aW ["_law_one","_law_other"] ["_law_one","_law_other"] (aO Gm):=⟨rfl,rfl,rfl,by decide +kernel,rfl,by decide +kernel,by decide +kernel⟩
theorem Qz(T:BI K mg)(F:dG K "_law_gcd" "_law_gcd" Gm f fd Tb)(KB:K.In base)(hmg:mg "_law_gcd"=some (.ref f)):FI P w K mg base tb "_law_gcd" 2 (0+1) (aJ 2 (uR)):=
 cB F KB hmg GX rfl (λ_ _ _ _ _ _=>us2 λ_ _=>rfl) λc A outer s H E hcd hr=>by
  have nd:=GX.nd
  refine aB ?_ (aF (aN (wO T.b_abs (aa (pdv 0) aq))))
  refine uE PassesOwn.never (bx (ph hr) (pdv 1) az) ?_
  refine aF ?_
  exact wk (i:=0) (j:=1) rfl nd (aa (pdv 1) (aa (aK dF (pdv 0) (pdv 1)) aq))
abbrev ux:Stmt:=top 31
theorem wY:aW ["_law_numbers","_law_bottom","_law_common","_law_number"] ["_law_numbers","_law_bottom"] (aO ux):=⟨rfl,rfl,rfl,by decide +kernel,rfl,by decide +kernel,by decide +kernel⟩
theorem Ga{mz:FF}(T:BI K mg)(F:dG K "_law_lowest" "_law_lowest" ux f fd Tb)(KB:K.In base)(hmg:mg "_law_lowest"=some (.ref f))(F_Lgcd:FI P w K mg base tb "_law_gcd" 2 1 mz):FI P w K mg base tb "_law_lowest" 2 (1+1) (aJ 4 (lw mz)):=
 cB F KB hmg wY rfl (λ_ _ _ _ _ _=>us2 λ_ _=>rfl) λc A outer s H E hcd hr=>by
  have nd:=wY.nd
  refine aB (bw (i:=2) nd (pdv 1)) ?_
  refine aB ?_ ?_
  refine jX (ts:=[3]) PassesOwn.never rfl (bF (pdv 0)) (aH (i:=3) nd) ?_
  refine aF ?_
  exact bw (i:=2) nd (aL F_Lgcd (hr.mono (by decide)) (aa (pdv 2) (aa (pdv 3) aq)) (aA (aA aM)))
  refine aB ?_ ?_
  refine cg (bx pZ (pdv 1) az) ?_ bh
  exact aF (bw (i:=2) nd (aK kJ az (wO T.b_abs (aa (pdv 2) aq))))
  refine aF ?_
  refine aN ?_
  refine aK dZ ?_ (aR (aa (aK mR (pdv 1) (pdv 2)) aq))
  refine tG T.b_tuple ?_
  refine aa ?_ aq
  refine cj ?_
  refine bT (own:=["_law_number"]) (cap:=["_law_common"]) (capI:=[2]) (ts:=[0]) rfl ⟨rfl,by decide +kernel,⟨⟨rfl,by first|exact Or.inl rfl|exact Or.inr rfl⟩,trivial⟩,by decide +kernel,by decide +kernel⟩ (by decide +kernel) (bF (pdv 0)) (λcs C fp s2 H2=>aH (i:=0) (show(["_law_number","_law_common"]:List Str).Nodup by decide +kernel)) ?_ ?_
  intro cs C fp s2 H2
  exact aY
  intro cs C fp s2 H2
  exact aK mR (pdv 0) (pdv 1)
abbrev oO:Stmt:=top 35
theorem rJ:aW ["_law_arrows_here","_law_shares","_law_numbers","_law_bottom","_law_k","_law_share"] ["_law_arrows_here","_law_shares"] (aO oO):=⟨rfl,rfl,rfl,by decide +kernel,rfl,by decide +kernel,by decide +kernel⟩
theorem yP{fZ:FF}(T:BI K mg)(F:dG K "_law_arrow_mix" "_law_arrow_mix" oO f fd Tb)(KB:K.In base)(hmg:mg "_law_arrow_mix"=some (.ref f))(F_Llowest:FI P w K mg base tb "_law_lowest" 2 2 fZ):FI P w K mg base tb "_law_arrow_mix" 2 (2+1) (aJ 6 (nA fZ)):=
 cB F KB hmg rJ rfl (λ_ _ _ _ _ _=>us2 λ_ _=>rfl) λc A outer s H E hcd hr=>by
  have nd:=rJ.nd
  refine aB ?_ ?_
  refine bw (i:=2) nd ?_
  exact aK dB (jP (aa az aq)) (dh T.b_len (aa (bB (pdv 0) az) aq))
  refine aB (bw (i:=3) nd az) ?_
  refine aB ?_ ?_
  refine jX (ts:=[4,5]) PassesOwn.never rfl (bF (pdv 1)) (fQ rfl (bf (aH (i:=4) nd) (bf (aH (i:=5) nd) dD))) ?_
  refine aB (bw (i:=3) nd (aK dZ (pdv 3) (pdv 5))) ?_
  refine aF ?_
  refine bw (i:=2) nd ?_
  refine cj ?_
  refine bT (own:=["_law_i"]) (cap:=["_law_numbers","_law_share","_law_arrows_here","_law_k"]) (capI:=[2,5,0,4]) (ts:=[0]) rfl ⟨rfl,by decide +kernel,⟨⟨rfl,by first|exact Or.inl rfl|exact Or.inr rfl⟩,⟨⟨rfl,by first|exact Or.inl rfl|exact Or.inr rfl⟩,⟨⟨rfl,by first|exact Or.inl rfl|exact Or.inr rfl⟩,⟨⟨rfl,by first|exact Or.inl rfl|exact Or.inr rfl⟩,trivial⟩⟩⟩⟩,by decide +kernel,by decide +kernel⟩ (by decide +kernel) (bM T.b_range (aa (dh T.b_len (aa (pdv 2) aq)) aq)) (λcs C fp s2 H2=>aH (i:=0) (show(["_law_i","_law_numbers","_law_share","_law_arrows_here","_law_k"]:List Str).Nodup by decide +kernel)) ?_ ?_
  intro cs C fp s2 H2
  exact aY
  intro cs C fp s2 H2
  exact aK dZ (bB (pdv 1) (pdv 0)) (aK dB (pdv 2) (bB (bB (pdv 3) (pdv 4)) (pdv 0)))
  refine aF ?_
  exact aN (aL F_Llowest (hr.mono (by decide)) (aa (pdv 2) (aa (pdv 3) aq)) (aA (aA aM)))
abbrev Ft:Stmt:=top 36
theorem Hc:aW ["_law_mix","_law_arrow_here"] ["_law_mix","_law_arrow_here"] (aO Ft):=⟨rfl,rfl,rfl,by decide +kernel,rfl,by decide +kernel,by decide +kernel⟩
theorem Qe(T:BI K mg)(F:dG K "_law_dot" "_law_dot" Ft f fd Tb)(KB:K.In base)(hmg:mg "_law_dot"=some (.ref f)):FI P w K mg base tb "_law_dot" 2 (0+1) (aJ 2 (sO)):=
 cB F KB hmg Hc rfl (λ_ _ _ _ _ _=>us2 λ_ _=>rfl) λc A outer s H E hcd hr=>by
  have nd:=Hc.nd
  refine aF ?_
  refine aN ?_
  refine xn rfl T.b_sum ?_
  refine lC rfl ?_
  refine cj ?_
  refine bT (own:=["_law_one","_law_other"]) (cap:=[]) (capI:=[]) (ts:=[0,1]) rfl ⟨rfl,by decide +kernel,trivial,by decide +kernel,by decide +kernel⟩ (by decide +kernel) (lq T.b_zip (aa (pdv 0) (aa (pdv 1) aq))) (λcs C fp s2 H2=>fQ rfl (bf (aH (i:=0) (show(["_law_one","_law_other"]:List Str).Nodup by decide +kernel)) (bf (aH (i:=1) (show(["_law_one","_law_other"]:List Str).Nodup by decide +kernel)) dD))) ?_ ?_
  intro cs C fp s2 H2
  exact aY
  intro cs C fp s2 H2
  exact aK dB (pdv 0) (pdv 1)
abbrev rZ:Stmt:=top 38
theorem vm:aW ["_law_arrows_here","_law_thing","_law_mix","_law_own"] ["_law_arrows_here","_law_thing"] (aO rZ):=⟨rfl,rfl,rfl,by decide +kernel,rfl,by decide +kernel,by decide +kernel⟩
theorem DK{eO bI dX:FF}(T:BI K mg)(F:dG K "_law_is_near" "_law_is_near" rZ f fd Tb)(KB:K.In base)(hmg:mg "_law_is_near"=some (.ref f))(F_Lis_rows:FI P w K mg base tb "_law_is_rows" 2 2 eO)(F_Larrow_mix:FI P w K mg base tb "_law_arrow_mix" 2 3 bI)(F_Ldot:FI P w K mg base tb "_law_dot" 2 1 dX):FI P w K mg base tb "_law_is_near" 2 (3+1) (aJ 4 (qg eO bI dX)):=
 cB F KB hmg vm rfl (λ_ _ _ _ _ _=>us2 λ_ _=>rfl) λc A outer s H E hcd hr=>by
  have nd:=vm.nd
  refine aB ?_ ?_
  refine cg ?_ (aF (aN fB)) bh
  refine di ?_
  refine cT ?_
  refine aL F_Lis_rows (hr.mono (by decide)) ?_ (aA (aA aM))
  exact aa (dh T.b_len (aa (pdv 0) aq)) (aa (pdv 1) aq)
  refine aB ?_ ?_
  exact bw (i:=2) nd (aL F_Larrow_mix (hr.mono (by decide)) (aa (pdv 0) (aa (pdv 1) aq)) (aA (aA aM)))
  refine aB ?_ ?_
  refine bw (i:=3) nd ?_
  refine aL F_Ldot (hr.mono (by decide)) ?_ (aA (aA aM))
  refine aa (pdv 2) ?_
  exact aa (fJ (pdv 2) fH (fD (dU az))) aq
  refine aF ?_
  refine aN ?_
  refine kO (jH hr) ?_ (jP aq)
  refine cj ?_
  refine bT (own:=["_law_arrow_here"]) (cap:=["_law_mix","_law_own"]) (capI:=[2,3]) (ts:=[0]) rfl ⟨rfl,by decide +kernel,⟨⟨rfl,by first|exact Or.inl rfl|exact Or.inr rfl⟩,⟨⟨rfl,by first|exact Or.inl rfl|exact Or.inr rfl⟩,trivial⟩⟩,by decide +kernel,by decide +kernel⟩ (by decide +kernel) (bF (pdv 0)) (λcs C fp s2 H2=>aH (i:=0) (show(["_law_arrow_here","_law_mix","_law_own"]:List Str).Nodup by decide +kernel)) ?_ ?_
  intro cs C fp s2 H2
  refine pW ?_
  refine bx pZ ?_ (pdv 2)
  exact aK dB (aL F_Ldot (hr.mono (by decide)) (aa (pdv 1) (aa (pdv 0) aq)) (aA (aA aM))) (bB (pdv 1) (dU az))
  intro cs C fp s2 H2
  exact pdv 0
abbrev sy:Stmt:=top 47
theorem vz:aW ["_law_colours","_law_thing"] ["_law_colours","_law_thing"] (aO sy):=⟨rfl,rfl,rfl,by decide +kernel,rfl,by decide +kernel,by decide +kernel⟩
theorem Ek{fV dC gA:FF}(T:BI K mg)(F:dG K "_law_is_step" "_law_is_step" sy f fd Tb)(KB:K.In base)(hmg:mg "_law_is_step"=some (.ref f))(F_Lis_choice:FI P w K mg base tb "_law_is_choice" 2 2 fV)(F_Lchosen:FI P w K mg base tb "_law_chosen" 2 1 dC)(F_Lis_near:FI P w K mg base tb "_law_is_near" 2 4 gA):FI P w K mg base tb "_law_is_step" 2 (4+1) (aJ 2 (gb fV dC gA)):=
 cB F KB hmg vz rfl (λ_ _ _ _ _ _=>us2 λ_ _=>rfl) λc A outer s H E hcd hr=>by
  have nd:=vz.nd
  refine aB ?_ ?_
  refine cg ?_ (aF (aN fB)) bh
  refine iY ?_
  refine fY ?_ ?_
  refine di ?_
  refine cT ?_
  exact jL T.b_isinstance T.b_tuple PyProof.Rows.boot_tuple (by decide) (pdv 1)
  refine fY (bx (ph hr) (dh T.b_len (aa (pdv 1) aq)) az) ?_
  refine gQ ?_
  refine di ?_
  refine cT ?_
  exact aL F_Lis_choice (hr.mono (by decide)) (aa (pdv 0) (aa (bB (pdv 1) az) aq)) (aA (aA aM))
  refine aF ?_
  refine aN ?_
  refine aL F_Lis_near (hr.mono (by decide)) ?_ (aA (aA aM))
  refine aa ?_ (aa (bB (pdv 1) az) aq)
  exact aL F_Lchosen (hr.mono (by decide)) (aa (pdv 0) (aa (bB (pdv 1) az) aq)) (aA (aA aM))
abbrev qD:Stmt:=top 48
theorem sX:aW ["_law_colours","_law_step"] ["_law_colours","_law_step"] (aO qD):=⟨rfl,rfl,rfl,by decide +kernel,rfl,by decide +kernel,by decide +kernel⟩
theorem Cd{dC bI:FF}(T:BI K mg)(F:dG K "_law_step_mix" "_law_step_mix" qD f fd Tb)(KB:K.In base)(hmg:mg "_law_step_mix"=some (.ref f))(F_Lchosen:FI P w K mg base tb "_law_chosen" 2 1 dC)(F_Larrow_mix:FI P w K mg base tb "_law_arrow_mix" 2 3 bI):FI P w K mg base tb "_law_step_mix" 2 (3+1) (aJ 2 (iK dC bI)):=
 cB F KB hmg sX rfl (λ_ _ _ _ _ _=>us2 λ_ _=>rfl) λc A outer s H E hcd hr=>by
  have nd:=sX.nd
  refine aF ?_
  refine aN ?_
  refine aL F_Larrow_mix (hr.mono (by decide)) ?_ (aA (aA aM))
  refine aa ?_ (aa (bB (pdv 1) az) aq)
  exact aL F_Lchosen (hr.mono (by decide)) (aa (pdv 0) (aa (bB (pdv 1) az) aq)) (aA (aA aM))
abbrev oR:Stmt:=top 37
theorem rE:aW ["_law_mix"] ["_law_mix"] (aO oR):=⟨rfl,rfl,rfl,by decide +kernel,rfl,by decide +kernel,by decide +kernel⟩
theorem yL(T:BI K mg)(F:dG K "_law_is_nought" "_law_is_nought" oR f fd Tb)(KB:K.In base)(hmg:mg "_law_is_nought"=some (.ref f)):FI P w K mg base tb "_law_is_nought" 1 (0+1) (aJ 1 (gF)):=
 cB F KB hmg rE rfl (λ_ _ _ _ _ _=>us1 λ_=>rfl) λc A outer s H E hcd hr=>by
  have nd:=rE.nd
  refine aF ?_
  refine aN ?_
  refine kO (jH hr) ?_ (jP aq)
  refine cj ?_
  refine bT (own:=["_law_number"]) (cap:=[]) (capI:=[]) (ts:=[0]) rfl ⟨rfl,by decide +kernel,trivial,by decide +kernel,by decide +kernel⟩ (by decide +kernel) (bF (fJ (pdv 0) fH (fD (dU az)))) (λcs C fp s2 H2=>aH (i:=0) (show(["_law_number"]:List Str).Nodup by decide +kernel)) ?_ ?_
  intro cs C fp s2 H2
  exact pW (bx (ph hr) (pdv 0) az)
  intro cs C fp s2 H2
  exact pdv 0
abbrev lR:Stmt:=top 39
theorem oZ:aW ["_law_mix","_law_other","_law_one","_law_two"] ["_law_mix","_law_other"] (aO lR):=⟨rfl,rfl,rfl,by decide +kernel,rfl,by decide +kernel,by decide +kernel⟩
theorem vX{dX:FF}(T:BI K mg)(F:dG K "_law_less_square" "_law_less_square" lR f fd Tb)(KB:K.In base)(hmg:mg "_law_less_square"=some (.ref f))(F_Ldot:FI P w K mg base tb "_law_dot" 2 1 dX):FI P w K mg base tb "_law_less_square" 2 (1+1) (aJ 4 (gq dX)):=
 cB F KB hmg oZ rfl (λ_ _ _ _ _ _=>us2 λ_ _=>rfl) λc A outer s H E hcd hr=>by
  have nd:=oZ.nd
  refine aB ?_ ?_
  refine wk (i:=2) (j:=3) rfl nd ?_
  refine aa ?_ ?_
  refine aL F_Ldot (hr.mono (by decide)) ?_ (aA (aA aM))
  refine aa (pdv 0) ?_
  exact aa (fJ (pdv 0) fH (fD (dU az))) aq
  refine aa ?_ aq
  refine aL F_Ldot (hr.mono (by decide)) ?_ (aA (aA aM))
  refine aa (pdv 1) ?_
  exact aa (fJ (pdv 1) fH (fD (dU az))) aq
  refine aF ?_
  refine aN ?_
  refine kO pZ ?_ ?_
  exact aK dB (aK dB (pdv 2) (bB (pdv 1) (dU az))) (bB (pdv 1) (dU az))
  exact aK dB (aK dB (pdv 3) (bB (pdv 0) (dU az))) (bB (pdv 0) (dU az))
abbrev pK:Stmt:=top 49
theorem tu:aW ["_law_colours","_law_step","_law_other","_law_mix","_law_turned"] ["_law_colours","_law_step","_law_other"] (aO pK):=⟨rfl,rfl,rfl,by decide +kernel,rfl,by decide +kernel,by decide +kernel⟩
theorem BP{bU bY dO:FF}(T:BI K mg)(F:dG K "_law_leads_on" "_law_leads_on" pK f fd Tb)(KB:K.In base)(hmg:mg "_law_leads_on"=some (.ref f))(F_Lstep_mix:FI P w K mg base tb "_law_step_mix" 2 4 bU)(F_Lis_nought:FI P w K mg base tb "_law_is_nought" 1 1 bY)(F_Lless_square:FI P w K mg base tb "_law_less_square" 2 2 dO):FI P w K mg base tb "_law_leads_on" 3 (4+1) (aJ 5 (jw bU bY dO)):=
 cB F KB hmg tu rfl (λ_ _ _ _ _ _=>us3 λ_ _ _=>rfl) λc A outer s H E hcd hr=>by
  have nd:=tu.nd
  refine aB ?_ ?_
  exact bw (i:=3) nd (aL F_Lstep_mix (hr.mono (by decide)) (aa (pdv 0) (aa (pdv 1) aq)) (aA (aA aM)))
  refine aB ?_ ?_
  refine mG (i:=4) nd (own:=["_law_k"]) (cap:=["_law_step","_law_other"]) (capI:=[1,2]) (ts:=[0]) rfl ⟨rfl,by decide +kernel,⟨⟨rfl,by first|exact Or.inl rfl|exact Or.inr rfl⟩,⟨⟨rfl,by first|exact Or.inl rfl|exact Or.inr rfl⟩,trivial⟩⟩,by decide +kernel,by decide +kernel⟩ (by decide +kernel) (bM T.b_range (aa (dh T.b_len (aa (pdv 0) aq)) aq)) (λcs C fp s2 H2=>aH (i:=0) (show(["_law_k","_law_step","_law_other"]:List Str).Nodup by decide +kernel)) ?_ ?_
  intro cs C fp s2 H2
  refine pW ?_
  exact bx (ph hr) (bB (bB (pdv 1) az) (pdv 0)) (bB (bB (pdv 2) az) (pdv 0))
  intro cs C fp s2 H2
  exact pdv 0
  refine aB ?_ ?_
  refine cg ?_ (aF (aN fB)) bh
  refine iY ?_
  refine fY ?_ ?_
  exact cT (aL F_Lis_nought (hr.mono (by decide)) (aa (pdv 3) aq) (aA aM))
  refine fY (bx (ph hr) (dh T.b_len (aa (pdv 4) aq)) az) ?_
  refine gQ ?_
  refine bx Xp (bB (pdv 4) az) ?_
  refine cj ?_
  refine bT (own:=["_law_k","_law_share"]) (cap:=[]) (capI:=[]) (ts:=[0,1]) rfl ⟨rfl,by decide +kernel,trivial,by decide +kernel,by decide +kernel⟩ (by decide +kernel) (bF (bB (pdv 1) az)) (λcs C fp s2 H2=>fQ rfl (bf (aH (i:=0) (show(["_law_k","_law_share"]:List Str).Nodup by decide +kernel)) (bf (aH (i:=1) (show(["_law_k","_law_share"]:List Str).Nodup by decide +kernel)) dD))) ?_ ?_
  intro cs C fp s2 H2
  exact aY
  intro cs C fp s2 H2
  exact pdv 0
  refine aF ?_
  refine aN ?_
  refine aL F_Lless_square (hr.mono (by decide)) ?_ (aA (aA aM))
  exact aa (aL F_Lstep_mix (hr.mono (by decide)) (aa (pdv 0) (aa (pdv 2) aq)) (aA (aA aM))) (aa (pdv 3) aq)
abbrev qw:Stmt:=top 50
theorem ug:aW ["_law_colours","_law_thing","_law_ons"] ["_law_colours","_law_thing"] (aO qw):=⟨rfl,rfl,rfl,by decide +kernel,rfl,by decide +kernel,by decide +kernel⟩
theorem Ay{gB bU bY gD:FF}(T:BI K mg)(F:dG K "_law_is_trail" "_law_is_trail" qw f fd Tb)(KB:K.In base)(hmg:mg "_law_is_trail"=some (.ref f))(F_Lis_step:FI P w K mg base tb "_law_is_step" 2 5 gB)(F_Lstep_mix:FI P w K mg base tb "_law_step_mix" 2 4 bU)(F_Lis_nought:FI P w K mg base tb "_law_is_nought" 1 1 bY)(F_Lleads_on:FI P w K mg base tb "_law_leads_on" 3 5 gD):FI P w K mg base tb "_law_is_trail" 2 (5+1) (aJ 3 (eV gB bU bY gD)):=
 cB F KB hmg ug rfl (λ_ _ _ _ _ _=>us2 λ_ _=>rfl) λc A outer s H E hcd hr=>by
  have nd:=ug.nd
  refine aB ?_ ?_
  refine cg ?_ (aF (aN fB)) bh
  refine iY ?_
  refine fY ?_ (gQ (bx (MF hr) (pdv 1) (aR aq)))
  refine di ?_
  refine cT ?_
  exact jL T.b_isinstance T.b_tuple PyProof.Rows.boot_tuple (by decide) (pdv 1)
  refine aB ?_ ?_
  refine cg ?_ (aF (aN fB)) bh
  refine bx (Tr hr) ?_ (jP aq)
  refine cj ?_
  refine bT (own:=["_law_step"]) (cap:=["_law_colours"]) (capI:=[0]) (ts:=[0]) rfl ⟨rfl,by decide +kernel,⟨⟨rfl,by first|exact Or.inl rfl|exact Or.inr rfl⟩,trivial⟩,by decide +kernel,by decide +kernel⟩ (by decide +kernel) (bF (pdv 1)) (λcs C fp s2 H2=>aH (i:=0) (show(["_law_step","_law_colours"]:List Str).Nodup by decide +kernel)) ?_ ?_
  intro cs C fp s2 H2
  refine pW ?_
  refine di ?_
  exact cT (aL F_Lis_step (hr.mono (by decide)) (aa (pdv 1) (aa (pdv 0) aq)) (aA (aA aM)))
  intro cs C fp s2 H2
  exact pdv 0
  refine aB ?_ ?_
  refine cg ?_ (aF (aN fB)) bh
  refine iY ?_
  refine fY ?_ ?_
  refine bx (ph hr) (bB (bB (pdv 1) az) az) ?_
  exact aK dB (aR (aa az aq)) (dh T.b_len (aa (pdv 0) aq))
  refine gQ ?_
  refine di ?_
  refine cT ?_
  refine aL F_Lis_nought (hr.mono (by decide)) ?_ (aA aM)
  refine aa ?_ aq
  refine aL F_Lstep_mix (hr.mono (by decide)) ?_ (aA (aA aM))
  exact aa (pdv 0) (aa (bB (pdv 1) (dU az)) aq)
  refine aB ?_ (aF (aN (kO Eb fB (pdv 2))))
  refine mG (i:=2) nd (own:=["_law_at"]) (cap:=["_law_colours","_law_thing"]) (capI:=[0,1]) (ts:=[0]) rfl ⟨rfl,by decide +kernel,⟨⟨rfl,by first|exact Or.inl rfl|exact Or.inr rfl⟩,⟨⟨rfl,by first|exact Or.inl rfl|exact Or.inr rfl⟩,trivial⟩⟩,by decide +kernel,by decide +kernel⟩ (by decide +kernel) ?_ (λcs C fp s2 H2=>aH (i:=0) (show(["_law_at","_law_colours","_law_thing"]:List Str).Nodup by decide +kernel)) ?_ ?_
  refine bM T.b_range ?_
  exact aa (aK kJ (dh T.b_len (aa (pdv 1) aq)) az) aq
  intro cs C fp s2 H2
  exact aY
  intro cs C fp s2 H2
  refine aL F_Lleads_on (hr.mono (by decide)) ?_ (aA (aA (aA aM)))
  refine aa (pdv 1) ?_
  exact aa (bB (pdv 2) (pdv 0)) (aa (bB (pdv 2) (aK dZ (pdv 0) az)) aq)
abbrev yD:Stmt:=top 2
theorem zj:aW ["many","thing"] ["many","thing"] (aO yD):=⟨rfl,rfl,rfl,by decide +kernel,rfl,by decide +kernel,by decide +kernel⟩
theorem Jq(T:BI K mg)(F:dG K "is_row" "is_row" yD f fd Tb)(KB:K.In base)(hmg:mg "is_row"=some (.ref f)):FI P w K mg base tb "is_row" 2 (0+1) (aJ 2 (lM)):=
 cB F KB hmg zj rfl (λ_ _ _ _ _ _=>us2 λ_ _=>rfl) λc A outer s H E hcd hr=>by
  have nd:=zj.nd
  refine aF ?_
  refine aN ?_
  refine oE ?_ (kY (kO (jH hr) (dh T.b_len (aa (pdv 1) aq)) (pdv 0)))
  exact jL T.b_isinstance T.b_tuple PyProof.Rows.boot_tuple (by decide) (pdv 1)
abbrev pY:Stmt:=top 1
theorem ue:aW ["thing"] ["thing"] (aO pY):=⟨rfl,rfl,rfl,by decide +kernel,rfl,by decide +kernel,by decide +kernel⟩
theorem BV(T:BI K mg)(F:dG K "is_number" "is_number" pY f fd Tb)(KB:K.In base)(hmg:mg "is_number"=some (.ref f)):FI P w K mg base tb "is_number" 1 (0+1) (aJ 1 (iD)):=
 cB F KB hmg ue rfl (λ_ _ _ _ _ _=>us1 λ_=>rfl) λc A outer s H E hcd hr=>by
  have nd:=ue.nd
  refine aF ?_
  refine aN ?_
  refine oE ?_ ?_
  exact jL T.b_isinstance T.b_int PyProof.Rows.boot_int (by decide) (pdv 0)
  refine kY ?_
  refine Gz ?_
  exact jL T.b_isinstance T.b_bool PyProof.Rows.boot_bool (by decide) (pdv 0)
abbrev oJ:Stmt:=top 3
theorem rF:aW ["thing"] ["thing"] (aO oJ):=⟨rfl,rfl,rfl,by decide +kernel,rfl,by decide +kernel,by decide +kernel⟩
theorem yK{fO:FF}(T:BI K mg)(F:dG K "is_numbers" "is_numbers" oJ f fd Tb)(KB:K.In base)(hmg:mg "is_numbers"=some (.ref f))(F_is_number:FI P w K mg base tb "is_number" 1 1 fO)(hT:Tb∈tb):FI P w K mg base tb "is_numbers" 1 (2+1) (aJ 1 (dY fO)):=
 cB F KB hmg rF rfl (λ_ _ _ _ _ _=>us1 λ_=>rfl) λc A outer s H E hcd hr=>by
  have nd:=rF.nd
  refine aF ?_
  refine aN ?_
  refine oE ?_ ?_
  exact jL T.b_isinstance T.b_tuple PyProof.Rows.boot_tuple (by decide) (pdv 0)
  refine kY ?_
  refine pL rfl T.b_all ?_
  refine jE ?_
  refine gZ (own:=["part"]) (cap:=[]) (capI:=[]) (ts:=[0]) rfl hr ⟨rfl,by decide +kernel,trivial,by decide +kernel,by decide +kernel⟩ (by decide +kernel) (by decide +kernel) hT ⟨c,rfl,hcd⟩ (bF (pdv 0)) (λAG cs C code fp s2 H2=>aH (i:=0) (show(["part"]:List Str).Nodup by decide +kernel)) ?_
  intro AG cs C code fp s2 H2 hm
  have hg1:=hm _ hr
  exact aL F_is_number (hg1.mono (by decide)) (aa (pdv 0) aq) (aA aM)
abbrev pX:Stmt:=top 20
theorem uc:aW ["colours","thing"] ["colours","thing"] (aO pX):=⟨rfl,rfl,rfl,by decide +kernel,rfl,by decide +kernel,by decide +kernel⟩
theorem Bb{bR:FF}(T:BI K mg)(F:dG K "is_choice" "is_choice" pX f fd Tb)(KB:K.In base)(hmg:mg "is_choice"=some (.ref f))(F_is_numbers:FI P w K mg base tb "is_numbers" 1 3 bR)(hT:Tb∈tb):FI P w K mg base tb "is_choice" 2 (4+1) (aJ 2 (iy bR)):=
 cB F KB hmg uc rfl (λ_ _ _ _ _ _=>us2 λ_ _=>rfl) λc A outer s H E hcd hr=>by
  have nd:=uc.nd
  refine aB ?_ ?_
  refine cg ?_ (aF (aN fB)) bh
  refine iY ?_
  refine fY ?_ ?_
  refine di ?_
  exact cT (aL F_is_numbers (hr.mono (by decide)) (aa (pdv 1) aq) (aA aM))
  refine gQ ?_
  exact bx (ph hr) (dh T.b_len (aa (pdv 1) aq)) (dh T.b_len (aa (pdv 0) aq))
  refine aF ?_
  refine aN ?_
  refine pL rfl T.b_all ?_
  refine jE ?_
  refine gZ (own:=["colour","k"]) (cap:=[]) (capI:=[]) (ts:=[0,1]) rfl hr ⟨rfl,by decide +kernel,trivial,by decide +kernel,by decide +kernel⟩ (by decide +kernel) (by decide +kernel) hT ⟨c,rfl,hcd⟩ (lq T.b_zip (aa (pdv 0) (aa (pdv 1) aq))) (λAG cs C code fp s2 H2=>fQ rfl (bf (aH (i:=0) (show(["colour","k"]:List Str).Nodup by decide +kernel)) (bf (aH (i:=1) (show(["colour","k"]:List Str).Nodup by decide +kernel)) dD))) ?_
  intro AG cs C code fp s2 H2 hm
  have hg1:=hm _ hr
  exact Ec JT pZ az (pdv 1) (dh T.b_len (aa (pdv 0) aq))
abbrev qt:Stmt:=top 19
theorem tR:aW ["colours","choice"] ["colours","choice"] (aO qt):=⟨rfl,rfl,rfl,by decide +kernel,rfl,by decide +kernel,by decide +kernel⟩
theorem Cg(T:BI K mg)(F:dG K "chosen_of" "chosen_of" qt f fd Tb)(KB:K.In base)(hmg:mg "chosen_of"=some (.ref f)):FI P w K mg base tb "chosen_of" 2 (0+1) (aJ 2 (iI)):=
 cB F KB hmg tR rfl (λ_ _ _ _ _ _=>us2 λ_ _=>rfl) λc A outer s H E hcd hr=>by
  have nd:=tR.nd
  refine aF ?_
  refine aN ?_
  refine cj ?_
  refine bT (own:=["colour","k"]) (cap:=[]) (capI:=[]) (ts:=[0,1]) rfl ⟨rfl,by decide +kernel,trivial,by decide +kernel,by decide +kernel⟩ (by decide +kernel) (lq T.b_zip (aa (pdv 0) (aa (pdv 1) aq))) (λcs C fp s2 H2=>fQ rfl (bf (aH (i:=0) (show(["colour","k"]:List Str).Nodup by decide +kernel)) (bf (aH (i:=1) (show(["colour","k"]:List Str).Nodup by decide +kernel)) dD))) ?_ ?_
  intro cs C fp s2 H2
  exact aY
  intro cs C fp s2 H2
  exact bB (pdv 0) (pdv 1)
abbrev sE:Stmt:=top 10
theorem vI:aW ["many","thing"] ["many","thing"] (aO sE):=⟨rfl,rfl,rfl,by decide +kernel,rfl,by decide +kernel,by decide +kernel⟩
theorem DY{bR:FF}(T:BI K mg)(F:dG K "is_share" "is_share" sE f fd Tb)(KB:K.In base)(hmg:mg "is_share"=some (.ref f))(F_is_numbers:FI P w K mg base tb "is_numbers" 1 3 bR):FI P w K mg base tb "is_share" 2 (3+1) (aJ 2 (fW bR)):=
 cB F KB hmg vI rfl (λ_ _ _ _ _ _=>us2 λ_ _=>rfl) λc A outer s H E hcd hr=>by
  have nd:=vI.nd
  refine aB ?_ ?_
  refine cg ?_ (aF (aN fB)) bh
  refine iY ?_
  refine fY ?_ (gQ (bx (ph hr) (dh T.b_len (aa (pdv 1) aq)) az))
  refine di ?_
  exact cT (aL F_is_numbers (hr.mono (by decide)) (aa (pdv 1) aq) (aA aM))
  refine aF ?_
  refine aN ?_
  exact oE (Ec JT pZ az (bB (pdv 1) az) (pdv 0)) (kY (kO zH (bB (pdv 1) az) az))
abbrev pU:Stmt:=top 11
theorem tE:aW ["many","thing"] ["many","thing"] (aO pU):=⟨rfl,rfl,rfl,by decide +kernel,rfl,by decide +kernel,by decide +kernel⟩
theorem Ba{gC:FF}(T:BI K mg)(F:dG K "is_shares" "is_shares" pU f fd Tb)(KB:K.In base)(hmg:mg "is_shares"=some (.ref f))(F_is_share:FI P w K mg base tb "is_share" 2 4 gC)(hT:Tb∈tb):FI P w K mg base tb "is_shares" 2 (5+1) (aJ 2 (eQ gC)):=
 cB F KB hmg tE rfl (λ_ _ _ _ _ _=>us2 λ_ _=>rfl) λc A outer s H E hcd hr=>by
  have nd:=tE.nd
  refine aB ?_ ?_
  refine cg ?_ (aF (aN fB)) bh
  refine iY ?_
  refine fY ?_ (gQ (bx (jH hr) (dh T.b_len (aa (pdv 1) aq)) az))
  refine di ?_
  refine cT ?_
  exact jL T.b_isinstance T.b_tuple PyProof.Rows.boot_tuple (by decide) (pdv 1)
  refine aB ?_ ?_
  refine cg ?_ (aF (aN fB)) bh
  refine di ?_
  refine cT ?_
  refine pL rfl T.b_all ?_
  refine jE ?_
  refine gZ (own:=["part"]) (cap:=["many"]) (capI:=[0]) (ts:=[0]) rfl hr ⟨rfl,by decide +kernel,⟨⟨rfl,by first|exact Or.inl rfl|exact Or.inr rfl⟩,trivial⟩,by decide +kernel,by decide +kernel⟩ (by decide +kernel) (by decide +kernel) hT ⟨c,rfl,hcd⟩ (bF (pdv 1)) (λAG cs C code fp s2 H2=>aH (i:=0) (show(["part","many"]:List Str).Nodup by decide +kernel)) ?_
  intro AG cs C code fp s2 H2 hm
  have hg1:=hm _ hr
  exact aL F_is_share (hg1.mono (by decide)) (aa (pdv 1) (aa (pdv 0) aq)) (aA (aA aM))
  refine aF ?_
  refine aN ?_
  refine pL rfl T.b_all ?_
  refine jE ?_
  refine gZ (own:=["one","other"]) (cap:=[]) (capI:=[]) (ts:=[0,1]) rfl hr ⟨rfl,by decide +kernel,trivial,by decide +kernel,by decide +kernel⟩ (by decide +kernel) (by decide +kernel) hT ⟨c,rfl,hcd⟩ ?_ (λAG cs C code fp s2 H2=>fQ rfl (bf (aH (i:=0) (show(["one","other"]:List Str).Nodup by decide +kernel)) (bf (aH (i:=1) (show(["one","other"]:List Str).Nodup by decide +kernel)) dD))) ?_
  refine lq T.b_zip ?_
  exact aa (pdv 1) (aa (fJ (pdv 1) (fD az) fH) aq)
  intro AG cs C code fp s2 H2 hm
  have hg1:=hm _ hr
  exact kO pZ (bB (pdv 0) az) (bB (pdv 1) az)
abbrev jD:Stmt:=top 7
theorem lQ:aW ["ones","others"] ["ones","others"] (aO jD):=⟨rfl,rfl,rfl,by decide +kernel,rfl,by decide +kernel,by decide +kernel⟩
theorem rR(T:BI K mg)(F:dG K "sum_of_products" "sum_of_products" jD f fd Tb)(KB:K.In base)(hmg:mg "sum_of_products"=some (.ref f))(hT:Tb∈tb):FI P w K mg base tb "sum_of_products" 2 (1+1) (aJ 2 (bj)):=
 cB F KB hmg lQ rfl (λ_ _ _ _ _ _=>us2 λ_ _=>rfl) λc A outer s H E hcd hr=>by
  have nd:=lQ.nd
  refine aF ?_
  refine aN ?_
  refine xn rfl T.b_sum ?_
  refine jE ?_
  refine gZ (own:=["one","other"]) (cap:=[]) (capI:=[]) (ts:=[0,1]) rfl hr ⟨rfl,by decide +kernel,trivial,by decide +kernel,by decide +kernel⟩ (by decide +kernel) (by decide +kernel) hT ⟨c,rfl,hcd⟩ (lq T.b_zip (aa (pdv 0) (aa (pdv 1) aq))) (λAG cs C code fp s2 H2=>fQ rfl (bf (aH (i:=0) (show(["one","other"]:List Str).Nodup by decide +kernel)) (bf (aH (i:=1) (show(["one","other"]:List Str).Nodup by decide +kernel)) dD))) ?_
  intro AG cs C code fp s2 H2 hm
  have hg1:=hm _ hr
  exact aK dB (pdv 0) (pdv 1)
abbrev uy:Stmt:=top 8
theorem wW:aW ["rows","weights"] ["rows","weights"] (aO uy):=⟨rfl,rfl,rfl,by decide +kernel,rfl,by decide +kernel,by decide +kernel⟩
theorem Fw{aP:FF}(T:BI K mg)(F:dG K "weighed" "weighed" uy f fd Tb)(KB:K.In base)(hmg:mg "weighed"=some (.ref f))(F_sum_of_products:FI P w K mg base tb "sum_of_products" 2 2 aP):FI P w K mg base tb "weighed" 2 (2+1) (aJ 2 (lG aP)):=
 cB F KB hmg wW rfl (λ_ _ _ _ _ _=>us2 λ_ _=>rfl) λc A outer s H E hcd hr=>by
  have nd:=wW.nd
  refine aF ?_
  refine aN ?_
  refine cj ?_
  refine bT (own:=["at"]) (cap:=["weights","rows"]) (capI:=[1,0]) (ts:=[0]) rfl ⟨rfl,by decide +kernel,⟨⟨rfl,by first|exact Or.inl rfl|exact Or.inr rfl⟩,⟨⟨rfl,by first|exact Or.inl rfl|exact Or.inr rfl⟩,trivial⟩⟩,by decide +kernel,by decide +kernel⟩ (by decide +kernel) ?_ (λcs C fp s2 H2=>aH (i:=0) (show(["at","weights","rows"]:List Str).Nodup by decide +kernel)) ?_ ?_
  refine bM T.b_range ?_
  exact aa (dh T.b_len (aa (bB (pdv 0) az) aq)) aq
  intro cs C fp s2 H2
  exact aY
  intro cs C fp s2 H2
  refine aL F_sum_of_products (hr.mono (by decide)) ?_ (aA (aA aM))
  refine aa (pdv 1) ?_
  refine aa ?_ aq
  refine cj ?_
  refine bT (own:=["row"]) (cap:=["at"]) (capI:=[0]) (ts:=[0]) rfl ⟨rfl,by decide +kernel,⟨⟨rfl,by first|exact Or.inl rfl|exact Or.inr rfl⟩,trivial⟩,by decide +kernel,by decide +kernel⟩ (by decide +kernel) (bF (pdv 2)) (λcs C fp s2 H2=>aH (i:=0) (show(["row","at"]:List Str).Nodup by decide +kernel)) ?_ ?_
  intro cs C fp s2 H2
  exact aY
  intro cs C fp s2 H2
  exact bB (pdv 0) (pdv 1)
abbrev jN:Stmt:=top 4
theorem mD:aW ["one","other"] ["one","other"] (aO jN):=⟨rfl,rfl,rfl,by decide +kernel,rfl,by decide +kernel,by decide +kernel⟩
theorem tW(T:BI K mg)(F:dG K "divisor_of_two" "divisor_of_two" jN f fd Tb)(KB:K.In base)(hmg:mg "divisor_of_two"=some (.ref f)):FI P w K mg base tb "divisor_of_two" 2 (0+1) (aJ 2 (eZ)):=
 cB F KB hmg mD rfl (λ_ _ _ _ _ _=>us2 λ_ _=>rfl) λc A outer s H E hcd hr=>by
  have nd:=mD.nd
  refine aB ?_ ?_
  refine wk (i:=0) (j:=1) rfl nd ?_
  exact aa (wO T.b_abs (aa (pdv 0) aq)) (aa (wO T.b_abs (aa (pdv 1) aq)) aq)
  refine aB ?_ (aF (aN (pdv 0)))
  refine uE PassesOwn.never (bx (ph hr) (pdv 1) az) ?_
  refine aF ?_
  exact wk (i:=0) (j:=1) rfl nd (aa (pdv 1) (aa (aK dF (pdv 0) (pdv 1)) aq))
abbrev jQ:Stmt:=top 5
theorem mq:aW ["numbers","found","number"] ["numbers"] (aO jQ):=⟨rfl,rfl,rfl,by decide +kernel,rfl,by decide +kernel,by decide +kernel⟩
theorem tO{cL:FF}(T:BI K mg)(F:dG K "common_divisor" "common_divisor" jQ f fd Tb)(KB:K.In base)(hmg:mg "common_divisor"=some (.ref f))(F_divisor_of_two:FI P w K mg base tb "divisor_of_two" 2 1 cL):FI P w K mg base tb "common_divisor" 1 (1+1) (aJ 3 (fj cL)):=
 cB F KB hmg mq rfl (λ_ _ _ _ _ _=>us1 λ_=>rfl) λc A outer s H E hcd hr=>by
  have nd:=mq.nd
  refine aB (bw (i:=1) nd az) ?_
  refine aB ?_ (aF (aN (pdv 1)))
  refine jX (ts:=[2]) PassesOwn.never rfl (bF (pdv 0)) (aH (i:=2) nd) ?_
  refine aB ?_ ?_
  exact bw (i:=1) nd (aL F_divisor_of_two (hr.mono (by decide)) (aa (pdv 1) (aa (pdv 2) aq)) (aA (aA aM)))
  exact aF (cg (bx (jH hr) (pdv 1) az) (aF Ih) bh)
abbrev sI:Stmt:=top 6
theorem vA:aW ["numbers","common"] ["numbers"] (aO sI):=⟨rfl,rfl,rfl,by decide +kernel,rfl,by decide +kernel,by decide +kernel⟩
theorem De{cM:FF}(T:BI K mg)(F:dG K "lessened" "lessened" sI f fd Tb)(KB:K.In base)(hmg:mg "lessened"=some (.ref f))(F_common_divisor:FI P w K mg base tb "common_divisor" 1 2 cM)(hT:Tb∈tb):FI P w K mg base tb "lessened" 1 (3+1) (aJ 2 (jU cM)):=
 cB F KB hmg vA rfl (λ_ _ _ _ _ _=>us1 λ_=>rfl) λc A outer s H E hcd hr=>by
  have nd:=vA.nd
  refine aB ?_ ?_
  exact bw (i:=1) nd (aL F_common_divisor (hr.mono (by decide)) (aa (pdv 0) aq) (aA aM))
  refine aF ?_
  refine aN ?_
  refine Oq rfl T.b_tuple ?_
  refine gZ (own:=["number"]) (cap:=["common"]) (capI:=[1]) (ts:=[0]) rfl hr ⟨rfl,by decide +kernel,⟨⟨rfl,by first|exact Or.inl rfl|exact Or.inr rfl⟩,trivial⟩,by decide +kernel,by decide +kernel⟩ (by decide +kernel) (by decide +kernel) hT ⟨c,rfl,hcd⟩ (bF (pdv 0)) (λAG cs C code fp s2 H2=>aH (i:=0) (show(["number","common"]:List Str).Nodup by decide +kernel)) ?_
  intro AG cs C code fp s2 H2 hm
  have hg1:=hm _ hr
  exact aK mR (pdv 0) (pdv 1)
abbrev uM:Stmt:=top 13
theorem yo:aW ["numbers","bottom","sign"] ["numbers","bottom"] (aO uM):=⟨rfl,rfl,rfl,by decide +kernel,rfl,by decide +kernel,by decide +kernel⟩
theorem FW{gw:FF}(T:BI K mg)(F:dG K "spot_at" "spot_at" uM f fd Tb)(KB:K.In base)(hmg:mg "spot_at"=some (.ref f))(F_lessened:FI P w K mg base tb "lessened" 1 4 gw):FI P w K mg base tb "spot_at" 2 (4+1) (aJ 3 (lE gw)):=
 cB F KB hmg yo rfl (λ_ _ _ _ _ _=>us2 λ_ _=>rfl) λc A outer s H E hcd hr=>by
  have nd:=yo.nd
  refine aB ?_ ?_
  exact bw (i:=2) nd (Wt (bx XH (pdv 1) az) az (dU az))
  refine aF ?_
  refine aN ?_
  refine aL F_lessened (hr.mono (by decide)) ?_ (aA aM)
  refine aa ?_ aq
  refine cj ?_
  refine bT (own:=["number"]) (cap:=["sign"]) (capI:=[2]) (ts:=[0]) rfl ⟨rfl,by decide +kernel,⟨⟨rfl,by first|exact Or.inl rfl|exact Or.inr rfl⟩,trivial⟩,by decide +kernel,by decide +kernel⟩ (by decide +kernel) (bF (aR (Ld (pdv 0) (aa (pdv 1) aq)))) (λcs C fp s2 H2=>aH (i:=0) (show(["number","sign"]:List Str).Nodup by decide +kernel)) ?_ ?_
  intro cs C fp s2 H2
  exact aY
  intro cs C fp s2 H2
  exact aK dB (pdv 1) (pdv 0)
abbrev wK:Stmt:=top 15
theorem Aa:aW ["arrows","shares","shared","weights"] ["arrows","shares"] (aO wK):=⟨rfl,rfl,rfl,by decide +kernel,rfl,by decide +kernel,by decide +kernel⟩
theorem Ik{jr iM:FF}(T:BI K mg)(F:dG K "mix_of" "mix_of" wK f fd Tb)(KB:K.In base)(hmg:mg "mix_of"=some (.ref f))(F_weighed:FI P w K mg base tb "weighed" 2 3 jr)(F_spot_at:FI P w K mg base tb "spot_at" 2 5 iM):FI P w K mg base tb "mix_of" 2 (5+1) (aJ 4 (lU jr iM)):=
 cB F KB hmg Aa rfl (λ_ _ _ _ _ _=>us2 λ_ _=>rfl) λc A outer s H E hcd hr=>by
  have nd:=Aa.nd
  refine aB ?_ ?_
  refine mG (i:=2) nd (own:=["k","share"]) (cap:=["arrows"]) (capI:=[0]) (ts:=[0,1]) rfl ⟨rfl,by decide +kernel,⟨⟨rfl,by first|exact Or.inl rfl|exact Or.inr rfl⟩,trivial⟩,by decide +kernel,by decide +kernel⟩ (by decide +kernel) (bF (pdv 1)) (λcs C fp s2 H2=>fQ rfl (bf (aH (i:=0) (show(["k","share","arrows"]:List Str).Nodup by decide +kernel)) (bf (aH (i:=1) (show(["k","share","arrows"]:List Str).Nodup by decide +kernel)) dD))) ?_ ?_
  intro cs C fp s2 H2
  exact aY
  intro cs C fp s2 H2
  exact bB (pdv 2) (pdv 0)
  refine aB ?_ ?_
  refine mG (i:=3) nd (own:=["k","share"]) (cap:=[]) (capI:=[]) (ts:=[0,1]) rfl ⟨rfl,by decide +kernel,trivial,by decide +kernel,by decide +kernel⟩ (by decide +kernel) (bF (pdv 1)) (λcs C fp s2 H2=>fQ rfl (bf (aH (i:=0) (show(["k","share"]:List Str).Nodup by decide +kernel)) (bf (aH (i:=1) (show(["k","share"]:List Str).Nodup by decide +kernel)) dD))) ?_ ?_
  intro cs C fp s2 H2
  exact aY
  intro cs C fp s2 H2
  exact pdv 1
  refine aF ?_
  refine aN ?_
  refine aL F_spot_at (hr.mono (by decide)) ?_ (aA (aA aM))
  exact aa (aL F_weighed (hr.mono (by decide)) (aa (pdv 2) (aa (pdv 3) aq)) (aA (aA aM))) (aa (xn rfl T.b_sum (lC rfl (pdv 3))) aq)
abbrev qm:Stmt:=top 16
theorem ul:aW ["mix","arrow","numbers","bottom"] ["mix","arrow"] (aO qm):=⟨rfl,rfl,rfl,by decide +kernel,rfl,by decide +kernel,by decide +kernel⟩
theorem Bf{aP:FF}(T:BI K mg)(F:dG K "is_behind" "is_behind" qm f fd Tb)(KB:K.In base)(hmg:mg "is_behind"=some (.ref f))(F_sum_of_products:FI P w K mg base tb "sum_of_products" 2 2 aP):FI P w K mg base tb "is_behind" 2 (2+1) (aJ 4 (jz aP)):=
 cB F KB hmg ul rfl (λ_ _ _ _ _ _=>us2 λ_ _=>rfl) λc A outer s H E hcd hr=>by
  have nd:=ul.nd
  refine aB (LK (i:=2) (j:=3) nd rfl (pdv 0)) ?_
  refine aF ?_
  refine aN ?_
  refine kO zH ?_ (aL F_sum_of_products (hr.mono (by decide)) (aa (pdv 2) (aa (pdv 2) aq)) (aA (aA aM)))
  exact aK dB (pdv 3) (aL F_sum_of_products (hr.mono (by decide)) (aa (pdv 2) (aa (pdv 1) aq)) (aA (aA aM)))
abbrev oK:Stmt:=top 17
theorem rB:aW ["arrows","thing","mix"] ["arrows","thing"] (aO oK):=⟨rfl,rfl,rfl,by decide +kernel,rfl,by decide +kernel,by decide +kernel⟩
theorem yH{fL dH gP:FF}(T:BI K mg)(F:dG K "near_holds" "near_holds" oK f fd Tb)(KB:K.In base)(hmg:mg "near_holds"=some (.ref f))(F_is_shares:FI P w K mg base tb "is_shares" 2 6 fL)(F_mix_of:FI P w K mg base tb "mix_of" 2 6 dH)(F_is_behind:FI P w K mg base tb "is_behind" 2 3 gP)(hT:Tb∈tb):FI P w K mg base tb "near_holds" 2 (7+1) (aJ 3 (gO fL dH gP)):=
 cB F KB hmg rB rfl (λ_ _ _ _ _ _=>us2 λ_ _=>rfl) λc A outer s H E hcd hr=>by
  have nd:=rB.nd
  refine aB ?_ ?_
  refine cg ?_ (aF (aN fB)) bh
  refine di ?_
  refine cT ?_
  refine aL F_is_shares (hr.mono (by decide)) ?_ (aA (aA aM))
  exact aa (dh T.b_len (aa (pdv 0) aq)) (aa (pdv 1) aq)
  refine aB ?_ ?_
  exact bw (i:=2) nd (aL F_mix_of (hr.mono (by decide)) (aa (pdv 0) (aa (pdv 1) aq)) (aA (aA aM)))
  refine aF ?_
  refine aN ?_
  refine pL rfl T.b_all ?_
  refine jE ?_
  refine gZ (own:=["arrow"]) (cap:=["mix"]) (capI:=[2]) (ts:=[0]) rfl hr ⟨rfl,by decide +kernel,⟨⟨rfl,by first|exact Or.inl rfl|exact Or.inr rfl⟩,trivial⟩,by decide +kernel,by decide +kernel⟩ (by decide +kernel) (by decide +kernel) hT ⟨c,rfl,hcd⟩ (bF (pdv 0)) (λAG cs C code fp s2 H2=>aH (i:=0) (show(["arrow","mix"]:List Str).Nodup by decide +kernel)) ?_
  intro AG cs C code fp s2 H2 hm
  have hg1:=hm _ hr
  exact aL F_is_behind (hg1.mono (by decide)) (aa (pdv 1) (aa (pdv 0) aq)) (aA (aA aM))
abbrev uz:Stmt:=top 21
theorem ym:aW ["colours","thing","choice","shares"] ["colours","thing"] (aO uz):=⟨rfl,rfl,rfl,by decide +kernel,rfl,by decide +kernel,by decide +kernel⟩
theorem Gi{jt gU cG eY:FF}(T:BI K mg)(F:dG K "is_step" "is_step" uz f fd Tb)(KB:K.In base)(hmg:mg "is_step"=some (.ref f))(F_is_row:FI P w K mg base tb "is_row" 2 1 jt)(F_is_choice:FI P w K mg base tb "is_choice" 2 5 gU)(F_chosen_of:FI P w K mg base tb "chosen_of" 2 1 cG)(F_near_holds:FI P w K mg base tb "near_holds" 2 8 eY):FI P w K mg base tb "is_step" 2 (8+1) (aJ 4 (ju jt gU cG eY)):=
 cB F KB hmg ym rfl (λ_ _ _ _ _ _=>us2 λ_ _=>rfl) λc A outer s H E hcd hr=>by
  have nd:=ym.nd
  refine aB ?_ ?_
  refine cg ?_ (aF (aN fB)) bh
  refine di ?_
  exact cT (aL F_is_row (hr.mono (by decide)) (aa az (aa (pdv 1) aq)) (aA (aA aM)))
  refine aB (Bx (ts:=[2,3]) (pdv 1) (fQ rfl (bf (aH (i:=2) nd) (bf (aH (i:=3) nd) dD)))) ?_
  refine aF ?_
  refine aN ?_
  refine oE (aL F_is_choice (hr.mono (by decide)) (aa (pdv 0) (aa (pdv 2) aq)) (aA (aA aM))) ?_
  refine kY ?_
  refine aL F_near_holds (hr.mono (by decide)) ?_ (aA (aA aM))
  exact aa (aL F_chosen_of (hr.mono (by decide)) (aa (pdv 0) (aa (pdv 2) aq)) (aA (aA aM))) (aa (pdv 3) aq)
abbrev mX:Stmt:=top 23
theorem pO:aW ["step","later","choice","shares","differing"] ["step","later"] (aO mX):=⟨rfl,rfl,rfl,by decide +kernel,rfl,by decide +kernel,by decide +kernel⟩
theorem yw(T:BI K mg)(F:dG K "is_exchange" "is_exchange" mX f fd Tb)(KB:K.In base)(hmg:mg "is_exchange"=some (.ref f)):FI P w K mg base tb "is_exchange" 2 (0+1) (aJ 5 (gY)):=
 cB F KB hmg pO rfl (λ_ _ _ _ _ _=>us2 λ_ _=>rfl) λc A outer s H E hcd hr=>by
  have nd:=pO.nd
  refine aB (Bx (ts:=[2,3]) (pdv 0) (fQ rfl (bf (aH (i:=2) nd) (bf (aH (i:=3) nd) dD)))) ?_
  refine aB ?_ ?_
  refine mG (i:=4) nd (own:=["at"]) (cap:=["choice","later"]) (capI:=[2,1]) (ts:=[0]) rfl ⟨rfl,by decide +kernel,⟨⟨rfl,by first|exact Or.inl rfl|exact Or.inr rfl⟩,⟨⟨rfl,by first|exact Or.inl rfl|exact Or.inr rfl⟩,trivial⟩⟩,by decide +kernel,by decide +kernel⟩ (by decide +kernel) (bM T.b_range (aa (dh T.b_len (aa (pdv 2) aq)) aq)) (λcs C fp s2 H2=>aH (i:=0) (show(["at","choice","later"]:List Str).Nodup by decide +kernel)) ?_ ?_
  intro cs C fp s2 H2
  refine pW ?_
  exact bx (ph hr) (bB (pdv 1) (pdv 0)) (bB (bB (pdv 2) az) (pdv 0))
  intro cs C fp s2 H2
  exact pdv 0
  refine aF ?_
  refine aN ?_
  refine oE (kO (jH hr) (dh T.b_len (aa (pdv 4) aq)) az) ?_
  refine kY ?_
  refine kO Eb (bB (pdv 4) az) ?_
  refine cj ?_
  refine bT (own:=["at","share"]) (cap:=[]) (capI:=[]) (ts:=[0,1]) rfl ⟨rfl,by decide +kernel,trivial,by decide +kernel,by decide +kernel⟩ (by decide +kernel) (bF (pdv 3)) (λcs C fp s2 H2=>fQ rfl (bf (aH (i:=0) (show(["at","share"]:List Str).Nodup by decide +kernel)) (bf (aH (i:=1) (show(["at","share"]:List Str).Nodup by decide +kernel)) dD))) ?_ ?_
  intro cs C fp s2 H2
  exact aY
  intro cs C fp s2 H2
  exact pdv 0
abbrev sU:Stmt:=top 22
theorem vM:aW ["colours","step","choice","shares"] ["colours","step"] (aO sU):=⟨rfl,rfl,rfl,by decide +kernel,rfl,by decide +kernel,by decide +kernel⟩
theorem DG{cG dH:FF}(T:BI K mg)(F:dG K "step_mix" "step_mix" sU f fd Tb)(KB:K.In base)(hmg:mg "step_mix"=some (.ref f))(F_chosen_of:FI P w K mg base tb "chosen_of" 2 1 cG)(F_mix_of:FI P w K mg base tb "mix_of" 2 6 dH):FI P w K mg base tb "step_mix" 2 (6+1) (aJ 4 (jT cG dH)):=
 cB F KB hmg vM rfl (λ_ _ _ _ _ _=>us2 λ_ _=>rfl) λc A outer s H E hcd hr=>by
  have nd:=vM.nd
  refine aB (Bx (ts:=[2,3]) (pdv 1) (fQ rfl (bf (aH (i:=2) nd) (bf (aH (i:=3) nd) dD)))) ?_
  refine aF ?_
  refine aN ?_
  refine aL F_mix_of (hr.mono (by decide)) ?_ (aA (aA aM))
  exact aa (aL F_chosen_of (hr.mono (by decide)) (aa (pdv 0) (aa (pdv 2) aq)) (aA (aA aM))) (aa (pdv 3) aq)
abbrev qz:Stmt:=top 24
theorem ud:aW ["mix","other","square","its"] ["mix","other"] (aO qz):=⟨rfl,rfl,rfl,by decide +kernel,rfl,by decide +kernel,by decide +kernel⟩
theorem BZ{aP:FF}(T:BI K mg)(F:dG K "is_nearer" "is_nearer" qz f fd Tb)(KB:K.In base)(hmg:mg "is_nearer"=some (.ref f))(F_sum_of_products:FI P w K mg base tb "sum_of_products" 2 2 aP):FI P w K mg base tb "is_nearer" 2 (2+1) (aJ 4 (jy aP)):=
 cB F KB hmg ud rfl (λ_ _ _ _ _ _=>us2 λ_ _=>rfl) λc A outer s H E hcd hr=>by
  have nd:=ud.nd
  refine aB ?_ ?_
  refine bw (i:=2) nd ?_
  refine aL F_sum_of_products (hr.mono (by decide)) ?_ (aA (aA aM))
  refine aa (fJ (pdv 0) fH (fD (dU az))) ?_
  exact aa (fJ (pdv 0) fH (fD (dU az))) aq
  refine aB ?_ ?_
  refine bw (i:=3) nd ?_
  refine aL F_sum_of_products (hr.mono (by decide)) ?_ (aA (aA aM))
  refine aa (fJ (pdv 1) fH (fD (dU az))) ?_
  exact aa (fJ (pdv 1) fH (fD (dU az))) aq
  refine aF ?_
  refine aN ?_
  refine kO pZ ?_ ?_
  exact aK dB (aK dB (pdv 2) (bB (pdv 1) (dU az))) (bB (pdv 1) (dU az))
  exact aK dB (aK dB (pdv 3) (bB (pdv 0) (dU az))) (bB (pdv 0) (dU az))
abbrev mW:Stmt:=top 25
theorem qx:aW ["colours","thing","mixes"] ["colours","thing"] (aO mW):=⟨rfl,rfl,rfl,by decide +kernel,rfl,by decide +kernel,by decide +kernel⟩
theorem wN{iR fu iH gJ:FF}(T:BI K mg)(F:dG K "trail_holds" "trail_holds" mW f fd Tb)(KB:K.In base)(hmg:mg "trail_holds"=some (.ref f))(F_is_step:FI P w K mg base tb "is_step" 2 9 iR)(F_is_exchange:FI P w K mg base tb "is_exchange" 2 1 fu)(F_step_mix:FI P w K mg base tb "step_mix" 2 7 iH)(F_is_nearer:FI P w K mg base tb "is_nearer" 2 3 gJ)(hT:Tb∈tb):FI P w K mg base tb "trail_holds" 2 (10+1) (aJ 3 (cZ iR fu iH gJ)):=
 cB F KB hmg qx rfl (λ_ _ _ _ _ _=>us2 λ_ _=>rfl) λc A outer s H E hcd hr=>by
  have nd:=qx.nd
  refine aB ?_ ?_
  refine cg ?_ (aF (aN fB)) bh
  refine iY ?_
  refine fY ?_ (gQ (bx (jH hr) (dh T.b_len (aa (pdv 1) aq)) az))
  refine di ?_
  refine cT ?_
  exact jL T.b_isinstance T.b_tuple PyProof.Rows.boot_tuple (by decide) (pdv 1)
  refine aB ?_ ?_
  refine cg ?_ (aF (aN fB)) bh
  refine iY ?_
  refine fY ?_ ?_
  refine di ?_
  refine cT ?_
  refine pL rfl T.b_all ?_
  refine jE ?_
  refine gZ (own:=["step"]) (cap:=["colours"]) (capI:=[0]) (ts:=[0]) rfl hr ⟨rfl,by decide +kernel,⟨⟨rfl,by first|exact Or.inl rfl|exact Or.inr rfl⟩,trivial⟩,by decide +kernel,by decide +kernel⟩ (by decide +kernel) (by decide +kernel) hT ⟨c,rfl,hcd⟩ (bF (pdv 1)) (λAG cs C code fp s2 H2=>aH (i:=0) (show(["step","colours"]:List Str).Nodup by decide +kernel)) ?_
  intro AG cs C code fp s2 H2 hm
  have hg1:=hm _ hr
  exact aL F_is_step (hg1.mono (by decide)) (aa (pdv 1) (aa (pdv 0) aq)) (aA (aA aM))
  refine gQ ?_
  exact cT (Mp rfl T.b_any (lC rfl (bB (bB (pdv 1) az) az)))
  refine aB ?_ ?_
  refine cg ?_ (aF (aN fB)) bh
  refine di ?_
  refine cT ?_
  refine pL rfl T.b_all ?_
  refine jE ?_
  refine gZ (own:=["step","later"]) (cap:=[]) (capI:=[]) (ts:=[0,1]) rfl hr ⟨rfl,by decide +kernel,trivial,by decide +kernel,by decide +kernel⟩ (by decide +kernel) (by decide +kernel) hT ⟨c,rfl,hcd⟩ ?_ (λAG cs C code fp s2 H2=>fQ rfl (bf (aH (i:=0) (show(["step","later"]:List Str).Nodup by decide +kernel)) (bf (aH (i:=1) (show(["step","later"]:List Str).Nodup by decide +kernel)) dD))) ?_
  refine lq T.b_zip ?_
  exact aa (pdv 1) (aa (fJ (pdv 1) (fD az) fH) aq)
  intro AG cs C code fp s2 H2 hm
  have hg1:=hm _ hr
  exact aL F_is_exchange (hg1.mono (by decide)) (aa (pdv 0) (aa (pdv 1) aq)) (aA (aA aM))
  refine aB ?_ ?_
  refine mG (i:=2) nd (own:=["step"]) (cap:=["colours"]) (capI:=[0]) (ts:=[0]) rfl ⟨rfl,by decide +kernel,⟨⟨rfl,by first|exact Or.inl rfl|exact Or.inr rfl⟩,trivial⟩,by decide +kernel,by decide +kernel⟩ (by decide +kernel) (bF (pdv 1)) (λcs C fp s2 H2=>aH (i:=0) (show(["step","colours"]:List Str).Nodup by decide +kernel)) ?_ ?_
  intro cs C fp s2 H2
  exact aY
  intro cs C fp s2 H2
  exact aL F_step_mix (hr.mono (by decide)) (aa (pdv 1) (aa (pdv 0) aq)) (aA (aA aM))
  refine aF ?_
  refine aN ?_
  refine oE ?_ ?_
  refine Gz ?_
  refine Mp rfl T.b_any ?_
  refine lC rfl ?_
  exact fJ (bB (pdv 2) (dU az)) fH (fD (dU az))
  refine kY ?_
  refine pL rfl T.b_all ?_
  refine jE ?_
  refine gZ (own:=["mix","later"]) (cap:=[]) (capI:=[]) (ts:=[0,1]) rfl hr ⟨rfl,by decide +kernel,trivial,by decide +kernel,by decide +kernel⟩ (by decide +kernel) (by decide +kernel) hT ⟨c,rfl,hcd⟩ ?_ (λAG cs C code fp s2 H2=>fQ rfl (bf (aH (i:=0) (show(["mix","later"]:List Str).Nodup by decide +kernel)) (bf (aH (i:=1) (show(["mix","later"]:List Str).Nodup by decide +kernel)) dD))) ?_
  refine lq T.b_zip ?_
  exact aa (pdv 2) (aa (fJ (pdv 2) (fD az) fH) aq)
  intro AG cs C code fp s2 H2 hm
  have hg1:=hm _ hr
  exact aL F_is_nearer (hg1.mono (by decide)) (aa (pdv 1) (aa (pdv 0) aq)) (aA (aA aM))
abbrev By:Stmt:=top 33
theorem DX:aW ["_law_found","_law_due"] ["_law_found","_law_due"] (aO By):=⟨rfl,rfl,rfl,by decide +kernel,rfl,by decide +kernel,by decide +kernel⟩
theorem Kz(T:BI K mg)(F:dG K "_law_says" "_law_says" By f fd Tb)(KB:K.In base)(hmg:mg "_law_says"=some (.ref f)):FI P w K mg base tb "_law_says" 2 (0+1) (aJ 2 (qH)):=
 cB F KB hmg DX rfl (λ_ _ _ _ _ _=>us2 λ_ _=>rfl) λc A outer s H E hcd hr=>by
  have nd:=DX.nd
  refine aF ?_
  refine aN ?_
  refine oE ?_ (kY (kO (jH hr) (pdv 0) (pdv 1)))
  exact jL T.b_isinstance T.b_bool PyProof.Rows.boot_bool (by decide) (pdv 0)
abbrev zO:Stmt:=top 53
theorem NB:aW ["_law_script","_law_drawn","_law_turn","_law_size","_law_colours","_law_first","_law_last","_law_some","_law_thing"] ["_law_script"] (aO zO):=⟨rfl,rfl,rfl,by decide +kernel,rfl,by decide +kernel,by decide +kernel⟩
theorem Ui{jx bc cX iQ fX dg cA jF:FF}(T:BI K mg)(F:dG K "law" "law" zO f fd Tb)(KB:K.In base)(F_Ldraws:FI P w K mg base tb "_law_draws" 1 2 jx)(F_Lnext:FI P w K mg base tb "_law_next" 1 1 bc)(F_Lheld_colours:FI P w K mg base tb "_law_held_colours" 3 4 cX)(F_Larrows:FI P w K mg base tb "_law_arrows" 3 3 iQ)(F_Lthings:FI P w K mg base tb "_law_things" 0 1 fX)(F_Lis_trail:FI P w K mg base tb "_law_is_trail" 2 6 dg)(F_trail_holds:FI P w K mg base tb "trail_holds" 2 11 cA)(F_Lsays:FI P w K mg base tb "_law_says" 2 1 jF):uv P w K mg base CX0 (11+1) f fd ["_law_script"] (spD K tb 1 (aJ 9 (uI jx bc cX iQ fX dg cA jF))):=
 PL F KB NB rfl λc A outer s H E hcd hr=>by
  have nd:=NB.nd
  refine aB ?_ ?_
  refine bw (i:=1) nd ?_
  refine aL F_Ldraws (hr.mono (by decide)) ?_ (aA aM)
  exact aa (pdv 0) aq
  refine aB ?_ ?_
  refine jX (ts:=[2]) PassesOwn.never rfl ?_ (aH (i:=2) nd) ?_
  refine bM T.b_range ?_
  refine aa ?_ aq
  exact az
  refine aB ?_ ?_
  refine bw (i:=3) nd ?_
  refine aK dZ ?_ ?_
  exact az
  refine aK dF ?_ ?_
  refine aL F_Lnext (hr.mono (by decide)) ?_ (aA aM)
  exact aa (pdv 1) aq
  exact az
  refine aB ?_ ?_
  refine bw (i:=4) nd ?_
  refine aL F_Lheld_colours (hr.mono (by decide)) ?_ (aA (aA (aA aM)))
  refine aa (pdv 1) ?_
  refine aa (pdv 3) ?_
  refine aa ?_ aq
  exact az
  refine aB ?_ ?_
  refine cg ?_ ?_ bh
  refine bx (jH hr) ?_ ?_
  refine aK dF ?_ ?_
  refine aL F_Lnext (hr.mono (by decide)) ?_ (aA aM)
  exact aa (pdv 1) aq
  exact az
  exact az
  refine aF ?_
  refine mG (i:=4) nd (own:=["_law_k"]) (cap:=["_law_drawn","_law_size"]) (capI:=[1,3]) (ts:=[0]) rfl ⟨rfl,by decide +kernel,⟨⟨rfl,by first|exact Or.inl rfl|exact Or.inr rfl⟩,⟨⟨rfl,by first|exact Or.inl rfl|exact Or.inr rfl⟩,trivial⟩⟩,by decide +kernel,by decide +kernel⟩ (by decide +kernel) ?_ (λcs C fp s2 H2=>aH (i:=0) (show(["_law_k","_law_drawn","_law_size"]:List Str).Nodup by decide +kernel)) ?_ ?_
  refine bM T.b_range ?_
  refine aa ?_ aq
  refine aK dZ (pdv 3) ?_
  exact az
  intro cs C fp s2 H2
  exact aY
  intro cs C fp s2 H2
  refine aL F_Larrows (hr.mono (by decide)) ?_ (aA (aA (aA aM)))
  refine aa (pdv 1) ?_
  refine aa (pdv 2) ?_
  refine aa ?_ aq
  exact az
  refine aB ?_ ?_
  refine bw (i:=5) nd ?_
  refine aK dB ?_ ?_
  refine aR ?_
  refine aa ?_ aq
  exact az
  refine dh T.b_len ?_
  exact aa (pdv 4) aq
  refine aB ?_ ?_
  refine bw (i:=6) nd ?_
  refine tG T.b_tuple ?_
  refine aa ?_ aq
  refine cj ?_
  refine bT (own:=["_law_colour"]) (cap:=[]) (capI:=[]) (ts:=[0]) rfl ⟨rfl,by decide +kernel,trivial,by decide +kernel,by decide +kernel⟩ (by decide +kernel) ?_ (λcs C fp s2 H2=>aH (i:=0) (show(["_law_colour"]:List Str).Nodup by decide +kernel)) ?_ ?_
  exact bF (pdv 4)
  intro cs C fp s2 H2
  exact aY
  intro cs C fp s2 H2
  refine aK kJ ?_ ?_
  refine dh T.b_len ?_
  exact aa (pdv 0) aq
  exact az
  refine aB ?_ ?_
  refine bw (i:=7) nd ?_
  refine nW ?_
  refine Bw ?_
  refine aa (pdv 5) ?_
  refine aa (pdv 6) ?_
  refine aa ?_ ?_
  refine aR ?_
  exact aa (pdv 5) aq
  refine aa ?_ ?_
  refine aR ?_
  refine aa ?_ aq
  refine aR ?_
  exact aa (pdv 5) aq
  refine aa ?_ ?_
  refine aR ?_
  refine aa ?_ aq
  refine aR ?_
  refine aa (pdv 5) ?_
  refine aa ?_ aq
  exact aR aq
  refine aa ?_ ?_
  refine aR ?_
  refine aa ?_ aq
  refine aR ?_
  refine aa (pdv 5) ?_
  refine aa ?_ aq
  exact vd
  refine aa ?_ ?_
  refine aR ?_
  refine aa ?_ aq
  refine aR ?_
  refine aa (pdv 5) ?_
  exact aa (pdv 5) aq
  refine aa ?_ aq
  refine aR ?_
  refine aa (pdv 5) ?_
  refine aa ?_ aq
  exact aR aq
  refine aB ?_ ?_
  refine jX (ts:=[8]) PassesOwn.never rfl ?_ (aH (i:=8) nd) ?_
  refine bF ?_
  exact Od F_Lthings (hr.mono (by decide))
  refine aF ?_
  refine lL ?_
  refine Iv (pdv 7) ?_
  refine Bw ?_
  refine aa (pdv 8) ?_
  refine aa ?_ ?_
  refine aR ?_
  exact aa (pdv 8) aq
  refine aa ?_ ?_
  refine aR ?_
  refine aa ?_ aq
  refine aR ?_
  refine aa (pdv 5) ?_
  exact aa (pdv 8) aq
  refine aa ?_ ?_
  refine aR ?_
  refine aa ?_ aq
  refine aR ?_
  refine aa (pdv 8) ?_
  refine aa ?_ aq
  refine aR ?_
  refine aa ?_ aq
  refine aR ?_
  refine aa ?_ ?_
  exact az
  refine aa ?_ aq
  exact az
  refine aa ?_ aq
  refine aR ?_
  refine aa ?_ aq
  refine aR ?_
  refine aa (pdv 8) ?_
  exact aa (pdv 8) aq
  refine aB ?_ ?_
  refine jX (ts:=[8]) PassesOwn.never rfl ?_ (aH (i:=8) nd) ?_
  exact bF (pdv 7)
  refine aF ?_
  refine cg ?_ ?_ bh
  refine di ?_
  refine cT ?_
  refine aL F_Lsays (hr.mono (by decide)) ?_ (aA (aA aM))
  refine aa ?_ ?_
  refine aL F_trail_holds (hr.mono (by decide)) ?_ (aA (aA aM))
  refine aa (pdv 4) ?_
  exact aa (pdv 8) aq
  refine aa ?_ aq
  refine aL F_Lis_trail (hr.mono (by decide)) ?_ (aA (aA aM))
  refine aa (pdv 4) ?_
  exact aa (pdv 8) aq
  refine aF ?_
  refine aN ?_
  exact fB
  refine aF ?_
  refine cg ?_ ?_ bh
  refine iY ?_
  refine fY ?_ ?_
  refine cT ?_
  refine aL F_Lis_trail (hr.mono (by decide)) ?_ (aA (aA aM))
  refine aa (pdv 4) ?_
  refine aa ?_ aq
  exact aR aq
  refine gQ ?_
  refine bx Ke ?_ ?_
  refine aL F_trail_holds (hr.mono (by decide)) ?_ (aA (aA aM))
  refine aa (pdv 4) ?_
  refine aa ?_ aq
  exact aR aq
  exact fB
  refine aF ?_
  refine aN ?_
  exact fB
  refine aF ?_
  refine aN ?_
  exact fB
noncomputable def aZ:FF:=trunc (aJ 3 (ji))
noncomputable def jx:FF:=aJ 5 (pQ aZ)
noncomputable def bc:FF:=trunc (aJ 1 (jZ))
noncomputable def cY:FF:=trunc (aJ 4 (iG aZ))
noncomputable def gK:FF:=trunc (aJ 4 (gW bc aZ))
noncomputable def dM:FF:=trunc (aJ 6 (fK bc cY aZ gK))
noncomputable def cX:FF:=trunc (aJ 3 (dN bc dM))
noncomputable def cR:FF:=trunc (aJ 5 (gn aZ))
noncomputable def iQ:FF:=trunc (aJ 7 (rM bc cY cR))
noncomputable def fX:FF:=trunc (aJ 0 (mV))
noncomputable def cO:FF:=trunc (aJ 1 (nH))
noncomputable def fV:FF:=trunc (aJ 4 (dW cO))
noncomputable def dC:FF:=trunc (aJ 2 (lz))
noncomputable def eO:FF:=trunc (aJ 4 (nQ cO))
noncomputable def mz:FF:=trunc (aJ 2 (uR))
noncomputable def fZ:FF:=trunc (aJ 4 (lw mz))
noncomputable def bI:FF:=trunc (aJ 6 (nA fZ))
noncomputable def dX:FF:=trunc (aJ 2 (sO))
noncomputable def gA:FF:=trunc (aJ 4 (qg eO bI dX))
noncomputable def gB:FF:=trunc (aJ 2 (gb fV dC gA))
noncomputable def bU:FF:=trunc (aJ 2 (iK dC bI))
noncomputable def bY:FF:=trunc (aJ 1 (gF))
noncomputable def dO:FF:=trunc (aJ 4 (gq dX))
noncomputable def gD:FF:=trunc (aJ 5 (jw bU bY dO))
noncomputable def dg:FF:=trunc (aJ 3 (eV gB bU bY gD))
noncomputable def jt:FF:=trunc (aJ 2 (lM))
noncomputable def fO:FF:=trunc (aJ 1 (iD))
noncomputable def bR:FF:=trunc (aJ 1 (dY fO))
noncomputable def gU:FF:=trunc (aJ 2 (iy bR))
noncomputable def cG:FF:=trunc (aJ 2 (iI))
noncomputable def gC:FF:=trunc (aJ 2 (fW bR))
noncomputable def fL:FF:=trunc (aJ 2 (eQ gC))
noncomputable def aP:FF:=trunc (aJ 2 (bj))
noncomputable def jr:FF:=trunc (aJ 2 (lG aP))
noncomputable def cL:FF:=trunc (aJ 2 (eZ))
noncomputable def cM:FF:=trunc (aJ 3 (fj cL))
noncomputable def gw:FF:=trunc (aJ 2 (jU cM))
noncomputable def iM:FF:=trunc (aJ 3 (lE gw))
noncomputable def dH:FF:=trunc (aJ 4 (lU jr iM))
noncomputable def gP:FF:=trunc (aJ 4 (jz aP))
noncomputable def eY:FF:=trunc (aJ 3 (gO fL dH gP))
noncomputable def iR:FF:=trunc (aJ 4 (ju jt gU cG eY))
noncomputable def fu:FF:=trunc (aJ 5 (gY))
noncomputable def iH:FF:=trunc (aJ 4 (jT cG dH))
noncomputable def gJ:FF:=trunc (aJ 4 (jy aP))
noncomputable def cA:FF:=trunc (aJ 3 (cZ iR fu iH gJ))
noncomputable def jF:FF:=trunc (aJ 2 (qH))
noncomputable def Gf:FF:=aJ 9 (uI jx bc cX iQ fX dg cA jF)
abbrev Gt(K:PySem.W.Frag)(x:Str)(s:Stmt):Prop:=∃f c P fd,Got K x s f c P fd
abbrev Nn(K:PySem.W.Frag)(x:Str):Prop:=PySem.W.nsIn K mainGlobals x=some none
abbrev Rq(q:Program)(x:Str):Prop:=((recsOf q).find? (λe=>e.name==x)).isSome=true
theorem Td{l:PySem.W.OpenLaw}{q:Program}{lo:List Str}{mean:ExcName->Option Value}{w:World}{K:PySem.W.Frag}{h:Heap}{mg mb:Str->Option Value}{fa:Addr}
  (X:K.In h) (G:Top q lo mean mg mb h) (hfa:mg "law"=some (.ref fa))
  (d0:Gt K "_law_mixed" xP)
  (d1:Gt K "_law_draws" wQ)
  (d2:Gt K "_law_next" Be)
  (d3:Gt K "_law_arrow" xq)
  (d4:Gt K "_law_shuffled" qi)
  (d5:Gt K "_law_held_colour" lO)
  (d6:Gt K "_law_held_colours" kE)
  (d7:Gt K "_law_turned_rows" lJ)
  (d8:Gt K "_law_arrows" uW)
  (d9:Gt K "_law_things" uD)
  (d10:Gt K "_law_whole" xx)
  (d11:Gt K "_law_is_choice" ou)
  (d12:Gt K "_law_chosen" ut)
  (d13:Gt K "_law_is_rows" rY)
  (d14:Gt K "_law_gcd" Gm)
  (d15:Gt K "_law_lowest" ux)
  (d16:Gt K "_law_arrow_mix" oO)
  (d17:Gt K "_law_dot" Ft)
  (d18:Gt K "_law_is_near" rZ)
  (d19:Gt K "_law_is_step" sy)
  (d20:Gt K "_law_step_mix" qD)
  (d21:Gt K "_law_is_nought" oR)
  (d22:Gt K "_law_less_square" lR)
  (d23:Gt K "_law_leads_on" pK)
  (d24:Gt K "_law_is_trail" qw)
  (d25:Gt K "is_row" yD)
  (d26:Gt K "is_number" pY)
  (d27:Gt K "is_numbers" oJ)
  (d28:Gt K "is_choice" pX)
  (d29:Gt K "chosen_of" qt)
  (d30:Gt K "is_share" sE)
  (d31:Gt K "is_shares" pU)
  (d32:Gt K "sum_of_products" jD)
  (d33:Gt K "weighed" uy)
  (d34:Gt K "divisor_of_two" jN)
  (d35:Gt K "common_divisor" jQ)
  (d36:Gt K "lessened" sI)
  (d37:Gt K "spot_at" uM)
  (d38:Gt K "mix_of" wK)
  (d39:Gt K "is_behind" qm)
  (d40:Gt K "near_holds" oK)
  (d41:Gt K "is_step" uz)
  (d42:Gt K "is_exchange" mX)
  (d43:Gt K "step_mix" sU)
  (d44:Gt K "is_nearer" qz)
  (d45:Gt K "trail_holds" mW)
  (d46:Gt K "_law_says" By)
  (d47:Gt K "law" zO)
  (z_abs:Nn K "abs")
  (z_all:Nn K "all")
  (z_any:Nn K "any")
  (z_bool:Nn K "bool")
  (z_int:Nn K "int")
  (z_isinstance:Nn K "isinstance")
  (z_len:Nn K "len")
  (z_min:Nn K "min")
  (z_range:Nn K "range")
  (z_sorted:Nn K "sorted")
  (z_sum:Nn K "sum")
  (z_tuple:Nn K "tuple")
  (z_zip:Nn K "zip")
  (r_is_numbers:Rq q "is_numbers")
  (r_is_choice:Rq q "is_choice")
  (r_is_shares:Rq q "is_shares")
  (r_sum_of_products:Rq q "sum_of_products")
  (r_lessened:Rq q "lessened")
  (r_near_holds:Rq q "near_holds")
  (r_trail_holds:Rq q "trail_holds")
  (hnt:PySem.W.noTabs K=true):
  ∃(fd:FuncData)(tb:List Addr),(∀(s:Shared)(u:Value),BindsTo s fd ⟨[u],[]⟩ [("_law_script",u)])/\(∀P∈tb,∃c,PySem.W.CodeHd h c P/\h.get? P=some (PySem.W.tabObj #[]))/\PySem.W.noTabs K=true/\
   ∀base:Heap,K.In base->base.Ns mainGlobals mg->uv l.prog w K mg base CX0 12 fa fd ["_law_script"] (spD K tb 1 Gf):=by
 have N:=λ{n:Str}(h:Nn K n)=>PySem.W.mg_none_of X G.g h
 have M:=λ{n:Str}{v:Value}(e:PySem.W.nsIn K mainGlobals n=some (some v))=>PySem.W.mg_of X G.g e
 have T:BI K mg:=⟨N z_abs,N z_all,N z_any,N z_bool,N z_int,N z_isinstance,N z_len,N z_min,N z_range,N z_sorted,N z_sum,N z_tuple,N z_zip⟩
 obtain⟨f0,c0,P0,_,G0⟩:=d0
 obtain⟨f1,c1,P1,_,G1⟩:=d1
 obtain⟨f2,c2,P2,_,G2⟩:=d2
 obtain⟨f3,c3,P3,_,G3⟩:=d3
 obtain⟨f4,c4,P4,_,G4⟩:=d4
 obtain⟨f5,c5,P5,_,G5⟩:=d5
 obtain⟨f6,c6,P6,_,G6⟩:=d6
 obtain⟨f7,c7,P7,_,G7⟩:=d7
 obtain⟨f8,c8,P8,_,G8⟩:=d8
 obtain⟨f9,c9,P9,_,G9⟩:=d9
 obtain⟨f10,c10,P10,_,G10⟩:=d10
 obtain⟨f11,c11,P11,_,G11⟩:=d11
 obtain⟨f12,c12,P12,_,G12⟩:=d12
 obtain⟨f13,c13,P13,_,G13⟩:=d13
 obtain⟨f14,c14,P14,_,G14⟩:=d14
 obtain⟨f15,c15,P15,_,G15⟩:=d15
 obtain⟨f16,c16,P16,_,G16⟩:=d16
 obtain⟨f17,c17,P17,_,G17⟩:=d17
 obtain⟨f18,c18,P18,_,G18⟩:=d18
 obtain⟨f19,c19,P19,_,G19⟩:=d19
 obtain⟨f20,c20,P20,_,G20⟩:=d20
 obtain⟨f21,c21,P21,_,G21⟩:=d21
 obtain⟨f22,c22,P22,_,G22⟩:=d22
 obtain⟨f23,c23,P23,_,G23⟩:=d23
 obtain⟨f24,c24,P24,_,G24⟩:=d24
 obtain⟨f25,c25,P25,_,G25⟩:=d25
 obtain⟨f26,c26,P26,_,G26⟩:=d26
 obtain⟨f27,c27,P27,_,G27⟩:=d27
 obtain⟨f28,c28,P28,_,G28⟩:=d28
 obtain⟨f29,c29,P29,_,G29⟩:=d29
 obtain⟨f30,c30,P30,_,G30⟩:=d30
 obtain⟨f31,c31,P31,_,G31⟩:=d31
 obtain⟨f32,c32,P32,_,G32⟩:=d32
 obtain⟨f33,c33,P33,_,G33⟩:=d33
 obtain⟨f34,c34,P34,_,G34⟩:=d34
 obtain⟨f35,c35,P35,_,G35⟩:=d35
 obtain⟨f36,c36,P36,_,G36⟩:=d36
 obtain⟨f37,c37,P37,_,G37⟩:=d37
 obtain⟨f38,c38,P38,_,G38⟩:=d38
 obtain⟨f39,c39,P39,_,G39⟩:=d39
 obtain⟨f40,c40,P40,_,G40⟩:=d40
 obtain⟨f41,c41,P41,_,G41⟩:=d41
 obtain⟨f42,c42,P42,_,G42⟩:=d42
 obtain⟨f43,c43,P43,_,G43⟩:=d43
 obtain⟨f44,c44,P44,_,G44⟩:=d44
 obtain⟨f45,c45,P45,_,G45⟩:=d45
 obtain⟨f46,c46,P46,_,G46⟩:=d46
 obtain⟨f47,c47,P47,_,G47⟩:=d47
 have m_law:=M G47.m
 have e:=hfa.symm.trans m_law
 cases e
 obtain⟨kV,dc,pm,an,ct,rfl⟩:=G47.e
 refine⟨PySem.W.fnOf "law" "law" (oH zO) (kZ zO) (aO zO) .none kV dc pm an (.ref c47) ct,[P27,P28,P31,P32,P36,P40,P45],λs u=>.of_eq rfl,λP hP=>?_,hnt,λbase kb nb=>?_⟩
 .have hP:P=P27∨P=P28∨P=P31∨P=P32∨P=P36∨P=P40∨P=P45:=by simpa using hP
  rcases hP with rfl|rfl|rfl|rfl|rfl|rfl|rfl
  .exact⟨c27,sG G X r_is_numbers G27.t⟩
  .exact⟨c28,sG G X r_is_choice G28.t⟩
  .exact⟨c31,sG G X r_is_shares G31.t⟩
  .exact⟨c32,sG G X r_sum_of_products G32.t⟩
  .exact⟨c36,sG G X r_lessened G36.t⟩
  .exact⟨c40,sG G X r_near_holds G40.t⟩
  .exact⟨c45,sG G X r_trail_holds G45.t⟩
 .have U {φ nm n k} (h:FI l.prog w K mg base [P27,P28,P31,P32,P36,P40,P45] nm n k φ):=h
  have ji:=U (φ:=aZ) (Il T G0.F kb (M G0.m)).trunc
  have pQ:=U (φ:=jx) (Jo T G1.F kb (M G1.m) ji)
  have jZ:=U (φ:=bc) (Nq T G2.F kb (M G2.m)).trunc
  have iG:=U (φ:=cY) (Ii T G3.F kb (M G3.m) ji).trunc
  have vH:=U (φ:=gK) (Ca T G4.F kb (M G4.m) jZ ji).trunc
  have fK:=U (φ:=dM) (vQ T G5.F kb (M G5.m) jZ iG ji vH).trunc
  have dN:=U (φ:=cX) (uC T G6.F kb (M G6.m) jZ fK).trunc
  have gn:=U (φ:=cR) (vO T G7.F kb (M G7.m) ji).trunc
  have mZ:=U (φ:=iQ) (GC T G8.F kb (M G8.m) jZ iG gn).trunc
  have zY:=U (φ:=fX) (Gv T G9.F kb (M G9.m)).trunc
  have nH:=U (φ:=cO) (Ir T G10.F kb (M G10.m)).trunc
  have dW:=U (φ:=fV) (yM T G11.F kb (M G11.m) nH).trunc
  have lz:=U (φ:=dC) (FQ T G12.F kb (M G12.m)).trunc
  have nQ:=U (φ:=eO) (CT T G13.F kb (M G13.m) nH).trunc
  have uR:=U (φ:=mz) (Qz T G14.F kb (M G14.m)).trunc
  have lw:=U (φ:=fZ) (Ga T G15.F kb (M G15.m) uR).trunc
  have jG:=U (φ:=bI) (yP T G16.F kb (M G16.m) lw).trunc
  have sO:=U (φ:=dX) (Qe T G17.F kb (M G17.m)).trunc
  have lV:=U (φ:=gA) (DK T G18.F kb (M G18.m) nQ jG sO).trunc
  have gb:=U (φ:=gB) (Ek T G19.F kb (M G19.m) dW lz lV).trunc
  have iK:=U (φ:=bU) (Cd T G20.F kb (M G20.m) lz jG).trunc
  have gF:=U (φ:=bY) (yL T G21.F kb (M G21.m)).trunc
  have gq:=U (φ:=dO) (vX T G22.F kb (M G22.m) sO).trunc
  have jw:=U (φ:=gD) (BP T G23.F kb (M G23.m) iK gF gq).trunc
  have eV:=U (φ:=dg) (Ay T G24.F kb (M G24.m) gb iK gF jw).trunc
  have lM:=U (φ:=jt) (Jq T G25.F kb (M G25.m)).trunc
  have iD:=U (φ:=fO) (BV T G26.F kb (M G26.m)).trunc
  have dY:=U (φ:=bR) (yK T G27.F kb (M G27.m) iD (by simp)).trunc
  have iy:=U (φ:=gU) (Bb T G28.F kb (M G28.m) dY (by simp)).trunc
  have iI:=U (φ:=cG) (Cg T G29.F kb (M G29.m)).trunc
  have fW:=U (φ:=gC) (DY T G30.F kb (M G30.m) dY).trunc
  have eQ:=U (φ:=fL) (Ba T G31.F kb (M G31.m) fW (by simp)).trunc
  have bj:=U (φ:=aP) (rR T G32.F kb (M G32.m) (by simp)).trunc
  have lG:=U (φ:=jr) (Fw T G33.F kb (M G33.m) bj).trunc
  have eZ:=U (φ:=cL) (tW T G34.F kb (M G34.m)).trunc
  have fj:=U (φ:=cM) (tO T G35.F kb (M G35.m) eZ).trunc
  have jU:=U (φ:=gw) (De T G36.F kb (M G36.m) fj (by simp)).trunc
  have lE:=U (φ:=iM) (FW T G37.F kb (M G37.m) jU).trunc
  have lU:=U (φ:=dH) (Ik T G38.F kb (M G38.m) lG lE).trunc
  have jz:=U (φ:=gP) (Bf T G39.F kb (M G39.m) bj).trunc
  have gO:=U (φ:=eY) (yH T G40.F kb (M G40.m) eQ lU jz (by simp)).trunc
  have ju:=U (φ:=iR) (Gi T G41.F kb (M G41.m) lM iy iI gO).trunc
  have gY:=U (φ:=fu) (yw T G42.F kb (M G42.m)).trunc
  have jT:=U (φ:=iH) (DG T G43.F kb (M G43.m) iI lU).trunc
  have jy:=U (φ:=gJ) (BZ T G44.F kb (M G44.m) bj).trunc
  have cZ:=U (φ:=cA) (wN T G45.F kb (M G45.m) ju gY jT jy (by simp)).trunc
  have qH:=U (φ:=jF) (Kz T G46.F kb (M G46.m)).trunc
  exact Ui T G47.F kb pQ jZ dN mZ zY eV cZ qH
end Lk49
namespace LG
open PySem PySem.Spec PyProof.Rows L2 L3
theorem JK(a b:Int):Int.gcd b (a.fmod b)=Int.gcd a b:=by
 have h:a.fmod b=a-b*a.fdiv b:=by have:=Int.mul_fdiv_add_fmod a b;omega
 rw[h,Int.gcd_comm]
 have:a-b*a.fdiv b=a+b*(- a.fdiv b):=by rw[Int.mul_neg];omega
 rw[this,Int.gcd_add_mul_left_left]
theorem Rt(a b:Int)(h:b≠0):(a.fmod b).natAbs<b.natAbs:=by
 rw[Int.fmod_eq_emod]
 have h1:=Int.emod_nonneg a h
 have h2:=Int.emod_lt a h
 by_cases hd:0<=b∨b ∣ a
 .rw[if_pos hd];omega
 .rw[if_neg hd]
  have h3:a % b≠0:=λz=>hd (.inr (Int.dvd_of_emod_eq_zero z))
  omega
abbrev eucC:TF:=toB (M2 (ao 1) (mC (.int 0)) oNe)
abbrev eucB:SF:=yX 0 1 (aj (ao 1) (aj (M2 (ao 0) (ao 1) oMod) (au)))
theorem ne_int(a b:Int)(μ:Mu):oNe (.int a) (.int b) μ=some (.bl (!(a==b)),μ):=by
 unfold oNe rsv
 simp[eG,jJ,eqD]
theorem Ht(a b:Int)(μ:Mu):oEq (.int a) (.int b) μ=some (.bl (a==b),μ):=by
 unfold oEq rsv
 simp[eG,jJ,eqD]
theorem euc:∀(n:Nat)(a b:Int)(μ:Mu),b.natAbs<=n->∃a',ie eucC eucB (n+1) [some (.int a),some (.int b)] μ=some (.nx,[some (.int a'),some (.int 0)],μ)/\a'.natAbs=Int.gcd a b/\(0<=a->0<=b->0<=a')
 |n,a,b,μ,h=>by
  by_cases hb:b=0
  .subst hb
   refine⟨a,?_,by simp,λh _=>h⟩
   unfold ie
   simp[toB,M2,ao,mC,ne_int]
  .cases n with
   |zero=>omega
   |succ n=>
    obtain⟨a',e,hg,hs⟩:=euc n b (a.fmod b) μ (by have:=Rt a b hb;omega)
    refine⟨a',?_,by rw[hg,JK],λh0 h1=>hs h1 (Int.fmod_nonneg_of_pos a (by omega))⟩
    unfold ie
    simp[toB,M2,ao,mC,ne_int,hb,yX,aj,au,oMod,e]
def vB(φ:FF):Prop:=∀(a b:Int)(μ:Mu),φ [.int a,.int b] μ=some (.int (Int.gcd a b),μ)
theorem Rz:vB (aJ 2 eZ):=λa b μ=>by
 obtain⟨a',e,hg,hs⟩:=euc _ (if a<0 then -a else a) (if b<0 then -b else b) μ (Zg _)
 have ea:(0:Int)<=if a<0 then -a else a:=by split<;>omega
 have eb:(0:Int)<=if b<0 then -b else b:=by split<;>omega
 have h0:=hs ea eb
 have hga:Int.gcd (if a<0 then -a else a) (if b<0 then -b else b)=Int.gcd a b:=by split<;>split<;>simp
 rw[hga]at hg
 have hv:a'=(Int.gcd a b:Int):=by omega
 subst hv
 have ew:=uG e
 unfold aJ eZ
 simp[aU,yX,aj,au,MC,ao,bu,rT,ew,bA]
theorem Om:vB (aJ 2 uR):=λa b μ=>by
 obtain⟨a',e,hg,hs⟩:=euc _ a b μ (Zg _)
 have ew:=uG e
 unfold aJ uR
 have hv:(if a'<0 then -a' else a')=(Int.gcd a b:Int):=by split<;>omega
 simp[aU,ew,bA,aj,au,MC,ao,bu,rT,hv]
def dR(g:Nat)(ns:List Int):Nat:=ns.foldl (λg n=>Int.gcd g n) g
theorem Dq:∀ns:List Int,dR 1 ns=1
 | []=>rfl
 |n::ns=>by
  show dR (Int.gcd (1:Nat) n) ns=1
  have:Int.gcd ((1:Nat):Int) n=1:=by simp
  rw[this];exact Dq ns
theorem bD(items:List D)(μ:Mu):Src.ok ⟨items,none⟩ μ:=λn e=>by cases e
theorem Hb{φ:FF}(hφ:vB φ)(x:D)(all:List D):∀(ns:List Int)(g:Nat)(o:Option D)(μ:Mu),∃o',
  forL ⟨all,none⟩ (hName 2) (aU (bz 1 (MC (aj (ao 1) (aj (ao 2) (au))) φ)) (sIf (toB (M2 (ao 1) (mC (.int 1)) oEq)) (xj) (bG))) (ns.map D.int) [some x,some (.int g),o] μ=some (.nx,[some x,some (.int (dR g ns:Nat)),o'],μ)
 | [],g,o,μ=>⟨o,by unfold forL;simp[bD,dR]⟩
 |n::ns,g,o,μ=>by
  by_cases h1:Int.gcd g n=1
  .refine⟨some (.int n),?_⟩
   rw[Zj]
   unfold forL
   have h2:dR g (n::ns)=1:=by show dR (Int.gcd g n) ns=1;rw[h1];exact Dq ns
   simp[bD,hName,aU,bz,MC,aj,au,ao,hφ g n,h1,h2,sIf,toB,M2,mC,Ht,xj]
  .obtain⟨o',e⟩:=Hb hφ x all ns (Int.gcd g n) (some (.int n)) μ
   refine⟨o',?_⟩
   rw[Zj]
   unfold forL
   have h3:((Int.gcd g n:Nat):Int)≠1:=by omega
   have h2:dR g (n::ns)=dR (Int.gcd g n) ns:=rfl
   simp[bD,hName,aU,bz,MC,aj,au,ao,hφ g n,h3,sIf,toB,M2,mC,Ht,bG,e,h2]
def xm(φ:FF):Prop:=∀(ns:List Int)(μ:Mu),φ [.lst (ns.map .int)] μ=some (.int (dR 0 ns:Nat),μ)
theorem Ge{φ:FF}(hφ:vB φ):xm (aJ 3 (fj φ)):=λns μ=>by
 obtain⟨o',e⟩:=Hb hφ (.lst (ns.map .int)) (ns.map .int) ns 0 none μ
 unfold aJ fj
 have e':=e
 simp at e'
 simp[aU,bz,mC,km,cI,ao,srcOf,e',bA]
theorem Eu{th:D->iZ}{f:D->D}{μ:Mu}:∀(items:List D),(∀d∈items,th d μ=some (f d,μ))->Dw (items.map th) μ=some (items.map f,μ)
 | [],_=>rfl
 |d::r,h=>by
  have h1:=h d (by simp)
  have h2:=Eu r λx hx=>h x (by simp[hx])
  rw[Zj,Zj]
  unfold Dw
  simp[h1,h2]
theorem Br{all:List D}{h:GF}{fe:EF}{δb:En}{f:D->D}{μ:Mu}:∀(items:List D),(∀d∈items,∃δ1,h d δb μ=some δ1/\fe δ1 μ=some (f d,μ))->lcL ⟨all,none⟩ h aQ fe δb items μ=some (items.map f,μ)
 | [],_=>by unfold lcL;simp[bD]
 |d::r,hd=>by
  obtain⟨δ1,h1,h2⟩:=hd d (by simp)
  have h3:=Br (all:=all) r λx hx=>hd x (by simp[hx])
  unfold lcL
  simp[bD,h1,aQ,h2,h3]
def Sm(b:Nat)(n:Int):Prop:=n.natAbs<2 ^ b
theorem bits_le{b:Nat}{n:Int}(h:Sm b n):Builtin.Int.intBits n<=b+1:=by
 unfold Builtin.Int.intBits
 split
 .exact Nat.zero_le _
 .rename_i h'
  have hz:n≠0:=by simpa using h'
  have hn:n.natAbs≠0:=by omega
  have:=(Nat.log2_lt hn).mpr h
  omega
theorem Og{b:Nat}{n:Int}(h:Sm b n):n.natAbs.log2<b+1:=by
 by_cases h0:n.natAbs=0
 .rw[h0];simp
 .have:=(Nat.log2_lt h0).mpr h
  omega
theorem Ue{a b:Nat}{x y:Int}(hx:Sm a x)(hy:Sm b y)(h:a+b+2<=134217728):tV x y<=134217728:=by
 have:=bits_le hx
 have:=bits_le hy
 unfold tV
 omega
theorem bV{a b:Nat}{x y:Int}(μ:Mu)(hx:Sm a x)(hy:Sm b y)(h:a+b+2<=134217728):cF (.int x) (.int y) μ=some (.int (x*y),μ):=by
 unfold cF
 simp[Ue hx hy h]
theorem uf{b:Nat}{x y:Int}(μ:Mu)(h0:y≠0)(hy:Sm b y)(h:b+1<=9000):oDiv (.int x) (.int y) μ=some (.int (x.fdiv y),μ):=by
 unfold oDiv
 have:=Og hy
 simp[h0,show y.natAbs.log2<9000 by omega]
theorem mY{x y:Int}(μ:Mu)(h0:y≠0):oMod (.int x) (.int y) μ=some (.int (x.fmod y),μ):=by
 unfold oMod
 simp[h0]
theorem tX:∀(ns:List Int)(g:Nat),(∀n∈ns,((dR g ns:Nat):Int) ∣ n)/\dR g ns ∣ g
 | [],g=>⟨λn h=>by simp at h,Nat.dvd_refl _⟩
 |n::ns,g=>by
  obtain⟨h1,h2⟩:=tX ns (Int.gcd g n)
  have e:dR g (n::ns)=dR (Int.gcd g n) ns:=rfl
  rw[e]
  refine⟨λm hm=>?_,?_⟩
  .rcases Zi.mp hm with z|z
   .subst z
    exact Int.dvd_trans (Int.ofNat_dvd.mpr h2) (Int.gcd_dvd_right _ _)
   .exact h1 m z
  .refine Nat.dvd_trans h2 ?_
   have:=Int.gcd_dvd_left (g:Int) n
   exact Int.ofNat_dvd.mp this
theorem yg{ns:List Int}{g:Nat}(h:g≠0∨∃n∈ns,n≠0):dR g ns≠0:=λz=>by
 obtain⟨h1,h2⟩:=tX ns g
 rw[z]at h1 h2
 rcases h with h|⟨n,hn,h⟩
 .exact h (Nat.eq_zero_of_zero_dvd h2)
 .have:=h1 n hn
  exact h (by simpa using this)
theorem QK{ns:List Int}{g:Nat}{n:Int}(hn:n∈ns)(h:n≠0):dR g ns<=n.natAbs:=by
 have h1:=(tX ns g).1 n hn
 have h2:dR g ns ∣ n.natAbs:=by
  have:=Int.natAbs_dvd_natAbs.mpr h1
  simpa using this
 exact Nat.le_of_dvd (by omega) h2
def Fi(φ:FF):Prop:=∀(ns:List Int)(μ:Mu),dR 0 ns≠0->Sm 8000 (dR 0 ns:Nat)->ns.length<=100->φ [.lst (ns.map .int)] μ=some (.tup (ns.map λn=>.int (n.fdiv (dR 0 ns:Nat))),μ)
theorem Pk{φ:FF}(hφ:xm φ):Fi (aJ 2 (jU φ)):=λns μ h0 hs hl=>by
 have e:Dw ((ns.map D.int).map (thG (hName 0) (M2 (ao 0) (ao 1) oDiv) (bZ ["number"] [some (.lst (ns.map .int)),some (.int (dR 0 ns:Nat))] [1]))) μ=some ((ns.map D.int).map (λd=>match d with| .int n=>.int (n.fdiv (dR 0 ns:Nat))|_=>.non),μ):=by
  refine Eu _ λd hd=>?_
  obtain⟨n,_,rfl⟩:=Zq.mp hd
  have:=uf (x:=n) μ (show((dR 0 ns:Nat):Int)≠0 by omega) hs (by decide)
  simp[thG,hName,bZ,M2,ao,this]
 unfold aJ jU
 have hz:ns.length<=sizeLine:=Zl hl (by decide)
 rw[List.map_map,List.map_map]at e
 simp[aU,bz,MC,aj,au,ao,hφ ns μ,bA,CV,mK,cI,srcOf,hz,e]
def rowOf(s:Int)(all:List Int):List Int:=let ms:=all.map (s * ·);ms.map λn=>n.fdiv (dR 0 ms:Nat)
def sgn(b:Int):Int:=if b>0 then 1 else -1
theorem Ml{b:Nat}{n s:Int}(hs:s=1∨s= -1)(h:Sm b n):Sm b (s*n):=by
 unfold Sm at *
 rw[Int.natAbs_mul]
 rcases hs with rfl|rfl<;>simpa using h
theorem BR(b:Int):sgn b=1∨sgn b= -1:=by unfold sgn;split<;>simp
theorem CQ{φ:FF}(hφ:vB φ)(x y:D)(all:List D):∀(ns:List Int)(c:Int)(o:Option D)(μ:Mu),∃(c':Int)(o':Option D),
  forL ⟨all,none⟩ (hName 3) (bz 2 (MC (aj (ao 2) (aj (ao 3) (au))) φ)) (ns.map D.int) [some x,some y,some (.int c),o] μ=some (.nx,[some x,some y,some (.int c'),o'],μ)/\c'.natAbs=dR c.natAbs ns/\(0<=c∨ns≠[]->0<=c')
 | [],c,o,μ=>⟨c,o,by unfold forL;simp[bD],rfl,λh=>h.elim id λz=>absurd rfl z⟩
 |n::ns,c,o,μ=>by
  obtain⟨c',o',e,hc,hn0⟩:=CQ hφ x y all ns (Int.gcd c n) (some (.int n)) μ
  refine⟨c',o',?_,?_,λ_=>hn0 (.inl (Int.natCast_nonneg _))⟩
  .rw[Zj]
   unfold forL
   simp[bD,hName,bz,MC,aj,au,ao,hφ c n,e]
  .rw[hc]
   show _=dR (Int.gcd (c.natAbs:Nat) n) ns
   congr 1
def JZ(φ:FF):Prop:=∀(ns:List Int)(b:Int)(μ:Mu),b≠0->Sm 4000 b->ns.length<=50->ns≠[]->
 φ [.lst (ns.map .int),.int b] μ=some (.tup ((ns++[b]).map λn=>.int (n.fdiv (sgn b*(dR b.natAbs ns:Nat)))),μ)
theorem VM{φ:FF}(hφ:vB φ):JZ (aJ 4 (lw φ)):=λns b μ hb hs hl hne=>by
 obtain⟨c',o',e,hc,hc0⟩:=CQ hφ (.lst (ns.map .int)) (.int b) (ns.map .int) ns b none μ
 have hsg:=BR b
 have hg0:dR b.natAbs ns≠0:=yg (.inl (by omega))
 have hgle:dR b.natAbs ns<=b.natAbs:=Nat.le_of_dvd (by omega) (tX ns b.natAbs).2
 have hdiv:∀δo,∃δ',sIf (toB (M2 (ao 1) (mC (.int 0)) oLt)) (bz 2 (M2 (mC (.int 0)) (MC (aj (ao 2) (au)) (bu rT)) jg)) bG [some (.lst (ns.map .int)),some (.int b),some (.int c'),δo] μ=some (.nx,δ',μ)/\(0<=c'->δ'=[some (.lst (ns.map .int)),some (.int b),some (.int (sgn b*(dR b.natAbs ns:Nat))),δo]):=λδo=>by
  by_cases hn:b<0
  .refine⟨[some (.lst (ns.map .int)),some (.int b),some (.int (0-if c'<0 then -c' else c')),δo],by simp[sIf,toB,M2,ao,mC,oLt,hn,bz,MC,aj,au,bu,rT,jg],λhc0=>?_⟩
   have h1:sgn b= -1:=by unfold sgn;rw[if_neg (by omega)]
   rw[h1,if_neg (by omega)]
   have:c'=(dR b.natAbs ns:Nat):=by omega
   rw[this]
   simp
  .refine⟨[some (.lst (ns.map .int)),some (.int b),some (.int c'),δo],by simp[sIf,toB,M2,ao,mC,oLt,hn,bG],λhc0=>?_⟩
   have h1:sgn b=1:=by unfold sgn;rw[if_pos (by omega)]
   have:c'=(dR b.natAbs ns:Nat):=by omega
   rw[h1,this]
   simp
 obtain⟨δ',e3,e4⟩:=hdiv o'
 have e5:=e4 (hc0 (.inr hne))
 subst e5
 have hd0:sgn b*((dR b.natAbs ns:Nat):Int)≠0:=by rcases hsg with h|h<;>rw[h]<;>omega
 have hds:Sm 4000 (sgn b*((dR b.natAbs ns:Nat):Int)):=Ml hsg (by unfold Sm at *;simp only[Int.natAbs_natCast];omega)
 have eL:lcL ⟨ns.map D.int,none⟩ (hName 0) aQ (M2 (ao 0) (ao 1) oDiv) (bZ ["_law_number"] [some (.lst (ns.map .int)),some (.int b),some (.int (sgn b*(dR b.natAbs ns:Nat))),o'] [2]) (ns.map D.int) μ=some ((ns.map D.int).map (λd=>match d with| .int n=>.int (n.fdiv (sgn b*(dR b.natAbs ns:Nat)))|_=>.non),μ):=by
  refine Br _ λd hd=>?_
  obtain⟨n,_,rfl⟩:=Zq.mp hd
  have:=uf (x:=n) μ hd0 hds (by decide)
  exact⟨_,rfl,by simp[hName,bZ,M2,ao,this]⟩
 rw[List.map_map]at eL
 have eL2:lcL ⟨ns.map D.int,none⟩ (hName 0) aQ (M2 (ao 0) (ao 1) oDiv) (bZ ["_law_number"] [some (.lst (ns.map .int)),some (.int b),some (.int (sgn b*(dR b.natAbs ns:Nat))),o'] [2]) (ns.map D.int) μ=some (ns.map (λn=>D.int (n.fdiv (sgn b*(dR b.natAbs ns:Nat)))),μ):=eL
 have eD:=uf (x:=b) μ hd0 hds (by decide)
 have hz:ns.length<=sizeLine:=Zl hl (by decide)
 have hz2:ns.length+1<=sizeLine:=Zl (by omega:ns.length+1<=100) (by decide)
 have h1s:1<=sizeLine:=by decide
 unfold aJ lw
 simp[aU,bz,ao,km,cI,srcOf,e,e3,bA,M2,MC,aj,au,mFz,lLC,hz,eL2,gG,bC,eD,oTup,h1s,cN,hz2]
theorem cU{a b:Nat}{x:Int}(h:Sm a x)(hab:a<=b):Sm b x:=Zc h (Nat.pow_le_pow_right (by decide) hab)
theorem nR{a b:Nat}{x y:Int}(hx:Sm a x)(hy:Sm b y):Sm (a+b) (x*y):=by
 unfold Sm at *
 rw[Int.natAbs_mul,Nat.pow_add]
 exact Nat.mul_lt_mul'' hx hy
def Dr(x:Int):Prop:=0<=x/\x<2147483648
theorem qI:∀(L:List Int),ik (L.map D.int)=true
 | []=>by unfold ik;rfl
 |x::L=>by
  rw[Zj]
  unfold ik
  rw[qI L]
  simp[eG]
theorem tQ:∀(L:List Int),kW (L.map D.int)=0
 | []=>by unfold kW;rfl
 |x::L=>by
  rw[Zj]
  unfold kW
  rw[tQ L]
  simp[jJ]
theorem cW{x m:Int}(hm:0<m):0<=x.fmod m/\x.fmod m<m:=⟨Int.fmod_nonneg_of_pos x hm,Int.fmod_lt_of_pos x hm⟩
def mF(φ:FF):Prop:=∀(x k:Int)(μ:Mu),0<=k->k<1000->∃r,φ [.int x,.int k] μ=some (.int r,μ)/\Dr r
theorem Tu:mF (aJ 3 ji):=λx k μ h0 h1=>by
 obtain⟨a0,a1⟩:=cW (x:=x) (m:=2147483647) (by decide)
 have w1:=mY (x:=x) (y:=2147483647) μ (by decide)
 have sa:Sm 31 (x.fmod 2147483647):=by unfold Sm;have e:(2:Nat) ^ 31=2147483648:=by decide
                                       omega
 have m1:=bV (x:=x.fmod 2147483647) (y:=48271) μ sa (show Sm 16 48271 by unfold Sm;decide) (by decide)
 have sk:Sm 10 k:=by unfold Sm;have e:(2:Nat) ^ 10=1024:=by decide
                     omega
 have m2:=bV (x:=7919) (y:=k) μ (show Sm 13 7919 by unfold Sm;decide) sk (by decide)
 have m3:=bV (x:=7919*k) (y:=k) μ (nR (show Sm 13 7919 by unfold Sm;decide) sk) sk (by decide)
 have w2:=mY (x:=x.fmod 2147483647*48271+7919*k*k+104729) (y:=2147483647) μ (by decide)
 obtain⟨b0,b1⟩:=cW (x:=x.fmod 2147483647*48271+7919*k*k+104729) (m:=2147483647) (by decide)
 generalize hn:(x.fmod 2147483647*48271+7919*k*k+104729).fmod 2147483647=n at *
 have sn:Sm 31 n:=by unfold Sm;have e:(2:Nat) ^ 31=2147483648:=by decide
                     omega
 have m4:=bV (x:=n) (y:=n) μ sn sn (by decide)
 have w3:=mY (x:=n*n) (y:=2147483629) μ (by decide)
 obtain⟨c0,c1⟩:=cW (x:=n*n) (m:=2147483629) (by decide)
 refine⟨(n*n).fmod 2147483629,?_,c0,by omega⟩
 unfold aJ ji
 simp[aU,bz,M2,ao,mC,w1,m1,m2,m3,cN,w2,bA,m4,w3]
theorem Bs{δ:En}{L:List Int}{y:Int}{fs:AF}(h1:δ[1]? =some (some (.cell 0)))(h2:fs δ [some (L.map .int)]=some ([.int y],[some (L.map .int)]))(hl:L.length<10000):
  lX (ao 1) fs δ [some (L.map .int)]=some (.non,[some ((L++[y]).map .int)]):=by
 have hz:L.length<sizeLine:=Zc hl (by decide)
 unfold lX
 simp[ao,h1,h2,jR,hz]
theorem Xa{φ:FF}(hφ:mF φ)(s:D)(k c:Int)(hk:0<=k/\k<100)(all:List D):∀(js:List Int),(∀j∈js,0<=j/\j<12)->∀(L:List Int)(o:Option D),(∀x∈L,Dr x)->L.length+js.length<10000->∃(L':List Int)(o':Option D),
  forL ⟨all,none⟩ (hName 4) (iU (lX (ao 1) (aj (MC (aj (MC (aj (ao 3) (aj (M2 (M2 (mC (.int 3)) (ao 4) cF) (mC (.int 1)) cN) (au))) φ) (aj (M2 (M2 (ao 4) (ao 2) cN) (mC (.int 2)) cN) (au))) φ) (au)))) (js.map D.int)
   [some s,some (.cell 0),some (.int k),some (.int c),o] [some (L.map .int)]=some (.nx,[some s,some (.cell 0),some (.int k),some (.int c),o'],[some (L'.map .int)])/\(∀x∈L',Dr x)/\L'.length=L.length+js.length
 | [],_,L,o,hL,_=>⟨L,o,by unfold forL;simp[bD],hL,rfl⟩
 |j::js,hj,L,o,hL,hlen=>by
  have hj0:=hj j (by simp)
  obtain⟨r1,e1,d1⟩:=hφ c (3*j+1) [some (L.map .int)] (by omega) (by omega)
  obtain⟨r2,e2,d2⟩:=hφ r1 (j+k+2) [some (L.map .int)] (by omega) (by omega)
  have m1:=bV (x:=3) (y:=j) [some (L.map D.int)] (show Sm 2 3 by unfold Sm;decide) (show Sm 4 j by unfold Sm;omega) (by decide)
  obtain⟨L',o',e,hd,hl⟩:=Xa hφ s k c hk all js (λx hx=>hj x (by simp[hx])) (L++[r2]) (some (.int j)) (λx hx=>by
   rcases Zm.mp hx with z|z
   .exact hL x z
   .simp at z;subst z;exact d2) (by simp at hlen ⊢;omega)
  refine⟨L',o',?_,hd,by rw[hl];simp;omega⟩
  rw[Zj]
  unfold forL
  have ea:=Bs (δ:=[some s,some (.cell 0),some (.int k),some (.int c),some (.int j)]) (L:=L) (y:=r2) (fs:=aj (MC (aj (MC (aj (ao 3) (aj (M2 (M2 (mC (.int 3)) (ao 4) cF) (mC (.int 1)) cN) (au))) φ) (aj (M2 (M2 (ao 4) (ao 2) cN) (mC (.int 2)) cN) (au))) φ) (au)) rfl
   (by simp[aj,au,MC,M2,ao,mC,m1,cN,e1,e2]) (by simp at hlen;omega)
  simp only[List.map_append,Zj,List.map_nil]at ea e
  simp[bD,hName,iU,ea,e]
abbrev drC:TF:=rQ (toB (M2 (ao 3) (M2 (mC (.int 10)) (mC (.int 18)) yI) oGe)) (toB (M2 (MC (aj (ao 1) (au)) (bu cJ)) (mC (.int 900)) oLt))
abbrev drB:SF:=aU (iU (lX (ao 1) (aj (M2 (ao 3) (mC (.int 2147483629)) oMod) (au)))) (bz 3 (M2 (ao 3) (mC (.int 2147483629)) oDiv))
theorem Dc(s k o:Option D):∀(n:Nat)(c:Int)(L:List Int),0<=c->(∀x∈L,Dr x)->900-L.length<=n->∃(c':Int)(L':List Int),
  ie drC drB (n+1) [s,some (.cell 0),k,some (.int c),o] [some (L.map .int)]=some (.nx,[s,some (.cell 0),k,some (.int c'),o],[some (L'.map .int)])/\0<=c'/\(∀x∈L',Dr x)/\L'.length<=max L.length 900
 |n,c,L,hc,hL,hn=>by
  have ep:yI (.int 10) (.int 18) [some (L.map D.int)]=some (.int 1000000000000000000,[some (L.map .int)]):=rfl
  by_cases ht:(1000000000000000000:Int)<=c/\L.length<900
  .cases n with
   |zero=>omega
   |succ n=>
    obtain⟨m0,m1⟩:=cW (x:=c) (m:=2147483629) (by decide)
    have w1:=mY (x:=c) (y:=2147483629) [some (L.map D.int)] (by decide)
    have w2:=uf (x:=c) (y:=2147483629) [some ((L++[c.fmod 2147483629]).map D.int)] (by decide) (show Sm 31 2147483629 by unfold Sm;decide) (by decide)
    have q0:0<=c.fdiv 2147483629:=by rw[Int.fdiv_eq_ediv_of_nonneg c (by decide)];exact Int.ediv_nonneg hc (by decide)
    obtain⟨c',L',e,h1,h2,h3⟩:=Dc s k o n (c.fdiv 2147483629) (L++[c.fmod 2147483629]) q0 (λx hx=>by
     rcases Zm.mp hx with z|z
     .exact hL x z
     .simp at z;subst z;exact⟨m0,by omega⟩) (by simp;omega)
    refine⟨c',L',?_,h1,h2,by simp at h3;omega⟩
    unfold ie
    have ea:=Bs (δ:=[s,some (.cell 0),k,some (.int c),o]) (L:=L) (y:=c.fmod 2147483629) (fs:=aj (M2 (ao 3) (mC (.int 2147483629)) oMod) (au)) rfl (by simp[aj,au,M2,ao,mC,w1]) (by omega)
    simp only[List.map_append,Zj,List.map_nil]at ea e w2
    have hlen:((L.length:Nat):Int)<900:=by omega
    have ht1:=ht.1
    simp[rQ,toB,M2,ao,mC,ep,oGe,ht1,MC,aj,au,bu,cJ,bC,oLt,hlen,aU,iU]at ea ⊢
    simp[ea,bz,M2,ao,mC,w2,e]
  .refine⟨c,L,?_,hc,hL,by omega⟩
   unfold ie
   by_cases h1:(1000000000000000000:Int)<=c
   .have h2:¬((L.length:Nat):Int)<900:=by omega
    simp[rQ,toB,M2,ao,mC,ep,oGe,h1,MC,aj,au,bu,cJ,bC,oLt,h2]
   .simp[rQ,toB,M2,ao,mC,ep,oGe,h1]
theorem xf(n:Nat):bO 0 n=((List.range n).map λ(k:Nat)=>(k:Int)).map D.int:=by
 unfold bO
 rw[List.map_map]
 apply List.map_congr_left
 intro k _
 simp
noncomputable abbrev zM(φ:FF):SF:=(aU (bz 3 (MC (aj (M2 (ao 0) (ao 2) oIx) (au)) (bu rT))) (aU (sIf (toB (M2 (ao 3) (M2 (mC (.int 10)) (mC (.int 18)) yI) oLt)) (km (bN (aj (mC (.int 12)) (au))) (hName 4) (iU (lX (ao 1) (aj (MC (aj (MC (aj (ao 3) (aj (M2 (M2 (mC (.int 3)) (ao 4) cF) (mC (.int 1)) cN) (au))) φ) (aj (M2 (M2 (ao 4) (ao 2) cN) (mC (.int 2)) cN) (au))) φ) (au))))) (bG)) (aU (nU drC drB) (sIf (toB (M2 (ao 3) (mC (.int 2147483629)) oGe)) (iU (lX (ao 1) (aj (M2 (ao 3) (mC (.int 2147483629)) oMod) (au)))) (bG)))))
theorem Qm{φ:FF}(hφ:mF φ)(ns:List Int)(k:Nat)(hk:k<ns.length)(hk2:k<100)(L:List Int)(o3 o4:Option D)(hL:∀x∈L,Dr x)(hlen:L.length<9000):∃(L':List Int)(o3' o4':Option D),
  zM φ [some (.ro (ns.map .int)),some (.cell 0),some (.int k),o3,o4] [some (L.map .int)]=some (.nx,[some (.ro (ns.map .int)),some (.cell 0),some (.int k),o3',o4'],[some (L'.map .int)])/\(∀x∈L',Dr x)/\L'.length<=max (L.length+12) 900+1:=by
 have hat:atI (ns.map D.int) (k:Int)=some (.int ns[k]):=Pz (by simp[hk])
 generalize hc:(if ns[k]<0 then -ns[k]else ns[k])=c
 have hc0:0<=c:=by rw[<-hc];split<;>omega
 have ep:yI (.int 10) (.int 18) [some (L.map D.int)]=some (.int 1000000000000000000,[some (L.map .int)]):=rfl
 obtain⟨L1,o1,e1,h1,l1⟩:∃(L1:List Int)(o1:Option D),sIf (toB (M2 (ao 3) (M2 (mC (.int 10)) (mC (.int 18)) yI) oLt)) (km (bN (aj (mC (.int 12)) (au))) (hName 4) (iU (lX (ao 1) (aj (MC (aj (MC (aj (ao 3) (aj (M2 (M2 (mC (.int 3)) (ao 4) cF) (mC (.int 1)) cN) (au))) φ) (aj (M2 (M2 (ao 4) (ao 2) cN) (mC (.int 2)) cN) (au))) φ) (au))))) (bG)
   [some (.ro (ns.map .int)),some (.cell 0),some (.int k),some (.int c),o4] [some (L.map .int)]=some (.nx,[some (.ro (ns.map .int)),some (.cell 0),some (.int k),some (.int c),o1],[some (L1.map .int)])/\(∀x∈L1,Dr x)/\L1.length<=L.length+12:=by
  by_cases hs:c<1000000000000000000
  .obtain⟨L1,o1,e,h,l⟩:=Xa hφ (.ro (ns.map .int)) k c (by omega) (bO 0 12) ((List.range 12).map λ(k:Nat)=>(k:Int)) (λj hj=>by simp at hj;omega) L o4 hL (by simp;omega)
   refine⟨L1,o1,?_,h,by rw[l];simp⟩
   rw[<-xf]at e
   simp[sIf,toB,M2,ao,mC,ep,oLt,hs,km,bN,aj,au]
   exact e
  .exact⟨L,o4,by simp[sIf,toB,M2,ao,mC,ep,oLt,hs,bG],hL,by omega⟩
 obtain⟨c',L2,e2,hc',h2,l2⟩:=Dc (some (.ro (ns.map .int))) (some (.int k)) o1 _ c L1 hc0 h1 (Zg _)
 have ew:=uG e2
 have hab:rT (.int ns[k]) [some (L.map D.int)]=some (.int c,[some (L.map D.int)]):=by rw[<-hc];rfl
 by_cases hb:(2147483629:Int)<=c'
 .obtain⟨m0,m1⟩:=cW (x:=c') (m:=2147483629) (by decide)
  have w1:=mY (x:=c') (y:=2147483629) [some (L2.map D.int)] (by decide)
  have ea:=Bs (δ:=[some (.ro (ns.map .int)),some (.cell 0),some (.int k),some (.int c'),o1]) (L:=L2) (y:=c'.fmod 2147483629) (fs:=aj (M2 (ao 3) (mC (.int 2147483629)) oMod) (au)) rfl (by simp[aj,au,M2,ao,mC,w1]) (by omega)
  refine⟨L2++[c'.fmod 2147483629],some (.int c'),o1,?_,λx hx=>by
   rcases Zm.mp hx with z|z
   .exact h2 x z
   .simp at z;subst z;exact⟨m0,by omega⟩,by simp;omega⟩
  have e0:bz 3 (MC (aj (M2 (ao 0) (ao 2) oIx) (au)) (bu rT)) [some (.ro (ns.map .int)),some (.cell 0),some (.int k),o3,o4] [some (L.map .int)]=some (.nx,[some (.ro (ns.map .int)),some (.cell 0),some (.int k),some (.int c),o4],[some (L.map .int)]):=by
   simp[bz,MC,aj,au,M2,ao,oIx,bC,hat,bu,hab]
  have e3:sIf (toB (M2 (ao 3) (mC (.int 2147483629)) oGe)) (iU (lX (ao 1) (aj (M2 (ao 3) (mC (.int 2147483629)) oMod) (au)))) (bG) [some (.ro (ns.map .int)),some (.cell 0),some (.int k),some (.int c'),o1] [some (L2.map .int)]=some (.nx,[some (.ro (ns.map .int)),some (.cell 0),some (.int k),some (.int c'),o1],[some ((L2++[c'.fmod 2147483629]).map .int)]):=by
   simp only[sIf,toB,M2,ao,mC,oGe,iU]at ea ⊢
   simp[hb]at ea ⊢
   simp[ea]
  unfold zM aU
  rw[e0]
  simp only[Option.bind_some]
  rw[e1]
  simp only[Option.bind_some]
  rw[ew]
  simp only[Option.bind_some]
  exact e3
 .refine⟨L2,some (.int c'),o1,?_,h2,by omega⟩
  have e0:bz 3 (MC (aj (M2 (ao 0) (ao 2) oIx) (au)) (bu rT)) [some (.ro (ns.map .int)),some (.cell 0),some (.int k),o3,o4] [some (L.map .int)]=some (.nx,[some (.ro (ns.map .int)),some (.cell 0),some (.int k),some (.int c),o4],[some (L.map .int)]):=by
   simp[bz,MC,aj,au,M2,ao,oIx,bC,hat,bu,hab]
  have e3:sIf (toB (M2 (ao 3) (mC (.int 2147483629)) oGe)) (iU (lX (ao 1) (aj (M2 (ao 3) (mC (.int 2147483629)) oMod) (au)))) (bG) [some (.ro (ns.map .int)),some (.cell 0),some (.int k),some (.int c'),o1] [some (L2.map .int)]=some (.nx,[some (.ro (ns.map .int)),some (.cell 0),some (.int k),some (.int c'),o1],[some (L2.map .int)]):=by
   simp[sIf,toB,M2,ao,mC,oGe,hb,bG]
  unfold zM aU
  rw[e0]
  simp only[Option.bind_some]
  rw[e1]
  simp only[Option.bind_some]
  rw[ew]
  simp only[Option.bind_some]
  exact e3
theorem HF{φ:FF}(hφ:mF φ)(ns:List Int)(all:List D):∀(ks:List Nat),(∀k∈ks,k<ns.length/\k<100)->∀(L:List Int)(o2 o3 o4:Option D),(∀x∈L,Dr x)->max L.length 900+13*ks.length<=5000->∃(L':List Int)(o2' o3' o4':Option D),
  forL ⟨all,none⟩ (hName 2) (zM φ) ((ks.map λ(k:Nat)=>(k:Int)).map D.int) [some (.ro (ns.map .int)),some (.cell 0),o2,o3,o4] [some (L.map .int)]=some (.nx,[some (.ro (ns.map .int)),some (.cell 0),o2',o3',o4'],[some (L'.map .int)])/\(∀x∈L',Dr x)
 | [],_,L,o2,o3,o4,hL,_=>⟨L,o2,o3,o4,by simp only[List.map_nil];unfold forL;simp[bD],hL⟩
 |k::ks,hk,L,o2,o3,o4,hL,hlen=>by
  have hk0:=hk k (by simp)
  simp only[List.length_cons]at hlen
  obtain⟨L1,a3,a4,e1,h1,l1⟩:=Qm hφ ns k hk0.1 hk0.2 L o3 o4 hL (by omega)
  obtain⟨L',b2,b3,b4,e,h⟩:=HF hφ ns all ks (λx hx=>hk x (by simp[hx])) L1 (some (.int k)) a3 a4 h1 (by omega)
  refine⟨L',b2,b3,b4,?_,h⟩
  rw[Zj,Zj]
  unfold forL
  simp only[hName,List.set_cons_succ,List.set_cons_zero,Option.bind_some]
  rw[if_pos (bD _ _),e1]
  exact e
def BX(φ:FF):Prop:=∀(ns:List Int),ns.length<=63->∃L:List Int,φ [.ro (ns.map .int)] []=some (.cell 0,[some (L.map .int)])/\∀x∈L,Dr x
theorem Nx{φ:FF}(hφ:mF φ):BX (aJ 5 (pQ φ)):=λns hn=>by
 obtain⟨L,o2,o3,o4,e,h⟩:=HF hφ ns (bO 0 ns.length) (List.range ns.length) (λk hk=>by simp at hk;omega) [] none none none (λx hx=>by simp at hx) (by simp;omega)
 refine⟨L,?_,h⟩
 rw[<-xf]at e
 have hmin:(if(63:Int)<(ns.length:Int)then(63:Int)else(ns.length:Int))=(ns.length:Int):=by rw[if_neg (by omega)]
 have hr:(-(2 ^ 62)<=(ns.length:Int)/\(ns.length:Int)<2 ^ 62):=by omega
 have hz:0<=sizeLine:=Nat.zero_le _
 have eS:∀δ:En,δ[0]? =some (some (.ro (ns.map .int)))->∀μ,bN (aj (MC (aj (MC (aj (ao 0) (au)) (bu cJ)) (aj (mC (.int 63)) (au))) (tB xJ)) (au)) δ μ=some (⟨bO 0 ns.length,none⟩,μ):=λδ h0 μ=>by
  simp only[bN,aj,MC,ao,h0,au,bu,cJ,bC,mC,tB,xJ,Option.bind_some,Option.map_some,Zu]
  rw[hmin]
  rw[if_pos hr]
  simp
 have e0:bz 1 (nG (qU au)) [some (.ro (ns.map .int)),none,none,none,none] []=some (.nx,[some (.ro (ns.map .int)),some (.cell 0),none,none,none],[some []]):=by
  simp[bz,nG,qU,au]
 have e1:km (bN (aj (MC (aj (MC (aj (ao 0) (au)) (bu cJ)) (aj (mC (.int 63)) (au))) (tB xJ)) (au))) (hName 2) (zM φ) [some (.ro (ns.map .int)),some (.cell 0),none,none,none] [some []]=some (.nx,[some (.ro (ns.map .int)),some (.cell 0),o2,o3,o4],[some (L.map .int)]):=by
  unfold km
  rw[eS _ rfl]
  exact e
 show(aU (bz 1 (nG (qU au))) (aU (km (bN (aj (MC (aj (MC (aj (ao 0) (au)) (bu cJ)) (aj (mC (.int 63)) (au))) (tB xJ)) (au))) (hName 2) (zM φ)) (bA (ao 1))) [some (.ro (ns.map .int)),none,none,none,none] []).bind _=_
 unfold aU
 rw[e0]
 simp only[Option.bind_some]
 rw[e1]
 simp[bA,ao]
theorem nD:∀(ns:List Int)(g d:Nat),d ∣ dR g ns↔d ∣ g/\∀n∈ns,d ∣ n.natAbs
 | [],g,d=>by simp[dR]
 |n::ns,g,d=>by
  have e:dR g (n::ns)=dR (Int.gcd g n) ns:=rfl
  rw[e,nD ns (Int.gcd g n) d]
  have h:d ∣ Int.gcd g n↔d ∣ g/\d ∣ n.natAbs:=by
   show d ∣ Nat.gcd (Int.natAbs g) (Int.natAbs n)↔_
   rw[Nat.dvd_gcd_iff]
   simp
  rw[h]
  simp only[Zi,forall_eq_or_imp]
  constructor
  .rintro⟨⟨h1,h2⟩,h3⟩;exact⟨h1,h2,h3⟩
  .rintro⟨h1,h2,h3⟩;exact⟨⟨h1,h2⟩,h3⟩
theorem Ov{s b:Int}{ns:List Int}(hs:s=1∨s= -1):dR 0 ((ns++[b]).map (s * ·))=dR b.natAbs ns:=by
 have hab:∀n:Int,(s*n).natAbs=n.natAbs:=λn=>by rw[Int.natAbs_mul];rcases hs with h|h<;>rw[h]<;>simp
 apply Nat.dvd_antisymm
 .have h:=(nD ((ns++[b]).map (s * ·)) 0 _).mp (Nat.dvd_refl _)
  refine(nD ns b.natAbs _).mpr ⟨?_,λn hn=>?_⟩
  .have:=h.2 (s*b) (Zq.mpr ⟨b,by simp,rfl⟩)
   rwa[hab]at this
  .have:=h.2 (s*n) (Zq.mpr ⟨n,by simp[hn],rfl⟩)
   rwa[hab]at this
 .have h:=(nD ns b.natAbs _).mp (Nat.dvd_refl _)
  refine(nD _ 0 _).mpr ⟨Nat.dvd_zero _,λm hm=>?_⟩
  obtain⟨n,hn,rfl⟩:=Zq.mp hm
  rw[hab]
  rcases Zm.mp hn with z|z
  .exact h.2 n z
  .simp at z;subst z;exact h.1
theorem JB{s n:Int}{G:Nat}(hs:s=1∨s= -1)(hd:(G:Int) ∣ n):(s*n).fdiv G=n.fdiv (s*G):=by
 rcases hs with h|h
 .subst h;simp
 .subst h
  have e1:(-1:Int)*n= -n:=by omega
  have e2:(-1:Int)*G= -G:=by omega
  rw[e1,e2]
  have h1:(G:Int) ∣ -n:=(Int.dvd_neg).mpr hd
  have h2: -(G:Int) ∣ n:=(Int.neg_dvd).mpr hd
  rw[Int.fdiv_eq_ediv_of_dvd h1,Int.fdiv_eq_ediv_of_dvd h2,Int.neg_ediv_of_dvd hd,Int.ediv_neg]
theorem HJ(ns:List Int)(b:Int):rowOf (sgn b) (ns++[b])=(ns++[b]).map λn=>n.fdiv (sgn b*(dR b.natAbs ns:Nat)):=by
 unfold rowOf
 simp only[]
 rw[Ov (BR b),List.map_map]
 apply List.map_congr_left
 intro n hn
 have h:=(nD ns b.natAbs _).mp (Nat.dvd_refl _)
 refine JB (BR b) ?_
 have hN:dR b.natAbs ns ∣ n.natAbs:=by
  rcases Zm.mp hn with z|z
  .exact h.2 n z
  .simp at z;subst z;exact h.1
 exact Int.ofNat_dvd_left.mpr hN
end LG
namespace L3
open PySem PySem.Spec PyProof.Rows L2
class Post (α:Type) where
 run:α->Prop
@[simp] theorem Bq{α:Type}{f:α->Prop}{r:α}:@Post.run α ⟨f⟩ r=f r:=rfl
def OkI{α:Type}(o:Option α)[Q:Post α]:Prop:=∃r,o=some r/\Q.run r
abbrev Ok{α:Type}(o:Option α)(Q:α->Prop):Prop:=@OkI α o ⟨Q⟩
section
variable {α β:Type} {Q:Post α}
@[simp] theorem Hw{r:α}:OkI (some r) (Q:=Q)=Q.run r:=by
 apply propext
 exact⟨λ⟨q,e,h⟩=>by cases e;exact h,λh=>⟨r,rfl,h⟩⟩
@[simp] theorem Yw:OkI (none:Option α) (Q:=Q)=False:=by
 apply propext
 exact⟨λ⟨q,e,h⟩=>(by cases e),λh=>h.elim⟩
@[simp] theorem gk{o:Option β}{k:β->Option α}:OkI (o.bind k) (Q:=Q)=OkI o (Q:=⟨λr=>OkI (k r) (Q:=Q)⟩):=by
 apply propext
 constructor
 .rintro⟨q,e,h⟩
  obtain⟨r,e1,e2⟩:=Za.mp e
  exact⟨r,e1,q,e2,h⟩
 .rintro⟨r,e1,q,e2,h⟩
  exact⟨q,by rw[e1];exact e2,h⟩
@[simp] theorem Zz{o:Option β}{k:β->α}:OkI (o.map k) (Q:=Q)=OkI o (Q:=⟨λr=>Q.run (k r)⟩):=by
 apply propext
 constructor
 .rintro⟨q,e,h⟩
  obtain⟨r,e1,e2⟩:=Zp.mp e
  exact⟨r,e1,by subst e2;exact h⟩
 .rintro⟨r,e1,h⟩
  exact⟨_,by rw[e1];rfl,h⟩
theorem OkI.mono{o:Option α}{Q':Post α}(h:OkI o (Q:=Q))(k:∀r,Q.run r->Q'.run r):OkI o (Q:=Q'):=let⟨r,e,q⟩:=h;⟨r,e,k r q⟩
end
class Two where
 t:Prop
 f:Prop
def vN(b:Bool)[T:Two]:Prop:=if b=true then T.t else T.f
@[simp] theorem Wi{P R:Prop}:vN true (T:=⟨P,R⟩)=P:=rfl
@[simp] theorem VH{P R:Prop}:vN false (T:=⟨P,R⟩)=R:=rfl
def asB(r:D×Mu):Option (Bool×Mu):=match r.1 with
 | .bl k=>some (k,r.2)
 |_=>none
@[simp] theorem Zv{k:Bool}{μ:Mu}:asB (.bl k,μ)=some (k,μ):=rfl
def RQ(r:List D×Mu):Option (Src×Mu):=match r.1 with
 | [.int j]=>if -(2 ^ 62)<=j/\j<2 ^ 62 then some (⟨bO 0 j.toNat,none⟩,r.2)else none
 |_=>none
theorem qW{j:Int}{μ:Mu}(h0: -(2 ^ 62)<=j)(h1:j<2 ^ 62):RQ ([.int j],μ)=some (⟨bO 0 j.toNat,none⟩,μ):=if_pos ⟨h0,h1⟩
def Wu(r:List D×Mu):Option (Src×Mu):=match r.1 with
 | [x,y]=>(dj x).bind λxs=>(dj y).map λys=>(⟨jq xs ys,none⟩,r.2)
 |_=>none
@[simp] theorem Wz{x y:D}{μ:Mu}:Wu ([x,y],μ)=(dj x).bind λxs=>(dj y).map λys=>(⟨jq xs ys,none⟩,μ):=rfl
@[simp] theorem Ym{ds:List D}:dj (.tup ds)=some ds:=rfl
@[simp] theorem Yo{ds:List D}:dj (.lst ds)=some ds:=rfl
def Wr(th:D->iZ)(r:Src×Mu):Option (List iZ×Mu):=match r.1.cel with
 |none=>some (r.1.items.map th,r.2)
 |some _=>none
@[simp] theorem Wf{th:D->iZ}{items:List D}{μ:Mu}:Wr th (⟨items,none⟩,μ)=some (items.map th,μ):=rfl
def JD(r:D×Mu):Option (List iZ×Mu):=match r.1 with
 | .tup ds=>some (ds.map thE,r.2)
 | .lst ds=>some (ds.map thE,r.2)
 |_=>none
@[simp] theorem Xl{ds:List D}{μ:Mu}:JD (.tup ds,μ)=some (ds.map thE,μ):=rfl
@[simp] theorem Xm{ds:List D}{μ:Mu}:JD (.lst ds,μ)=some (ds.map thE,μ):=rfl
def WY(r:D×Mu):Option (D×Mu):=match r.1 with
 | .cell n=>(r.2.getD n none).map λds=>(.lst ds,r.2.set n none)
 |d=>some (d,r.2)
@[simp] theorem Wh{n:Nat}{μ:Mu}:WY (.cell n,μ)=(μ.getD n none).map λds=>(.lst ds,μ.set n none):=rfl
section
variable {Q:Post (D×Mu)} {QT:Post (Bool×Mu)} {QS:Post (Fl×En×Mu)} {δ:En} {μ:Mu} {f fa fb fc:EF} {fs:AF} {t ta tc:TF} {g h:SF} {op op':O2}
@[simp] theorem VL{d:D}:ao 0 (some d::δ) μ=some (d,μ):=rfl
@[simp] theorem YZ{i:Nat}{o:Option D}:ao (i+1) (o::δ) μ=ao i δ μ:=rfl
@[simp] theorem w_c{d:D}:mC d δ μ=some (d,μ):=rfl
@[simp] theorem w_m1{op:O1'}:M1 fa op δ μ=(fa δ μ).bind λr=>op r.1 r.2:=rfl
@[simp] theorem Wl:M2 fa fb op δ μ=(fa δ μ).bind λr=>(fb δ r.2).bind λq=>op r.1 q.1 q.2:=rfl
@[simp] theorem RZ:au δ μ=some ([],μ):=rfl
@[simp] theorem Li:aj f fs δ μ=(f δ μ).bind λr=>(fs δ r.2).bind λq=>some (r.1::q.1,q.2):=rfl
@[simp] theorem w_mc{op:ON}:MC fs op δ μ=(fs δ μ).bind λr=>op r.1 r.2:=rfl
@[simp] theorem YH:iw f δ μ=(f δ μ).bind λr=>(Df r.1 r.2).map λk=>(k,r.2):=rfl
@[simp] theorem w_toB:toB f δ μ=(f δ μ).bind asB:=rfl
@[simp] theorem w_ch:OkI (MCh fa fb fc op op' δ μ) (Q:=Q)=OkI (fa δ μ) (Q:=⟨λr=>OkI (fb δ r.2) (Q:=⟨λq=>OkI ((op r.1 q.1 q.2).bind asB) (Q:=⟨λz=>vN z.1 (T:=⟨OkI ((fc δ z.2).bind λt=>op' q.1 t.1 t.2) (Q:=Q),Q.run (.bl false,z.2)⟩)⟩)⟩)⟩):=by
 unfold MCh;rw[gk];congr 2;funext r;rw[gk];congr 2;funext q;rw[gk,gk];congr 2;funext z;obtain⟨d,μ'⟩:=z
 cases d<;>simp[asB]
 rename_i b
 cases b<;>simp
@[simp] theorem w_and:OkI (rQ ta tc δ μ) (Q:=QT)=OkI (ta δ μ) (Q:=⟨λr=>vN r.1 (T:=⟨OkI (tc δ r.2) (Q:=QT),QT.run (false,r.2)⟩)⟩):=by
 unfold rQ;rw[gk];congr 2;funext r;unfold vN;split<;>simp[*]
@[simp] theorem w_or:OkI (jm ta tc δ μ) (Q:=QT)=OkI (ta δ μ) (Q:=⟨λr=>vN r.1 (T:=⟨QT.run (true,r.2),OkI (tc δ r.2) (Q:=QT)⟩)⟩):=by
 unfold jm;rw[gk];congr 2;funext r;unfold vN;split<;>simp[*]
@[simp] theorem w_not:eU ta δ μ=(ta δ μ).bind λr=>some (!r.1,r.2):=rfl
@[simp] theorem w_mif:OkI (mIf t fa fb δ μ) (Q:=Q)=OkI (t δ μ) (Q:=⟨λr=>vN r.1 (T:=⟨OkI (fa δ r.2) (Q:=Q),OkI (fb δ r.2) (Q:=Q)⟩)⟩):=by
 unfold mIf;rw[gk];congr 2;funext r;unfold vN;split<;>simp[*]
@[simp] theorem YX:OkI (nj fa fb δ μ) (Q:=Q)=OkI ((fa δ μ).bind asB) (Q:=⟨λk=>vN k.1 (T:=⟨OkI (fb δ k.2) (Q:=Q),Q.run (.bl false,k.2)⟩)⟩):=by
 unfold nj;rw[gk,gk];congr 2;funext r;obtain⟨d,μ'⟩:=r
 cases d<;>simp[asB]
 rename_i b
 cases b<;>simp
@[simp] theorem YL:wB fa δ μ=((fa δ μ).bind asB).bind λr=>some (.bl !r.1,r.2):=by
 unfold wB
 cases fa δ μ with
 |none=>rfl
 |some r=>obtain⟨d,μ'⟩:=r;cases d<;>rfl
@[simp] theorem w_next:bG δ μ=some (.nx,δ,μ):=rfl
@[simp] theorem Yi:xj δ μ=some (.bk,δ,μ):=rfl
@[simp] theorem w_ret:bA f δ μ=(f δ μ).bind λr=>some (.rt r.1,δ,r.2):=rfl
@[simp] theorem YK:iU f δ μ=(f δ μ).bind λr=>some (.nx,δ,r.2):=rfl
@[simp] theorem w_set{i:Nat}:bz i f δ μ=(f δ μ).bind λr=>some (.nx,δ.set i (some r.1),r.2):=rfl
@[simp] theorem w_if:OkI (sIf t g h δ μ) (Q:=QS)=OkI (t δ μ) (Q:=⟨λr=>vN r.1 (T:=⟨OkI (g δ r.2) (Q:=QS),OkI (h δ r.2) (Q:=QS)⟩)⟩):=by
 unfold sIf;rw[gk];congr 2;funext r;unfold vN;split<;>simp[*]
def zq(h:SF)(QS:Post (Fl×En×Mu))(r:Fl×En×Mu):Prop:=match r.1 with
 | .nx=>OkI (h r.2.1 r.2.2) (Q:=QS)
 |_=>QS.run r
@[simp] theorem w_seq:OkI (aU g h δ μ) (Q:=QS)=OkI (g δ μ) (Q:=⟨zq h QS⟩):=by
 unfold aU
 rw[gk]
 congr 2
 funext r
 obtain⟨fl,δ',μ'⟩:=r
 cases fl<;>simp[zq]
@[simp] theorem Yt{δ':En}{μ':Mu}:zq h QS (.nx,δ',μ')=OkI (h δ' μ') (Q:=QS):=rfl
@[simp] theorem Yz{d:D}{δ':En}{μ':Mu}:zq h QS (.rt d,δ',μ')=QS.run (.rt d,δ',μ'):=rfl
@[simp] theorem Yj{δ':En}{μ':Mu}:zq h QS (.bk,δ',μ')=QS.run (.bk,δ',μ'):=rfl
@[simp] theorem Yx{δ':En}{μ':Mu}:zq h QS (.ct,δ',μ')=QS.run (.ct,δ',μ'):=rfl
@[simp] theorem w_asg{hh:GF}:Iz f hh δ μ=(f δ μ).bind λr=>(hh r.1 δ r.2).bind λδ'=>some (.nx,δ',r.2):=rfl
@[simp] theorem w_par{i j:Nat}:yX i j fs δ μ=(fs δ μ).bind λr=>match r.1 with
 | [x,y]=>some (.nx,(δ.set i (some x)).set j (some y),r.2)
 |_=>none:=rfl
@[simp] theorem w_for{fi:IF}{hh:GF}:km fi hh g δ μ=(fi δ μ).bind λr=>forL r.1 hh g r.1.items δ r.2:=rfl
@[simp] theorem w_fz{lf:LF}:mFz lf δ μ=(lf δ μ).bind λr=>some (.lst r.1,r.2):=rfl
@[simp] theorem w_new{lf:LF}:nG lf δ μ=(lf δ μ).bind λr=>some (.cell r.2.length,r.2++[some r.1]):=rfl
@[simp] theorem YF:qU fs δ μ=(fs δ μ).bind λr=>if r.1.length<=sizeLine then some r else none:=rfl
@[simp] theorem YT{i:Nat}{d:D}:hName i d δ μ=some (δ.set i (some d)):=rfl
@[simp] theorem w_tup{n:Nat}{hs:GsF}{ds:List D}:jl n hs (.tup ds) δ μ=if ds.length=n then hs ds δ μ else none:=rfl
@[simp] theorem YG:jf [] δ μ=some δ:=rfl
@[simp] theorem Yr{hh:GF}{hs:GsF}{d:D}{ds:List D}:bH hh hs (d::ds) δ μ=(hh d δ μ).bind λδ1=>hs ds δ1 μ:=rfl
@[simp] theorem YD:cI f δ μ=(f δ μ).bind λr=>(srcOf r.1 r.2).map λS=>(S,r.2):=rfl
@[simp] theorem Yu{ds:List D}:srcOf (.tup ds) μ=some ⟨ds,none⟩:=rfl
@[simp] theorem Yv{ds:List D}:srcOf (.lst ds) μ=some ⟨ds,none⟩:=rfl
@[simp] theorem Yn{fl fh:PF}:mSl f fl fh δ μ=(f δ μ).bind λr=>(fl δ r.2).bind λl=>(fh δ l.2).bind λu=>oSl r.1 l.1 u.1 u.2:=rfl
@[simp] theorem ZF:Fv fa fb δ μ=(fa δ μ).bind λr=>(fb δ r.2).bind λq=>(pP r.1 q.2).bind λxs=>(pP q.1 q.2).bind λys=>if xs.length+ys.length<=sizeLine then some (xs++ys,q.2)else none:=rfl
@[simp] theorem Wc{ds:List D}:pP (.lst ds) μ=some ds:=rfl
@[simp] theorem w_fno:fNo δ μ=some (none,μ):=rfl
@[simp] theorem w_fat:fAt f δ μ=(f δ μ).bind λr=>match r.1 with
 | .int i=>some (some i,r.2)
 |_=>none:=rfl
@[simp] theorem Xu{op:O1'}{x:D}:bu op [x] μ=op x μ:=rfl
@[simp] theorem w_two{x y:D}:tB op [x,y] μ=op x y μ:=rfl
variable {i j:Int} {ds es:List D} {k:Bool}
@[simp] theorem a_add:cN (.int i) (.int j) μ=some (.int (i+j),μ):=rfl
@[simp] theorem YC:cN (.tup ds) (.tup es) μ=if ds.length+es.length<=sizeLine then some (.tup (ds++es),μ)else none:=rfl
@[simp] theorem YJ:cN (.lst ds) (.lst es) μ=if ds.length+es.length<=sizeLine then some (.lst (ds++es),μ)else none:=rfl
@[simp] theorem Er:jg (.int i) (.int j) μ=some (.int (i-j),μ):=rfl
@[simp] theorem a_mod(h:j≠0):oMod (.int i) (.int j) μ=some (.int (i.fmod j),μ):=if_pos h
theorem Ak(h:j≠0)(h2:j.natAbs.log2<9000):oDiv (.int i) (.int j) μ=some (.int (i.fdiv j),μ):=if_pos ⟨h,h2⟩
@[simp] theorem a_lt:oLt (.int i) (.int j) μ=some (.bl (decide (i<j)),μ):=rfl
@[simp] theorem a_le:oLe (.int i) (.int j) μ=some (.bl (decide (i<=j)),μ):=rfl
@[simp] theorem a_gt:oGt (.int i) (.int j) μ=some (.bl (decide (j<i)),μ):=rfl
@[simp] theorem a_ge:oGe (.int i) (.int j) μ=some (.bl (decide (j<=i)),μ):=rfl
@[simp] theorem a_neg:jc (.int i) μ=some (.int (-i),μ):=rfl
@[simp] theorem a_abs:rT (.int i) μ=some (.int (i.natAbs),μ):=by
 show some (D.int (if i<0 then -i else i),μ)=_
 congr 3
 split<;>omega
@[simp] theorem a_min:xJ (.int i) (.int j) μ=some (.int (min i j),μ):=by
 show some (D.int (if j<i then j else i),μ)=_
 congr 3
 split<;>omega
@[simp] theorem a_eq:oEq (.int i) (.int j) μ=some (.bl (i==j),μ):=by unfold oEq rsv;simp[eG,jJ,eqD]
@[simp] theorem a_ne:oNe (.int i) (.int j) μ=some (.bl (!(i==j)),μ):=by unfold oNe rsv;simp[eG,jJ,eqD]
@[simp] theorem a_eqU:Ck (.tup ds) (.tup []) μ=some (.bl ds.isEmpty,μ):=rfl
@[simp] theorem Sv:FN (.lst ds) (.lst []) μ=some (.bl (!ds.isEmpty),μ):=rfl
@[simp] theorem a_eqB{k l:Bool}:oEq (.bl k) (.bl l) μ=some (.bl (k==l),μ):=by unfold oEq rsv;simp[eG,jJ,eqD]
@[simp] theorem a_neB{k l:Bool}:oNe (.bl k) (.bl l) μ=some (.bl (!(k==l)),μ):=by unfold oNe rsv;simp[eG,jJ,eqD]
@[simp] theorem a_isB{k l:Bool}:oIs (.bl k) (.bl l) μ=some (.bl (k==l),μ):=rfl
@[simp] theorem a_isN{d:D}:oIs d .non μ=some (.bl (uL d),μ):=by cases d<;>rfl
@[simp] theorem YW{k l:Bool}:sr (.bl k) (.bl l) μ=some (.bl (k != l),μ):=rfl
@[simp] theorem YM{d:D}:sr d .non μ=some (.bl (!uL d),μ):=by cases d<;>rfl
@[simp] theorem a_tup:oTup ds μ=if ds.length<=sizeLine then some (.tup ds,μ)else none:=rfl
@[simp] theorem a_lst:oLst ds μ=if ds.length<=sizeLine then some (.lst ds,μ)else none:=rfl
@[simp] theorem Mt{d:D}:oIx d (.int i) μ=(bC d μ).bind λds=>(atI ds i).map λd=>(d,μ):=rfl
@[simp] theorem SJ:bC (.tup ds) μ=some ds:=rfl
@[simp] theorem WF:bC (.lst ds) μ=some ds:=rfl
@[simp] theorem i_ro:bC (.ro ds) μ=some ds:=rfl
@[simp] theorem Fd:cJ (.tup ds) μ=some (.int ds.length,μ):=rfl
@[simp] theorem oN:cJ (.lst ds) μ=some (.int ds.length,μ):=rfl
@[simp] theorem Zw:cJ (.ro ds) μ=some (.int ds.length,μ):=rfl
@[simp] theorem Yh{d:D}:gG [d] μ=(bC d μ).map λds=>(.tup ds,μ):=rfl
@[simp] theorem w_lOf:lOf fs δ μ=(fs δ μ).bind λr=>match r.1 with
 | [x]=>(bC x r.2).map λds=>(ds,r.2)
 |_=>none:=rfl
@[simp] theorem Yk:zE fs δ μ=(fs δ μ).bind λr=>match r.1 with
 | [x]=>(pP x r.2).bind λds=>(zB ds).map λes=>(es,r.2)
 |_=>none:=rfl
@[simp] theorem t_bl:Df (.bl k) μ=some k:=rfl
@[simp] theorem t_int:Df (.int i) μ=some (i != 0):=rfl
@[simp] theorem t_tup:Df (.tup ds) μ=some !ds.isEmpty:=rfl
@[simp] theorem t_lst:Df (.lst ds) μ=some !ds.isEmpty:=rfl
@[simp] theorem t_non:Df .non μ=some false:=rfl
@[simp] theorem Yp{T:String}:iV T (.int i) μ=some (.bl (T=="int"),μ):=rfl
@[simp] theorem YQ{T:String}:iV T (.bl k) μ=some (.bl (T=="bool"||T=="int"),μ):=rfl
@[simp] theorem Yd{T:String}:iV T (.tup ds) μ=some (.bl (T=="tuple"),μ):=rfl
@[simp] theorem XS{T:String}:iV T (.lst ds) μ=some (.bl (T=="list"),μ):=rfl
@[simp] theorem Yy{T:String}{x:Str}:iV T (.str x) μ=some (.bl (T=="str"),μ):=rfl
@[simp] theorem Yc{T:String}:iV T .non μ=some (.bl false,μ):=rfl
@[simp] theorem YB{T:String}{x}:iV T (.dic x) μ=some (.bl (T=="dict"),μ):=rfl
@[simp] theorem VR:bN fs δ μ=(fs δ μ).bind RQ:=rfl
@[simp] theorem w_zip:pq fs δ μ=(fs δ μ).bind Wu:=rfl
@[simp] theorem w_lc{own:List Str}{capI:List Nat}{fi:IF}{hh:GF}:lLC own capI fi hh t f δ μ=(fi δ μ).bind λr=>if r.1.items.length<=sizeLine then lcL r.1 hh t f (bZ own δ capI) r.1.items r.2 else none:=rfl
@[simp] theorem w_all{st:StF}:yt st δ μ=(st δ μ).bind λr=>(yN r.1 r.2).bind λq=>some (.bl q.1,q.2):=rfl
@[simp] theorem w_any{st:StF}:Np st δ μ=(st δ μ).bind λr=>(Em r.1 r.2).bind λq=>some (.bl q.1,q.2):=rfl
@[simp] theorem Zx{st:StF}:CV st δ μ=(st δ μ).bind λr=>if r.1.length<=sizeLine then(Dw r.1 r.2).bind λq=>some (.tup q.1,q.2)else none:=rfl
@[simp] theorem w_sum{st:StF}:uP st δ μ=(st δ μ).bind λr=>(vV 0 r.1 r.2).bind λq=>some (.int q.1,q.2):=rfl
@[simp] theorem w_gen{own:List Str}{capI:List Nat}{fi:IF}{hh:GF}:mK own capI fi hh f δ μ=(fi δ μ).bind λr=>Wr (thG hh f (bZ own δ capI)) r:=rfl
@[simp] theorem ZD:mJ f δ μ=(f δ μ).bind JD:=rfl
@[simp] theorem ZC:MN δ μ=some (.dic [],μ):=rfl
@[simp] theorem w_frz:KC f δ μ=(f δ μ).bind WY:=rfl
end
theorem RL{items:List D}{μ:Mu}:Src.ok ⟨items,none⟩ μ:=λn e=>by cases e
def xV(I:En->Mu->Prop)(QS:Post (Fl×En×Mu))(r:Fl×En×Mu):Prop:=match r.1 with
 | .nx=>I r.2.1 r.2.2
 | .ct=>I r.2.1 r.2.2
 | .bk=>QS.run (.nx,r.2)
 | .rt d=>QS.run (.rt d,r.2)
section
variable {I:En->Mu->Prop} {QS:Post (Fl×En×Mu)} {δ:En} {μ:Mu}
@[simp] theorem Ye:xV I QS (.nx,δ,μ)=I δ μ:=rfl
@[simp] theorem Yl:xV I QS (.ct,δ,μ)=I δ μ:=rfl
@[simp] theorem Yq:xV I QS (.bk,δ,μ)=QS.run (.nx,δ,μ):=rfl
@[simp] theorem Yb{d:D}:xV I QS (.rt d,δ,μ)=QS.run (.rt d,δ,μ):=rfl
end
theorem oF{all:List D}{h:GF}{b:SF}{QS:Post (Fl×En×Mu)}(I:List D->En->Mu->Prop)
  (turn:∀d r δ μ,I (d::r) δ μ->OkI (h d δ μ) (Q:=⟨λδ1=>OkI (b δ1 μ) (Q:=⟨xV (I r) QS⟩)⟩)) (fin:∀δ μ,I [] δ μ->QS.run (.nx,δ,μ)):
  ∀(its:List D)(δ:En)(μ:Mu),I its δ μ->OkI (forL ⟨all,none⟩ h b its δ μ) (Q:=QS)
 | [],δ,μ,hI=>by unfold forL;rw[if_pos RL,Hw];exact fin δ μ hI
 |d::r,δ,μ,hI=>by
  unfold forL
  rw[if_pos RL,gk]
  refine(turn d r δ μ hI).mono λδ1 h1=>?_
  rw[Bq]at h1 ⊢
  rw[gk]
  refine h1.mono λq h2=>?_
  rw[Bq]at h2 ⊢
  obtain⟨fl,δ',μ'⟩:=q
  cases fl with
  |nx=>exact oF (all:=all) I turn fin r δ' μ' h2
  |ct=>exact oF (all:=all) I turn fin r δ' μ' h2
  |bk=>exact⟨_,rfl,h2⟩
  |rt d=>exact⟨_,rfl,h2⟩
def retS(R:Post (D×Mu))(r:Fl×En×Mu):Prop:=match r.1 with
 | .rt d=>R.run (d,r.2.2)
 | .nx=>R.run (.non,r.2.2)
 |_=>False
@[simp] theorem Zy{R:Post (D×Mu)}{d:D}{δ:En}{μ:Mu}:retS R (.rt d,δ,μ)=R.run (d,μ):=rfl
@[simp] theorem YS{R:Post (D×Mu)}{δ:En}{μ:Mu}:retS R (.nx,δ,μ)=R.run (.non,μ):=rfl
theorem rW{m:Nat}{g:SF}{ds:List D}{μ:Mu}{R:Post (D×Mu)}(h:OkI (g (ds.map some++List.replicate (m-ds.length) none) μ) (Q:=⟨retS R⟩)):OkI (aJ m g ds μ) (Q:=R):=by
 unfold aJ
 rw[gk]
 refine h.mono λr hr=>?_
 obtain⟨fl,δ,μ'⟩:=r
 cases fl with
 |rt d=>exact⟨_,rfl,hr⟩
 |nx=>exact⟨_,rfl,hr⟩
 |bk=>exact hr.elim
 |ct=>exact hr.elim
end L3
namespace LG
open PySem PySem.Spec PyProof.Rows L2 L3
theorem MK{α:Type}{o:Option α}{x:α}(h:Ok o (λr=>r=x)):o=some x:=by
 obtain⟨r,e,h⟩:=h
 have h:r=x:=h
 rw[e,h]
theorem bJ{m:Nat}{g:SF}{ds:List D}{μ:Mu}{d:D}(h:OkI (g (ds.map some++List.replicate (m-ds.length) none) μ) (Q:=⟨retS ⟨λr=>r=(d,μ)⟩⟩)):trunc (aJ m g) ds μ=some (d,μ):=
 iJ (MK (rW h))
@[simp] theorem sz{n:Nat}(h:n<=1000):(n<=sizeLine)=True:=eq_true (Zl h (by decide))
abbrev nc(d:D):Prop:=cLt 0 d=true
theorem qK:∀{ds:List D},lY 0 ds=true↔∀d∈ds,nc d
 | []=>by unfold lY;simp
 |d::ds=>by unfold lY;simp[qK (ds:=ds)]
theorem gM{ds:List D}:nc (.tup ds)↔∀d∈ds,nc d:=by
 have e:cLt 0 (.tup ds)=lY 0 ds:=by rw[cLt]
 unfold nc
 rw[e]
 exact qK
theorem sH{ds:List D}:nc (.lst ds)↔∀d∈ds,nc d:=by
 have e:cLt 0 (.lst ds)=lY 0 ds:=by rw[cLt]
 unfold nc
 rw[e]
 exact qK
theorem xU{i:Int}:nc (.int i):=by unfold nc cLt;rfl
theorem oW{ns:List Int}:∀d∈ns.map D.int,nc d:=λd h=>by
 obtain⟨n,_,rfl⟩:=Zq.mp h
 exact xU
def isInt:D->Bool
 | .int _=>true
 |_=>false
def intOf:D->Int
 | .int i=>i
 |_=>0
@[simp] theorem We{i:Int}:isInt (.int i)=true:=rfl
@[simp] theorem Wj{i:Int}:intOf (.int i)=i:=rfl
theorem ints_of:∀{ds:List D},ds.all isInt=true->ds=(ds.map intOf).map D.int
 | [],_=>rfl
 |d::ds,h=>by
  rw[List.all_cons,Zo]at h
  cases d with
  |int i=>rw[Zj,Zj,<-ints_of h.2];rfl
  |_=>exact absurd h.1 (by simp[isInt])
theorem ints_map(ns:List Int):(ns.map D.int).map intOf=ns:=by simp[Function.comp_def]
theorem Mh(ns:List Int):(ns.map D.int).all isInt=true:=by simp
theorem Nk(d:D)(μ:Mu)(h:nc d):trunc (aJ 1 iD) [d] μ=some (.bl (isInt d),μ):=by
 apply bJ
 cases d with
 |cell n=>simp[nc,cLt]at h
 |ro ds=>simp[iD,isInt,iV,wC]
 |_=>simp[iD,isInt]
theorem Jt(d:D)(μ:Mu)(h:nc d):trunc (aJ 1 nH) [d] μ=some (.bl (isInt d),μ):=Nk d μ h
theorem nJ{th:D->iZ}{p:D->Bool}{μ:Mu}:∀(ds:List D),(∀d∈ds,th d μ=some (.bl (p d),μ))->yN (ds.map th) μ=some (ds.all p,μ)
 | [],_=>rfl
 |d::ds,h=>by
  rw[Zj]
  unfold yN
  rw[h d (by simp)]
  have ih:=nJ ds λx hx=>h x (by simp[hx])
  cases hp:p d<;>simp[hp,Jb,ih]
theorem jV{all:List D}{h:GF}{tt:TF}{fe:EF}{δb:En}{p:D->Bool}{f:D->D}{μ:Mu}:∀(items:List D),(∀d∈items,∃δ1,h d δb μ=some δ1/\tt δ1 μ=some (p d,μ)/\(p d=true->fe δ1 μ=some (f d,μ)))->lcL ⟨all,none⟩ h tt fe δb items μ=some ((items.filter p).map f,μ)
 | [],_=>by unfold lcL;simp[bD]
 |d::r,hd=>by
  obtain⟨δ1,h1,h2,h3⟩:=hd d (by simp)
  have ih:=jV (all:=all) r λx hx=>hd x (by simp[hx])
  unfold lcL
  cases hp:p d with
  |false=>simp[bD,h1,h2,hp,ih]
  |true=>simp[bD,h1,h2,hp,h3 hp,ih]
def pC:D->Bool
 | .tup ds=>ds.all isInt
 |_=>false
def Dv(φ:FF):Prop:=∀d μ,nc d->φ [d] μ=some (.bl (isInt d),μ)
theorem Gg{φ:FF}(hφ:Dv φ)(d:D)(μ:Mu)(h:nc d):trunc (aJ 1 (dY φ)) [d] μ=some (.bl (pC d),μ):=by
 apply bJ
 cases d with
 |cell n=>simp[nc,cLt]at h
 |ro ds=>simp[dY,pC,iV,wC]
 |tup ds=>
  have e:=nJ (th:=thG (hName 0) (MC (aj (ao 0) au) φ) (bZ ["part"] [some (D.tup ds)] [])) (p:=isInt) (μ:=μ) ds λx hx=>by
   simp[thG,bZ,hφ x μ (gM.mp h x hx)]
  simp[dY,pC,e]
 |_=>simp[dY,pC]
theorem xW{ds:List D}(h:ds≠[]):atI ds (-1)=some (ds.getLast h):=by
 have hl:0<ds.length:=List.length_pos_iff.mpr h
 unfold atI ixN
 rw[if_neg (by omega),if_pos (by omega)]
 have:((-1:Int)+ds.length).toNat=ds.length-1:=by omega
 simp only[Option.bind_some,this]
 rw[List.getLast_eq_getElem]
 simp[hl]
theorem zR{ns:List Int}(h:ns≠[]):atI (ns.map D.int) (-1)=some (.int (ns.getLastD 0)):=by
 rw[xW (by simpa using h)]
 simp[List.getLastD_eq_getLast?,List.getLast?_eq_some_getLast h]
def FT(φ:FF):Prop:=∀d μ,nc d->φ [d] μ=some (.bl (pC d),μ)
theorem Qa(k l:Bool)(μ:Mu):trunc (aJ 2 qH) [.bl k,.bl l] μ=some (.bl (k==l),μ):=by
 apply bJ
 simp[qH]
theorem Bp{n d:Nat}{i:Int}(h:0<=i):HT.sIx n d (some i)=min i.toNat n:=if_neg (by omega)
theorem GR{ds:List D}{i:Int}{μ:Mu}(h0:0<i)(h1:i<=ds.length):oSl (.tup ds) (some i) none μ=some (.tup (ds.drop i.toNat),μ):=by
 have h0':0<=i:=by omega
 have e:HT.sIx ds.length 0 (some i)=i.toNat:=by rw[Bp h0'];omega
 have e0:HT.sIx ds.length ds.length none=ds.length:=rfl
 unfold oSl L3.cutD
 simp only[e,e0]
 simp[List.take_of_length_le]
theorem Hq{ds:List D}{μ:Mu}(h:ds≠[]):oSl (.tup ds) none (some (-1)) μ=some (.tup ds.dropLast,μ):=by
 have hl:0<ds.length:=List.length_pos_iff.mpr h
 have e:HT.sIx ds.length ds.length (some (-1))=ds.length-1:=by show(if(-1:Int)<0 then((-1:Int)+ds.length).toNat else min (-1:Int).toNat ds.length)=_;rw[if_pos (by decide)];omega
 have e0:HT.sIx ds.length 0 none=0:=rfl
 unfold oSl L3.cutD
 simp only[e,e0]
 simp[List.dropLast_eq_take]
theorem VJ{ds:List D}{i:Int}{μ:Mu}(h0:0<=i):oSl (.lst ds) none (some i) μ=some (.lst (ds.take i.toNat),μ):=by
 have h0':0<=i:=by omega
 have e:HT.sIx ds.length ds.length (some i)=min i.toNat ds.length:=by rw[Bp h0']
 have e0:HT.sIx ds.length 0 none=0:=rfl
 unfold oSl L3.cutD
 simp only[e,e0]
 simp[List.take_eq_take_iff]
theorem wF{ds:List D}{i:Int}{μ:Mu}(h0:0<=i):oSl (.lst ds) (some i) none μ=some (.lst (ds.drop i.toNat),μ):=by
 have h0':0<=i:=by omega
 have e:HT.sIx ds.length 0 (some i)=min i.toNat ds.length:=by rw[Bp h0']
 have e0:HT.sIx ds.length ds.length none=ds.length:=rfl
 unfold oSl L3.cutD
 simp only[e,e0]
 congr 3
 by_cases h:i.toNat<=ds.length
 .rw[Nat.min_eq_left h];simp[List.take_of_length_le]
 .rw[Nat.min_eq_right (by omega)];simp;omega
def muD(L:List Int):Mu:=[some (L.map .int)]
def DlD(L:List Int):Prop:=∀x∈L,Dr x
theorem Cv{a:Nat}{x y:Int}(hx:Sm a x)(hy:0<y):Sm a (x.fdiv y):=by
 rw[Int.fdiv_eq_ediv_of_nonneg x (by omega)]
 unfold Sm at *
 have:=Int.natAbs_ediv_le_natAbs x y
 omega
theorem zeros{k:Int}{μ:Mu}(h0:0<=k)(h1:k<=500):∃zs,cF (.tup [.int 0]) (.int k) μ=some (.tup zs,μ)/\zs.length=k.toNat/\∀z∈zs,z=D.int 0:=by
 refine⟨(List.replicate k.toNat [D.int 0]).flatten,if_pos ⟨by omega,by omega,?_⟩,by simp,λz hz=>by simp at hz;exact hz.2⟩
 simp only[List.length_cons,List.length_nil]
 exact Zl (by omega:_<=1000) (by decide)
theorem mulL{ds:List D}{k:Int}{μ:Mu}(h0:0<=k)(h1:k<=1000)(hl:ds.length*k.toNat<=1000):cF (.lst ds) (.int k) μ=some (.lst (List.replicate k.toNat ds).flatten,μ):=if_pos ⟨by omega,by omega,Zl hl (by decide)⟩
theorem cu{a:Int}{n:Nat}:(bO a n).length=n:=by unfold bO;simp
theorem Ni{φ:FF}(h:BX φ)(ns:List Int)(hn:ns.length<=63):∃L,φ [.ro (ns.map .int)] []=some (.cell 0,muD L)/\DlD L:=h ns hn
theorem QM{φ:FF}{ns:List Int}(h:Ok (φ [.ro (ns.map .int)] []) (λr=>r.1= .bl true)):∃μ',φ [.ro (ns.map .int)] []=some (.bl true,μ'):=by
 obtain⟨⟨d,μ'⟩,e,h⟩:=h
 have h:d= .bl true:=h
 subst h
 exact⟨μ',e⟩
@[simp] theorem Xx{α:Type}{l:List α}{x y:α}:(l++[x]).set l.length y=l++[y]:=by simp[List.set_append]
mutual
theorem wX{m:Nat}:∀{d:D},cLt 0 d=true->cLt m d=true
 | .non,_=>by simp[cLt]
 | .bl _,_=>by simp[cLt]
 | .int _,_=>by simp[cLt]
 | .str _,_=>by simp[cLt]
 | .tup ds,h=>by rw[cLt]at h ⊢;exact ni h
 | .lst ds,h=>by rw[cLt]at h ⊢;exact ni h
 | .ro ds,h=>by rw[cLt]at h ⊢;exact ni h
 | .dic ds,h=>by rw[cLt]at h ⊢;exact zA h
 | .cell n,h=>by rw[cLt]at h;simp at h
theorem ni{m:Nat}:∀{ds:List D},lY 0 ds=true->lY m ds=true
 | [],_=>by rw[lY]
 |d::ds,h=>by
  rw[lY,Zo]at h ⊢
  exact⟨wX h.1,ni h.2⟩
theorem zA{m:Nat}:∀{ds:List (Key×D)},An 0 ds=true->An m ds=true
 | [],_=>by rw[An]
 |d::ds,h=>by
  rw[An,Zo]at h ⊢
  exact⟨wX h.1,zA h.2⟩
end
def jb(μ:Mu):Prop:=∀ds,some ds∈μ->∀d∈ds,nc d
theorem jb.c{μ:Mu}(h:jb μ)(m:Nat):cOk m μ=true:=by
 unfold cOk
 rw[List.all_eq_true]
 intro o ho
 cases o with
 |none=>rfl
 |some ds=>exact ni (qK.mpr (h ds ho))
theorem jb.nil:jb []:=λds h=>by simp at h
theorem jb.cons{ds:List D}{μ:Mu}(h1:∀d∈ds,nc d)(h2:jb μ):jb (some ds::μ):=λes h=>by
 rcases Zi.mp h with z|z
 .cases z;exact h1
 .exact h2 es z
theorem jb.dr{L:List Int}{μ:Mu}(h:jb μ):jb (some (L.map .int)::μ):=jb.cons oW h
theorem sY{φ:FF}{ds:List D}{μ μ' junk:Mu}{d:D}(h:φ ds μ=some (d,μ'++junk))(hl:μ'.length=μ.length)(hd:nc d)(hm:jb μ'):trunc φ ds μ=some (d,μ'):=by
 unfold trunc
 rw[h]
 simp only[Option.bind_some]
 have e:(μ'++junk).take μ.length=μ':=by rw[<-hl];simp
 rw[e,wX hd,hm.c]
 rfl
theorem NQ{φ:FF}{ds:List D}{μ:Mu}{P:D->Mu->Prop}(h:Ok (φ ds μ) (λr=>∃μ' junk,r.2=μ'++junk/\μ'.length=μ.length/\jb μ'/\nc r.1/\P r.1 μ')):∃d μ',trunc φ ds μ=some (d,μ')/\P d μ':=by
 obtain⟨⟨d,μ1⟩,e,μ',junk,h1,h2,h3,h4,h5⟩:=h
 have h1:μ1=μ'++junk:=h1
 subst h1
 exact⟨d,μ',sY e h2 h4 h3,h5⟩
theorem Qk{φ:FF}{ds:List D}{μ:Mu}{P:D->Prop}(hm:jb μ)(h:Ok (φ ds μ) (λr=>∃junk,r.2=μ++junk/\nc r.1/\P r.1)):∃d,trunc φ ds μ=some (d,μ)/\P d:=by
 obtain⟨⟨d,μ1⟩,e,junk,h1,h4,h5⟩:=h
 have h1:μ1=μ++junk:=h1
 subst h1
 exact⟨d,sY e rfl h4 hm,h5⟩
def jY(φ:FF):Prop:=∀(L:List Int)(rest:Mu),φ [.cell 0] (some (L.map .int)::rest)=some (.int (L.headD 0),some (L.tail.map .int)::rest)
theorem Ks:jY (trunc (aJ 1 jZ)):=λL rest=>by
 have h1:oEq (.cell 0) (.lst []) (some (L.map D.int)::rest)=some (.bl L.isEmpty,some (L.map D.int)::rest):=by
  unfold oEq rsv
  simp[eG,qI,jJ,tQ,eqD,ik]
  cases L<;>simp[kj]
 refine za ?_ (by simp)
 unfold aJ jZ
 have hz:0<=sizeLine:=Nat.zero_le _
 cases L with
 |nil=>
  simp at h1
  simp[aU,sIf,toB,M2,ao,MC,au,oLst,hz,h1,bA,mC]
 |cons x t=>
  simp at h1
  simp[aU,sIf,toB,M2,ao,MC,au,oLst,hz,h1,bA,mC,bG,Hi]
theorem jC{φ:FF}(h:jY φ){L:List Int}(hL:DlD L)(rest:Mu):∃x L',φ [.cell 0] (some (L.map .int)::rest)=some (.int x,some (L'.map .int)::rest)/\Dr x/\DlD L':=by
 refine⟨L.headD 0,L.tail,h L rest,?_,λx hx=>hL x (List.mem_of_mem_tail hx)⟩
 cases L with
 |nil=>exact⟨by decide,by decide⟩
 |cons a b=>exact hL a (by simp)
theorem wj{a:Int}{n:Nat}{d:D}(h:d∈bO a n):∃k:Int,d= .int k/\a<=k/\k<a+n:=by
 unfold bO at h
 obtain⟨k,hk,rfl⟩:=Zq.mp h
 have:=List.mem_range.mp hk
 exact⟨_,rfl,by omega,by omega⟩
section
variable {α:Type} {r j:List α} {x y z:α}
@[simp] theorem Yg:(r++x::j)[r.length]? =some x:=by simp
@[simp] theorem XR:(r++x::j).set r.length y=r++y::j:=by simp[List.set_append]
@[simp] theorem XX:(r++x::(j++[y]))[r.length+(j.length+1)]? =some y:=by
 rw[List.getElem?_append_right (by omega)]
 have:r.length+(j.length+1)-r.length=j.length+1:=by omega
 rw[this]
 simp
@[simp] theorem Ys:(r++x::(j++[y])).set (r.length+(j.length+1)) z=r++x::(j++[z]):=by
 rw[List.set_append_right _ _ (by omega)]
 have:r.length+(j.length+1)-r.length=j.length+1:=by omega
 rw[this]
 simp
end
theorem iu{ys:List Int}{k:Int}(h0:0<=k)(h1:k<ys.length):atI (ys.map D.int) k=some (.int (ys.getD k.toNat 0))/\ys.getD k.toNat 0∈ys:=by
 have hk:k.toNat<ys.length:=by omega
 have e:ys.getD k.toNat 0=ys[k.toNat]:=by simp[List.getD,hk]
 refine⟨?_,by rw[e];exact List.getElem_mem hk⟩
 unfold atI ixN
 rw[if_pos h0,if_pos (by simpa using h1),e]
 simp[hk]
theorem Ms{ps:List D}{μ:Mu}(h1:ik ps=true)(h2:kW ps<90):oEq (.lst ps) (.lst []) μ=some (.bl ps.isEmpty,μ):=by
 unfold oEq
 have e1:rsv (.lst ps) μ= .lst ps:=rfl
 have e2:rsv (.lst []) μ= .lst []:=rfl
 rw[e1,e2]
 have e3:eG (.lst ps)=true:=by rw[eG];exact h1
 have e4:eG (.lst [])=true:=by rw[eG,ik]
 have e5:jJ (.lst ps)<100:=by rw[jJ];omega
 have e6:eqD (.lst ps) (.lst [])=ps.isEmpty:=by cases ps<;>rw[eqD]<;>simp[kj]
 rw[e3,e4,e6,if_pos ⟨rfl,e5⟩]
theorem wV{α:Type}{p q:α->Bool}:∀(l:List α),(∀x∈l,q x= !p x)->(l.filter q).isEmpty=l.all p
 | [],_=>rfl
 |x::l,h=>by
  have hx:=h x (by simp)
  have ih:=wV l λy hy=>h y (by simp[hy])
  rw[List.filter_cons,List.all_cons]
  cases hp:p x with
  |true=>rw[hp]at hx;rw[hx];simpa using ih
  |false=>rw[hp]at hx;rw[hx];rfl
theorem vU{b:Nat}{x:Int}(n:Nat)(h:x.natAbs<n)(hn:n<=2 ^ b):Sm b x:=Zc h hn
def aG(r:List Int):D:=.tup (r.map .int)
@[simp] theorem Wg{r:List Int}{μ:Mu}:bC (aG r) μ=some (r.map .int):=rfl
@[simp] theorem Qc{r:List Int}{μ:Mu}:cJ (aG r) μ=some (.int r.length,μ):=by simp[aG]
def pairD(p:Int×Int):D:=.tup [.int p.1,.int p.2]
theorem gR{α:Type}{F:α->D}{l:List α}{k:Int}{z:α}(h0:0<=k)(h1:k<l.length):atI (l.map F) k=some (F (l.getD k.toNat z))/\l.getD k.toNat z∈l:=by
 have hk:k.toNat<l.length:=by omega
 have e:l.getD k.toNat z=l[k.toNat]:=by simp[List.getD,hk]
 refine⟨?_,by rw[e];exact List.getElem_mem hk⟩
 unfold atI ixN
 rw[if_pos h0,if_pos (by simpa using h1),e]
 simp[hk]
theorem kh{α β:Type}{F:α->D}{G:β->D}:∀(a:List α)(b:List β),jq (a.map F) (b.map G)=(a.zip b).map λp=>.tup [F p.1,G p.2]
 | [],_=>by simp[jq]
 |a::as,[]=>by simp[jq]
 |a::as,b::bs=>by simp[jq,kh as bs]
theorem uh{α:Type}{th:D->iZ}{F:α->D}{g:α->Int}{μ:Mu}:∀(l:List α)(a:Int),(∀x∈l,th (F x) μ=some (.int (g x),μ))->vV a ((l.map F).map th) μ=some (a+(l.map g).sum,μ)
 | [],a,_=>by simp[vV]
 |x::l,a,h=>by
  have h1:=h x (by simp)
  have ih:=uh l (a+g x) λy hy=>h y (by simp[hy])
  rw[Zj,Zj]
  unfold vV
  rw[h1]
  simp only[Option.bind_some]
  rw[ih]
  simp
  omega
theorem bW{α:Type}{all:List D}{h:GF}{fe:EF}{δb:En}{F:α->D}{f:α->D}{μ:Mu}:∀(l:List α),(∀x∈l,∃δ1,h (F x) δb μ=some δ1/\fe δ1 μ=some (f x,μ))->lcL ⟨all,none⟩ h aQ fe δb (l.map F) μ=some (l.map f,μ)
 | [],_=>by simp only[List.map_nil];unfold lcL;simp[bD]
 |d::r,hd=>by
  obtain⟨δ1,h1,h2⟩:=hd d (by simp)
  have h3:=bW (all:=all) r λx hx=>hd x (by simp[hx])
  rw[Zj]
  unfold lcL
  simp[bD,h1,aQ,h2,h3]
def dot(ws cs:List Int):Int:=((ws.zip cs).map λp=>p.1*p.2).sum
def La(φ:FF):Prop:=∀(ws cs:List Int)(μ:Mu),(∀w∈ws,Sm 9000 w)->(∀c∈cs,Sm 9000 c)->φ [.lst (ws.map .int),.lst (cs.map .int)] μ=some (.int (dot ws cs),μ)
theorem UW:La (trunc (aJ 2 bj)):=λws cs μ hw hc=>by
 apply bJ
 have e:=uh (th:=thG (jl 2 (bH (hName 0) (bH (hName 1) jf))) (M2 (ao 0) (ao 1) cF) (bZ ["one","other"] [some (.lst (ws.map .int)),some (.lst (cs.map .int))] [])) (F:=λp:Int×Int=>.tup [D.int p.1,.int p.2]) (g:=λp=>p.1*p.2) (μ:=μ) (ws.zip cs) 0 λp hp=>by
  obtain⟨p1,p2⟩:=p
  have hm:=List.of_mem_zip hp
  have:=bV (x:=p1) (y:=p2) μ (hw _ hm.1) (hc _ hm.2) (by decide)
  simp[thG,bZ,this]
 have ez:=kh (F:=D.int) (G:=D.int) ws cs
 unfold dot
 simp[bj,ez]
 rw[List.map_map]at e
 rw[e]
 simp
def pA(r:List Int):Int:=r.getLastD 0
def col(rs:List (List Int))(i:Nat):List Int:=rs.map λr=>r.getD i 0
theorem Vp{F:EF}{δ:En}{μ:Mu}{k:Int}(h0:0<=k)(h1:k<=100000)(a:F δ μ=some (.int k,μ)):bN (aj F au) δ μ=some (⟨bO 0 k.toNat,none⟩,μ):=by
 have rr:=qW (j:=k) (μ:=μ) (by omega) (by omega)
 rw[VR,Li,a]
 simp only[Option.bind_some,RZ]
 exact rr
theorem Mz{F:EF}{δ:En}{μ:Mu}{r:List Int}{d1:Nat}(hl:r.length=d1)(a:F δ μ=some (aG r,μ)):MC (aj F au) (bu cJ) δ μ=some (.int d1,μ):=by
 rw[w_mc,Li,a]
 simp only[Option.bind_some,RZ,Xu,Qc,hl]
def rowsOf(ps:List (List Int))(sh:List (Int×Int)):List (List Int):=sh.map λx=>ps.getD x.1.toNat []
def Dp(n:Nat)(sh:List (Int×Int)):Prop:=∀x∈sh,0<=x.1/\x.1<n/\1<=x.2/\Sm 2000 x.2
theorem qe{w c:Int}{ws cs:List Int}:dot (w::ws) (c::cs)=w*c+dot ws cs:=by unfold dot;simp
theorem JG:∀(ss:List Int)(k:Nat),(∀s∈ss,1<=s/\Sm k s)->(0<=ss.sum/\(ss≠[]->1<=ss.sum))/\ss.sum.natAbs<=ss.length*2 ^ k
 | [],k,_=>by simp
 |s::ss,k,h=>by
  obtain⟨h1,h2⟩:=h s (by simp)
  obtain⟨⟨i1,i2⟩,i3⟩:=JG ss k λx hx=>h x (by simp[hx])
  rw[List.sum_cons,List.length_cons,Nat.succ_mul]
  refine⟨⟨by omega,λ_=>by omega⟩,?_⟩
  unfold Sm at h2
  have:=Int.natAbs_add_le s ss.sum
  omega
@[simp] theorem Wb{μ:Mu}{ds:List D}:bC (.cell μ.length) (μ++[some ds])=some ds:=by unfold bC;simp
def fnL(d:Nat)(g:Nat->Int):List D:=((List.range d).map g).map D.int
theorem Hh{d:Nat}{g:Nat->Int}:(fnL d g).length=d:=by unfold fnL;simp
theorem VF{d:Nat}{g:Nat->Int}{j:Nat}(h:j<d):atI (fnL d g) (0+(j:Int))=some (.int (g j)):=by
 unfold atI ixN
 rw[if_pos (by omega),if_pos (by rw[Hh];omega)]
 have:(0+(j:Int)).toNat=j:=by omega
 simp only[Option.bind_some,this]
 unfold fnL
 simp[h]
theorem Ac:∀(a b:List Int),kj (a.map D.int) (b.map D.int)=(a==b)
 | [],[]=>by simp[kj]
 | [],b::bs=>by simp[kj]
 |a::as,[]=>by simp[kj]
 |a::as,b::bs=>by simp[kj,eqD,Ac as bs]
theorem Rb(a b:List Int)(μ:Mu):oNe (aG a) (aG b) μ=some (.bl (!(a==b)),μ):=by
 unfold oNe
 have e1:∀c:List Int,rsv (aG c) μ=aG c:=λc=>rfl
 have e2:∀c:List Int,eG (aG c)=true:=λc=>by unfold aG;rw[eG];exact qI c
 have e3:jJ (aG a)<100:=by unfold aG;rw[jJ,tQ];decide
 have e4:eqD (aG a) (aG b)=(a==b):=by unfold aG;rw[eqD,Ac]
 rw[e1,e1,e2,e2,e4,if_pos ⟨rfl,e3⟩]
def pairOf:D->Int×Int
 | .tup [.int k,.int s]=>(k,s)
 |_=>(0,0)
def nY:D->Bool
 | .tup [.int _,.int _]=>true
 |_=>false
def cQ(many:Int)(d:D):Bool:=nY d&&decide (0<=(pairOf d).1/\(pairOf d).1<many/\1<=(pairOf d).2)
def yR:List (Int×Int)->Bool
 | []=>true
 |a::l=>match l with
  | []=>true
  |b::_=>decide (a.1<b.1)&&yR l
def dm(many:Int):D->Bool
 | .tup ds=>!ds.isEmpty&&(ds.all (cQ many)&&yR (ds.map pairOf))
 |_=>false
theorem sV{d:D}(h:nY d=true):d=pairD (pairOf d):=by
 unfold nY at h
 split at h
 .rfl
 .cases h
theorem Cp{many:Int}:∀{ds:List D},ds.all (cQ many)=true->ds=(ds.map pairOf).map pairD
 | [],_=>rfl
 |d::ds,h=>by
  rw[List.all_cons,Zo]at h
  have h1:=h.1
  unfold cQ at h1
  rw[Zo]at h1
  rw[Zj,Zj,<-sV h1.1,<-Cp h.2]
theorem CG{φ:FF}(hφ:FT φ)(many:Int)(d:D)(μ:Mu)(h:nc d):trunc (aJ 2 (fW φ)) [.int many,d] μ=some (.bl (cQ many d),μ):=by
 apply bJ
 have e1:=hφ d μ h
 cases hn:pC d with
 |false=>
  rw[hn]at e1
  have es:cQ many d=false:=by
   unfold cQ
   cases hp:nY d with
   |false=>rfl
   |true=>
    have:=sV hp
    rw[this]at hn
    unfold pairD pC at hn
    simp at hn
  rw[es]
  simp[fW,e1]
 |true=>
  rw[hn]at e1
  cases d with
  |tup ds=>
   have hd:=ints_of hn
   generalize ds.map intOf=ns at hd
   subst hd
   by_cases hl:ns.length=2
   .match ns,hl with
    | [k,s],_=>
     have at0:atI [D.int k,D.int s] 0=some (.int k):=rfl
     have at1:atI [D.int k,D.int s] 1=some (.int s):=rfl
     have es:cQ many (.tup ([k,s].map D.int))=decide (0<=k/\k<many/\1<=s):=by
      show(true&&decide (0<=k/\k<many/\1<=s))=_
      simp
     rw[es]
     simp only[Zj,List.map_nil]at e1 ⊢
     by_cases c1:0<=k
     .by_cases c2:k<many
      .simp[fW,e1,at0,at1,c1,c2]
      .simp[fW,e1,at0,at1,c1,c2]
     .simp[fW,e1,at0,at1,c1]
   .have es:cQ many (.tup (ns.map D.int))=false:=by
     unfold cQ
     cases hp:nY (.tup (ns.map D.int))with
     |false=>rfl
     |true=>
      have:=sV hp
      unfold pairD at this
      injection this with this
      have:=congrArg List.length this
      simp at this
      exact absurd this hl
    rw[es]
    have hlb:((ns.length:Int)==2)=false:=by
     have:(ns.length:Int)≠2:=by omega
     simpa using this
    simp[fW,e1,hlb]
  |_=>cases hn
def Cu(φ:FF):Prop:=∀(many:Int)(d:D)(μ:Mu),nc d->φ [.int many,d] μ=some (.bl (cQ many d),μ)
theorem Hf:∀(l:List (Int×Int)),(l.zip (l.drop 1)).all (λp=>decide (p.1.1<p.2.1))=yR l
 | []=>rfl
 | [a]=>rfl
 |a::b::l=>by
  have ih:=Hf (b::l)
  simp only[List.drop_succ_cons,List.drop_zero]at ih ⊢
  rw[List.zip_cons_cons,List.all_cons,ih]
  rfl
theorem Bu{φ:FF}(hφ:Cu φ)(many:Int)(d:D)(μ:Mu)(h:nc d):trunc (aJ 2 (eQ φ)) [.int many,d] μ=some (.bl (dm many d),μ):=by
 apply bJ
 cases d with
 |cell n=>simp[nc,cLt]at h
 |ro ds=>simp[eQ,dm,iV,wC]
 |tup ds=>
  by_cases hne:ds=[]
  .subst hne
   simp[eQ,dm]
  .have hem:ds.isEmpty=false:=by cases ds<;>simp_all
   have hlb:((ds.length:Int)==0)=false:=by
    have:(ds.length:Int)≠0:=by have:=List.length_pos_iff.mpr hne;omega
    simpa using this
   have ea:=nJ (th:=thG (hName 0) (MC (aj (ao 1) (aj (ao 0) au)) φ) (bZ ["part"] [some (.int many),some (D.tup ds)] [0])) (p:=cQ many) (μ:=μ) ds λx hx=>by
    simp[thG,bZ,hφ many x μ (gM.mp h x hx)]
   have es:dm many (.tup ds)=(ds.all (cQ many)&&yR (ds.map pairOf)):=by
    show(!ds.isEmpty&&(ds.all (cQ many)&&yR (ds.map pairOf)))=_
    rw[hem];rfl
   rw[es]
   cases ha:ds.all (cQ many)with
   |false=>
    rw[ha]at ea
    simp[eQ,hlb,ea]
   |true=>
    rw[ha]at ea
    have hd:=Cp ha
    generalize ds.map pairOf=sh at hd
    have hsl:=GR (ds:=ds) (i:=1) (μ:=μ) (by decide) (by have:=List.length_pos_iff.mpr hne;omega)
    rw[show(1:Int).toNat=1 from rfl]at hsl
    have ez:jq ds (ds.drop 1)=(sh.zip (sh.drop 1)).map λp=>.tup [pairD p.1,pairD p.2]:=by
     rw[hd,<-List.map_drop,kh]
    have eb:=nJ (th:=thG (jl 2 (bH (hName 0) (bH (hName 1) jf))) (M2 (M2 (ao 0) (mC (.int 0)) oIx) (M2 (ao 1) (mC (.int 0)) oIx) oLt) (bZ ["one","other"] [some (.int many),some (D.tup ds)] [])) (p:=λd=>match d with| .tup [a,b]=>decide ((pairOf a).1<(pairOf b).1)|_=>false) (μ:=μ) (jq ds (ds.drop 1)) λx hx=>by
     rw[ez]at hx
     obtain⟨⟨⟨a1,a2⟩,⟨b1,b2⟩⟩,_,rfl⟩:=Zq.mp hx
     have at0:∀u v:Int,atI [D.int u,D.int v] 0=some (.int u):=λ_ _=>rfl
     simp[thG,bZ,pairD,at0,pairOf]
     try rfl
    have er:(jq ds (ds.drop 1)).all (λd=>match d with| .tup [a,b]=>decide ((pairOf a).1<(pairOf b).1)|_=>false)=yR sh:=by
     rw[ez,List.all_map,<-Hf]
     congr 1
    rw[er]at eb
    generalize ds.drop 1=es' at *
    simp[eQ,hlb,ea,hsl,eb]
 |_=>simp[eQ,dm]
def chB(b:Int):List (Int×Int)->Bool
 | []=>true
 |a::l=>decide (b<a.1)&&chB a.1 l
theorem Lp:∀(l:List (Int×Int))(a:Int×Int),chB a.1 l=yR (a::l)
 | [],a=>rfl
 |b::l,a=>by
  show(decide (a.1<b.1)&&chB b.1 l)=(decide (a.1<b.1)&&yR (b::l))
  rw[Lp l b]
theorem Ff{many:Int}{ds:List D}:dm many (.tup ds)=(!ds.isEmpty&&(ds.all (cQ many)&&chB (-1) (ds.map pairOf))):=by
 show(!ds.isEmpty&&(ds.all (cQ many)&&yR (ds.map pairOf)))=_
 cases ds with
 |nil=>rfl
 |cons d ds=>
  cases ha:(d::ds).all (cQ many)with
  |false=>rfl
  |true=>
   rw[List.all_cons,Zo]at ha
   have h1:=ha.1
   unfold cQ at h1
   rw[Zo]at h1
   have h2:=of_decide_eq_true h1.2
   rw[Zj]
   show _=(_&&(true&&(decide (-1<(pairOf d).1)&&chB (pairOf d).1 (ds.map pairOf))))
   rw[Lp,decide_eq_true (by omega: -1<(pairOf d).1)]
   rfl
def zV(φ:FF):Prop:=∀(many:Int)(d:D)(μ:Mu),nc d->φ [.int many,d] μ=some (.bl (dm many d),μ)
theorem yQ{φ:FF}(hφ:Dv φ)(many:Int)(d:D)(μ:Mu)(hn:nc d):trunc (aJ 4 (jh φ)) [.int many,d] μ=some (.bl (dm many d),μ):=by
 apply bJ
 cases d with
 |cell n=>simp[nc,cLt]at hn
 |ro ds=>simp[jh,iV,wC,dm]
 |tup ds=>
  have hnd:=gM.mp hn
  have eu:Ck (.tup ds) (.tup []) μ=some (.bl ds.isEmpty,μ):=rfl
  rw[Ff]
  cases hem:ds.isEmpty with
  |true=>
   rw[hem]at eu
   simp[jh,eu]
  |false=>
   rw[hem]at eu
   simp[jh,eu]
   refine oF (λits δ μ'=>∃(b:Int)(o:Option D),μ'=μ/\ -1<=b/\(∀x∈its,nc x)/\(ds.all (cQ many)&&chB (-1) (ds.map pairOf))=(its.all (cQ many)&&chB b (its.map pairOf))/\δ=[some (.int many),some (.tup ds),some (.int b),o]) ?_ ?_ _ _ _ ⟨-1,none,rfl,by decide,hnd,rfl,rfl⟩
   .rintro x rest δ μ' ⟨b,o,rfl,hb1,hx,hv,rfl⟩
    have hxn:=hx x (by simp)
    have bad:cQ many x=false->(ds.all (cQ many)&&chB (-1) (ds.map pairOf))=false:=λz=>by
     rw[hv,List.all_cons,z];rfl
    cases hp:nY x with
    |false=>
     have hs:cQ many x=false:=by unfold cQ;rw[hp];rfl
     have hbad:=bad hs
     generalize (ds.all (cQ many)&&chB (-1) (ds.map pairOf))=VV at *
     subst hbad
     cases x with
     |tup es=>
      by_cases hl:es.length=2
      .match es,hl with
       | [u,v],_=>
        have nu:nc u:=gM.mp hxn u (by simp)
        have nv:nc v:=gM.mp hxn v (by simp)
        have at0:atI [u,v] 0=some u:=rfl
        have at1:atI [u,v] 1=some v:=rfl
        have eu:=hφ u μ' nu
        have ev:=hφ v μ' nv
        cases hu:isInt u with
        |false=>rw[hu]at eu;simp[at0,eu]
        |true=>
         rw[hu]at eu
         cases hvv:isInt v with
         |false=>rw[hvv]at ev;simp[at0,at1,eu,ev]
         |true=>
          cases u<;>simp[isInt]at hu
          cases v<;>simp[isInt]at hvv
          simp[nY]at hp
      .have hlb:((es.length:Int)==2)=false:=by
        have:(es.length:Int)≠2:=by omega
        simpa using this
       simp[hlb]
     |cell n=>simp[nc,cLt]at hxn
     |ro es=>simp[iV,wC]
     |_=>simp
    |true=>
     have hxe:=sV hp
     generalize hpo:pairOf x=p at hxe
     obtain⟨k,s⟩:=p
     have at0:atI [D.int k,D.int s] 0=some (.int k):=rfl
     have at1:atI [D.int k,D.int s] 1=some (.int s):=rfl
     have ek:φ [.int k] μ'=some (.bl true,μ'):=hφ (.int k) μ' xU
     have es:φ [.int s] μ'=some (.bl true,μ'):=hφ (.int s) μ' xU
     have hsh:cQ many x=decide (0<=k/\k<many/\1<=s):=by unfold cQ;rw[hp,hpo];rfl
     rw[List.all_cons,Zj,hpo,hsh]at hv
     have hch:chB b ((k,s)::rest.map pairOf)=(decide (b<k)&&chB k (rest.map pairOf)):=rfl
     rw[hch]at hv
     generalize (ds.all (cQ many)&&chB (-1) (ds.map pairOf))=VV at *
     have hxe:x= .tup [.int k,.int s]:=hxe
     subst hxe
     by_cases c1:k<=b
     .have:¬b<k:=by omega
      simp only[this,decide_false,Bool.false_and,Bool.and_false]at hv
      subst hv
      simp[at0,at1,ek,es,c1]
     .by_cases c2:many<=k
      .have:¬(0<=k/\k<many/\1<=s):=by omega
       simp only[this,decide_false,Bool.false_and]at hv
       subst hv
       simp[at0,at1,ek,es,c1,c2]
      .by_cases c3:s<1
       .have:¬(0<=k/\k<many/\1<=s):=by omega
        simp only[this,decide_false,Bool.false_and]at hv
        subst hv
        simp[at0,at1,ek,es,c1,c2,c3]
       .simp[at0,at1,ek,es,c1,c2,c3]
        have t1:0<=k/\k<many/\1<=s:=by omega
        have t2:b<k:=by omega
        rw[decide_eq_true t1,decide_eq_true t2]at hv
        exact⟨k,by omega,λy hy=>hx y (List.mem_cons_of_mem _ hy),by simpa using hv,rfl⟩
   .rintro δ μ' ⟨b,o,rfl,hb1,hx,hv,rfl⟩
    have hv:(ds.all (cQ many)&&chB (-1) (ds.map pairOf))=true:=hv
    rw[hv]
    simp
 |_=>simp[jh,dm]
def inG(gs:List Int)(k:Int):Bool:=gs.any λg=>g==k
def Wy:D->List (Int×Int)
 | .tup ds=>ds.map pairOf
 |_=>[]
def yV(n:Int):D->Bool
 | .tup ds=>((ds.length:Int)==n)
 |_=>false
theorem Vb(n:Int)(d:D)(μ:Mu)(h:nc d):trunc (aJ 2 lM) [.int n,d] μ=some (.bl (yV n d),μ):=by
 apply bJ
 cases d with
 |cell n=>simp[nc,cLt]at h
 |ro ds=>simp[lM,iV,wC,yV]
 |_=>simp[lM,yV]
def Nv(φ:FF):Prop:=∀(n:Int)(d:D)(μ:Mu),nc d->φ [.int n,d] μ=some (.bl (yV n d),μ)
theorem sum_ints(μ:Mu):∀(ns:List Int)(a:Int),vV a ((ns.map D.int).map thE) μ=some (a+ns.sum,μ)
 | [],a=>by simp[vV]
 |n::ns,a=>by
  have ih:=sum_ints μ ns (a+n)
  rw[Zj,Zj]
  unfold vV
  show vV (a+n) ((ns.map D.int).map thE) μ=_
  rw[ih,List.sum_cons,Int.add_assoc]
def aV(r:List Int):D:=.lst (r.map .int)
theorem szl{n:Nat}(h:n<=1000):n<=sizeLine:=Zl h (by decide)
theorem wA{α:Type}{c:Nat}{all:List D}{h:GF}{fe:EF}{δb:En}{F:α->D}{f:α->D}{μ:Mu}(hc:μ[c]? =some (some all)):∀(l:List α),(∀x∈l,∃δ1,h (F x) δb μ=some δ1/\fe δ1 μ=some (f x,μ))->lcL ⟨all,some c⟩ h aQ fe δb (l.map F) μ=some (l.map f,μ)
 | [],_=>by
  have ok:Src.ok ⟨all,some c⟩ μ:=λn e=>by cases e;exact hc
  simp only[List.map_nil];unfold lcL;simp[ok]
 |d::r,hd=>by
  have ok:Src.ok ⟨all,some c⟩ μ:=λn e=>by cases e;exact hc
  obtain⟨δ1,h1,h2⟩:=hd d (by simp)
  have h3:=wA hc r λx hx=>hd x (by simp[hx])
  rw[Zj]
  unfold lcL
  simp[ok,h1,aQ,h2,h3]
theorem MP{φ:FF}(hφ:mF φ)(c:Int)(c0:0<=c)(c1:c<100)(x:Int)(all:List D)(μ:Mu):∀(its:List D),(∀i∈its,∃k:Int,i= .int k/\0<=k/\k<100)->∃zs:List Int,
  lcL ⟨all,none⟩ (hName 0) aQ (MC (aj (ao 1) (aj (M2 (ao 0) (mC (.int c)) cN) (au))) φ) [none,some (.int x)] its μ=some (zs.map .int,μ)/\zs.length=its.length/\∀z∈zs,Dr z
 | [],_=>⟨[],by unfold lcL;simp[bD],rfl,by simp⟩
 |i::its,hi=>by
  obtain⟨k,rfl,k0,k1⟩:=hi i (by simp)
  obtain⟨r,er,hr⟩:=hφ x (k+c) μ (by omega) (by omega)
  obtain⟨zs,e,hl,hz⟩:=MP hφ c c0 c1 x all μ its λj hj=>hi j (by simp[hj])
  refine⟨r::zs,?_,by simp[hl],λz hz'=>?_⟩
  .unfold lcL
   simp[bD,aQ,er,e]
  .rcases Zi.mp hz' with h|h
   .rw[h];exact hr
   .exact hz z h
theorem Lx(m s:Int)(hm:m≠0)(all:List D)(μ:Mu)(zs:List Int):lcL ⟨all,none⟩ (hName 0) aQ (M2 (M2 (ao 0) (mC (.int m)) oMod) (mC (.int s)) jg) [none] (zs.map .int) μ=some ((zs.map λz=>z.fmod m-s).map .int,μ):=by
 have e:=bW (all:=all) (h:=hName 0) (fe:=M2 (M2 (ao 0) (mC (.int m)) oMod) (mC (.int s)) jg) (δb:=[none]) (F:=D.int) (f:=λz=>.int (z.fmod m-s)) (μ:=μ) zs λz _=>⟨[some (.int z)],by simp,by simp[hm]⟩
 rw[e,List.map_map]
 rfl
def isArrow(φ:FF):Prop:=∀(x n k:Int)(μ:Mu),1<=n->n<=20->0<=k->k<=4->∃r:List Int,φ [.int x,.int n,.int k] μ=some (aV r,μ)/\r.length=n.toNat/\∀z∈r,z.natAbs<=1000000
theorem Ef{zs:List Int}{m s B:Int}(hm:0<m)(h1: -B<= -s)(h2:m-1-s<=B)(hB:B<=1000000):∀z∈zs.map (λz=>z.fmod m-s),z.natAbs<=1000000:=λz hz=>by
 obtain⟨y,_,rfl⟩:=Zq.mp hz
 obtain⟨a,b⟩:=cW (x:=y) hm
 omega
theorem Nh{φ:FF}(hφ:mF φ):isArrow (trunc (aJ 4 (iG φ))):=λx n k μ n1 n2 k0 k4=>by
 obtain⟨zs,e1,hl,hz⟩:=MP hφ 5 (by decide) (by decide) x (bO 0 n.toNat) μ (bO 0 n.toNat) (λi hi=>by
  obtain⟨j,rfl,j0,j1⟩:=wj hi
  exact⟨j,rfl,by omega,by omega⟩)
 rw[cu]at hl
 have rn:=qW (j:=n) (μ:=μ) (by omega) (by omega)
 have zn:n.toNat<=1000:=by omega
 have zz:(zs.map D.int).length<=1000:=by simp;omega
 have ms:=λm s hm=>Lx m s hm (zs.map .int) μ zs
 have hk:k=0∨k=1∨k=2∨k=3∨k=4:=by omega
 rcases hk with rfl|rfl|rfl|rfl|rfl
 .refine⟨zs.map λz=>z.fmod 7-3,bJ ?_,by simp[hl],Ef (B:=10) (by decide) (by decide) (by decide) (by decide)⟩
  have e2:=ms 7 3 (by decide)
  unfold aV
  generalize (zs.map λz=>z.fmod 7-3).map D.int=W at *
  generalize zs.map D.int=Z at *
  simp[iG,rn,cu,zn,bZ,e1,zz,e2]
 .refine⟨zs.map λz=>z.fmod 41-20,bJ ?_,by simp[hl],Ef (B:=40) (by decide) (by decide) (by decide) (by decide)⟩
  have e2:=ms 41 20 (by decide)
  unfold aV
  generalize (zs.map λz=>z.fmod 41-20).map D.int=W at *
  generalize zs.map D.int=Z at *
  simp[iG,rn,cu,zn,bZ,e1,zz,e2]
 .refine⟨zs.map λz=>z.fmod 2000001-1000000,bJ ?_,by simp[hl],Ef (B:=1000000) (by decide) (by decide) (by decide) (by decide)⟩
  have e2:=ms 2000001 1000000 (by decide)
  unfold aV
  generalize (zs.map λz=>z.fmod 2000001-1000000).map D.int=W at *
  generalize zs.map D.int=Z at *
  simp[iG,rn,cu,zn,bZ,e1,zz,e2]
 .cases zs with
  |nil=>simp at hl;omega
  |cons z0 zs=>
   obtain⟨a0,a1⟩:=cW (x:=z0) (m:=9) (by decide)
   refine⟨(1+z0.fmod 9)::zs.map λz=>z.fmod 11-5,bJ ?_,by simpa using hl,λz hz'=>?_⟩
   .have e2:=Lx 11 5 (by decide) (zs.map .int) μ zs
    have z2:(zs.map D.int).length<=1000:=by simp at hl ⊢;omega
    have z3:(zs.map λz=>z.fmod 11-5).length+1<=sizeLine:=szl (by simp at hl ⊢;omega)
    have at0:atI ((z0::zs).map D.int) 0=some (.int z0):=by unfold atI ixN;simp
    have sl:oSl (.lst ((z0::zs).map D.int)) (some 1) none μ=some (.lst (zs.map D.int),μ):=wF (ds:=(z0::zs).map D.int) (i:=1) (μ:=μ) (by decide)
    have ad:cN (.lst [.int (1+z0.fmod 9)]) (.lst ((zs.map λz=>z.fmod 11-5).map D.int)) μ=some (aV ((1+z0.fmod 9)::zs.map λz=>z.fmod 11-5),μ):=if_pos (szl (by simp at hl ⊢;omega))
    generalize aV ((1+z0.fmod 9)::zs.map λz=>z.fmod 11-5)=R at *
    generalize (zs.map λz=>z.fmod 11-5).map D.int=W at *
    generalize (z0::zs).map D.int=Z at *
    generalize zs.map D.int=Z' at *
    simp[iG,rn,cu,zn,bZ,e1,at0,sl,z2,e2,ad]
   .rcases Zi.mp hz' with h|h
    .rw[h];omega
    .exact Ef (B:=20) (by decide) (by decide) (by decide) (by decide) z h
 .cases zs with
  |nil=>simp at hl;omega
  |cons z0 zs=>
   obtain⟨a0,a1⟩:=cW (x:=z0.fdiv 9) (m:=2) (by decide)
   obtain⟨b0,b1⟩:=cW (x:=z0) (m:=5) (by decide)
   have hmul:0<=(z0.fdiv 9).fmod 2*z0.fmod 5/\(z0.fdiv 9).fmod 2*z0.fmod 5<=4:=by
    have:(z0.fdiv 9).fmod 2=0∨(z0.fdiv 9).fmod 2=1:=by omega
    rcases this with h|h<;>rw[h]<;>omega
   have em:=bV (x:=(z0.fdiv 9).fmod 2) (y:=z0.fmod 5) μ (vU (b:=4) 5 (by omega) (by decide)) (vU (b:=4) 5 (by omega) (by decide)) (by decide)
   have ed:=Ak (i:=z0) (j:=9) (μ:=μ) (by decide) (by decide)
   refine⟨(3+(z0.fdiv 9).fmod 2*z0.fmod 5)::zs.map λz=>z.fmod 9-4,bJ ?_,by simpa using hl,λz hz'=>?_⟩
   .have e2:=Lx 9 4 (by decide) (zs.map .int) μ zs
    have z2:(zs.map D.int).length<=1000:=by simp at hl ⊢;omega
    have at0:atI ((z0::zs).map D.int) 0=some (.int z0):=by unfold atI ixN;simp
    have sl:oSl (.lst ((z0::zs).map D.int)) (some 1) none μ=some (.lst (zs.map D.int),μ):=wF (ds:=(z0::zs).map D.int) (i:=1) (μ:=μ) (by decide)
    have ad:cN (.lst [.int (3+(z0.fdiv 9).fmod 2*z0.fmod 5)]) (.lst ((zs.map λz=>z.fmod 9-4).map D.int)) μ=some (aV ((3+(z0.fdiv 9).fmod 2*z0.fmod 5)::zs.map λz=>z.fmod 9-4),μ):=if_pos (szl (by simp at hl ⊢;omega))
    generalize aV ((3+(z0.fdiv 9).fmod 2*z0.fmod 5)::zs.map λz=>z.fmod 9-4)=R at *
    generalize (zs.map λz=>z.fmod 9-4).map D.int=W at *
    generalize (z0::zs).map D.int=Z at *
    generalize zs.map D.int=Z' at *
    simp[iG,rn,cu,zn,bZ,e1,at0,sl,z2,e2,ed,em,ad]
   .rcases Zi.mp hz' with h|h
    .rw[h];omega
    .exact Ef (B:=20) (by decide) (by decide) (by decide) (by decide) z h
theorem GJ{φ:FF}(hφ:mF φ)(x:Int)(all:List D)(μ:Mu):∀(js:List Nat),(∀j∈js,j<100)->∃kss:List (List Int),
  lcL ⟨all,none⟩ (hName 0) aQ (MC (aj (MC (aj (ao 1) (aj (M2 (ao 0) (mC (.int 9)) cN) (au))) φ) (aj (ao 0) (au))) oTup) [none,some (.int x)] (js.map λ(j:Nat)=>D.int (0+(j:Int))) μ=some (kss.map aG,μ)/\kss.length=js.length/\∀i,i<js.length->∃r,kss.getD i []=[r,(js.getD i 0:Int)]/\Dr r
 | [],_=>⟨[],by unfold lcL;simp[bD],rfl,λi hi=>absurd hi (by simp)⟩
 |j::js,hj=>by
  have j1:=hj j (by simp)
  obtain⟨r,er,hr⟩:=hφ x ((j:Int)+9) μ (by omega) (by omega)
  obtain⟨kss,e,hl,hz⟩:=GJ hφ x all μ js λi hi=>hj i (by simp[hi])
  refine⟨[r,(j:Int)]::kss,?_,by simp[hl],λi hi=>?_⟩
  .have e0:(0:Int)+(j:Int)=j:=by omega
   rw[Zj,e0]
   generalize (js.map λ(j:Nat)=>D.int (0+(j:Int)))=JS at *
   generalize (j:Int)=jj at *
   unfold lcL
   simp[bD,aQ,er,e,aG]
  .cases i with
   |zero=>exact⟨r,rfl,hr⟩
   |succ i=>exact hz i (by simpa using hi)
def Gk(φ:FF):Prop:=∀(x n:Int)(rows:List (List Int))(b:Nat)(μ:Mu),1<=n->n<=20->rows.length<=100->b<=1000->(∀r∈rows,r.length=n.toNat/\∀z∈r,Sm b z)->
 ∃rs:List (List Int),φ [.int x,.lst (rows.map aV),.int n] μ=some (.lst (rs.map aG),μ)/\rs.length=rows.length/\∀r∈rs,r.length=n.toNat/\∀z∈r,Sm (b+2) z
theorem wM{kss:List (List Int)}{n:Nat}(hl:kss.length=n)(h1:1<=n)(h64:n<64)(hk:∀i,i<n->∃r,kss.getD i []=[r,(i:Int)]/\Dr r):∃oss:List (List Int),zB (kss.map aG)=some (oss.map aG)/\oss.length=n/\∀o∈oss,∃(r:Int)(k:Nat),o=[r,(k:Int)]/\k<n/\Dr r:=by
 have hlen:(kss.map aG).length=n:=by simp[hl]
 have hI:rP (kss.map aG)=none:=by
  cases kss with
  |nil=>simp at hl;omega
  |cons a b=>rfl
 have hR:yC (kss.map aG)=some kss:=CN kss
 have hln:∀ks∈kss,ks.length=2:=λks h=>by
  obtain⟨i,hi,e⟩:=List.getElem_of_mem h
  obtain⟨r,e2,_⟩:=hk i (by omega)
  have:kss.getD i []=ks:=by rw[<-e];simp[List.getD,hi]
  rw[<-this,e2];rfl
 have hE:NT kss=true:=by
  unfold NT
  rw[List.all_eq_true]
  intro ks h
  have h2:=hln ks h
  cases kss with
  |nil=>cases h
  |cons a b=>
   have:=hln a (by simp)
   simp[h2,this]
 refine⟨(uH (λi j=>HT.lexLt (kss.getD i []) (kss.getD j [])) n).map λi=>kss.getD i [],?_,by rw[Zu,pR],λo ho=>?_⟩
 .unfold zB
  rw[if_pos (by omega),hI,hR]
  simp only[hE,if_true,hlen]
  congr 1
  rw[List.map_map]
  apply List.map_congr_left
  intro i hi
  have hin:i<n:=List.mem_range.mp ((uO _ n).mem_iff.mp hi)
  simp[List.getD,hl,hin]
 .obtain⟨i,hi,rfl⟩:=Zq.mp ho
  have hin:i<n:=List.mem_range.mp ((uO _ n).mem_iff.mp hi)
  obtain⟨r,e,hr⟩:=hk i hin
  exact⟨r,i,e,hin,hr⟩
def qd(o:List Int):Int:=1-2*((o.getD 0 0).fdiv 3).fmod 2
def qj(n:Nat)(sg:List Int)(oss:List (List Int))(r:List Int):List Int:=(List.range n).map λk=>sg.getD k 0*r.getD ((oss.getD k []).getD 1 0).toNat 0
theorem Qx{φ:FF}(hφ:mF φ):Gk (trunc (aJ 5 (gn φ))):=λx n rows b μ n1 n2 hrl hb hr=>by
 obtain⟨kss,e1,hkl,hkk⟩:=GJ hφ x (bO 0 n.toNat) μ (List.range n.toNat) (λj hj=>by have:=List.mem_range.mp hj;omega)
 have e1:lcL ⟨bO 0 n.toNat,none⟩ (hName 0) aQ (MC (aj (MC (aj (ao 1) (aj (M2 (ao 0) (mC (.int 9)) cN) (au))) φ) (aj (ao 0) (au))) oTup) [none,some (.int x)] (bO 0 n.toNat) μ=some (kss.map aG,μ):=e1
 rw[List.length_range]at hkl hkk
 obtain⟨oss,e2,hol,ho⟩:=wM (n:=n.toNat) hkl (by omega) (by omega) (λi hi=>by
  obtain⟨r,e,h⟩:=hkk i hi
  refine⟨r,?_,h⟩
  rw[e]
  simp[List.getD,hi])
 have rn:=λμ=>qW (j:=n) (μ:=μ) (by omega) (by omega)
 have zn:n.toNat<=1000:=by omega
 have zo:(oss.map aG).length<=1000:=by simp;omega
 have e3:=bW (all:=oss.map aG) (h:=hName 0) (fe:=M2 (mC (.int 1)) (M2 (mC (.int 2)) (M2 (M2 (M2 (ao 0) (mC (.int 0)) oIx) (mC (.int 3)) oDiv) (mC (.int 2)) oMod) cF) jg) (δb:=[none]) (F:=aG) (f:=λo=>.int (qd o)) (μ:=μ) oss λo h=>by
  obtain⟨r,k,rfl,hk,hrr⟩:=ho o h
  have at0:atI ([r,(k:Int)].map D.int) 0=some (.int r):=by unfold atI ixN;simp
  have ed:=Ak (i:=r) (j:=3) (μ:=μ) (by decide) (by decide)
  obtain⟨a0,a1⟩:=cW (x:=r.fdiv 3) (m:=2) (by decide)
  have em:=bV (x:=2) (y:=(r.fdiv 3).fmod 2) μ (vU (b:=4) 5 (by decide) (by decide)) (vU (b:=4) 5 (by omega) (by decide)) (by decide)
  refine⟨[some (aG [r,(k:Int)])],by simp,?_⟩
  unfold qd
  have ei:bC (aG [r,(k:Int)]) μ=some ([r,(k:Int)].map D.int):=rfl
  generalize [r,(k:Int)].map D.int=RR at *
  generalize aG [r,(k:Int)]=RD at *
  simp[ei,at0,ed,em]
 have e3':oss.map (λo=>D.int (qd o))=(oss.map qd).map D.int:=by simp
 rw[e3']at e3
 have hsg:∀k,k<n.toNat->(oss.map qd).getD k 0=1∨(oss.map qd).getD k 0= -1:=λk hk=>by
  have:(oss.map qd).getD k 0=qd (oss.getD k []):=by simp[List.getD,hol,hk]
  rw[this]
  unfold qd
  obtain⟨a0,a1⟩:=cW (x:=((oss.getD k []).getD 0 0).fdiv 3) (m:=2) (by decide)
  omega
 have hsl:(oss.map qd).length=n.toNat:=by simp[hol]
 have hoD:∀k,k<n.toNat->∃(r:Int)(j:Nat),oss.getD k []=[r,(j:Int)]/\j<n.toNat:=λk hk=>by
  have:oss.getD k []=oss[k]:=by simp[List.getD,hol,hk]
  obtain⟨r,j,e,hj,_⟩:=ho oss[k] (List.getElem_mem _)
  exact⟨r,j,by rw[this,e],hj⟩
 generalize oss.map qd=sg at *
 have e4:∀r∈rows,lcL ⟨bO 0 n.toNat,none⟩ (hName 0) aQ (M2 (M2 (ao 1) (ao 0) oIx) (M2 (ao 2) (M2 (M2 (ao 3) (ao 0) oIx) (mC (.int 1)) oIx) oIx) cF) [none,some (.lst (sg.map .int)),some (aV r),some (.lst (oss.map aG))] (bO 0 n.toNat) μ=some ((qj n.toNat sg oss r).map .int,μ):=λr hrm=>by
  obtain⟨hlr,hsr⟩:=hr r hrm
  have e:=bW (all:=bO 0 n.toNat) (h:=hName 0) (fe:=M2 (M2 (ao 1) (ao 0) oIx) (M2 (ao 2) (M2 (M2 (ao 3) (ao 0) oIx) (mC (.int 1)) oIx) oIx) cF) (δb:=[none,some (.lst (sg.map .int)),some (aV r),some (.lst (oss.map aG))]) (F:=λk:Nat=>D.int (0+(k:Int))) (f:=λk=>.int (sg.getD k 0*r.getD ((oss.getD k []).getD 1 0).toNat 0)) (μ:=μ) (List.range n.toNat) λk hk=>by
   have hk:=List.mem_range.mp hk
   obtain⟨rr,j,eo,hj⟩:=hoD k hk
   have a1:=(iu (ys:=sg) (k:=0+(k:Int)) (by omega) (by omega)).1
   have a2:=(gR (F:=aG) (l:=oss) (k:=0+(k:Int)) (z:=[]) (by omega) (by omega)).1
   rw[show(0+(k:Int)).toNat=k by omega]at a1 a2
   rw[eo]at a2
   have a3:atI ([rr,(j:Int)].map D.int) 1=some (.int j):=by unfold atI ixN;simp
   obtain⟨a4,hm⟩:=iu (ys:=r) (k:=(j:Int)) (by omega) (by omega)
   rw[show((j:Int)).toNat=j by omega]at a4 hm
   have e5:(oss.getD k []).getD 1 0=(j:Int):=by rw[eo];rfl
   rw[e5,show((j:Int)).toNat=j by omega]
   have hs1:Sm 1 (sg.getD k 0):=by
    unfold Sm
    rcases hsg k hk with h|h<;>rw[h]<;>decide
   have em:=bV (x:=sg.getD k 0) (y:=r.getD j 0) μ hs1 (hsr _ hm) (by omega)
   have ei:bC (aG [rr,(j:Int)]) μ=some ([rr,(j:Int)].map D.int):=rfl
   have el:bC (aV r) μ=some (r.map D.int):=rfl
   refine⟨[some (.int (0+(k:Int))),some (.lst (sg.map .int)),some (aV r),some (.lst (oss.map aG))],by simp,?_⟩
   generalize (0+(k:Int))=kk at *
   generalize sg.getD k 0=sk at *
   generalize r.getD j 0=rj at *
   generalize sg.map D.int=sgD at *
   generalize aV r=rD at *
   generalize r.map D.int=rI at *
   generalize oss.map aG=oD at *
   generalize [rr,(j:Int)].map D.int=RR at *
   generalize aG [rr,(j:Int)]=RD at *
   generalize (j:Int)=jj at *
   simp[a1,a2,ei,a3,el,a4,em]
  have e':(List.range n.toNat).map (λk=>D.int (sg.getD k 0*r.getD ((oss.getD k []).getD 1 0).toNat 0))=(qj n.toNat sg oss r).map .int:=by unfold qj;rw[List.map_map];rfl
  rw[e']at e
  exact e
 have e6:=bW (all:=rows.map aV) (h:=hName 0) (fe:=MC (aj (mFz (lLC ["_law_k"] [2,0,3] (bN (aj (ao 1) (au))) (hName 0) (aQ) (M2 (M2 (ao 1) (ao 0) oIx) (M2 (ao 2) (M2 (M2 (ao 3) (ao 0) oIx) (mC (.int 1)) oIx) oIx) cF))) (au)) gG) (δb:=[none,some (.int n),some (.lst (sg.map .int)),some (.lst (oss.map aG))]) (F:=aV) (f:=λr=>aG (qj n.toNat sg oss r)) (μ:=μ) rows λr hrm=>by
  have e:=e4 r hrm
  refine⟨[some (aV r),some (.int n),some (.lst (sg.map .int)),some (.lst (oss.map aG))],by simp,?_⟩
  unfold aG at e ⊢
  generalize (qj n.toNat sg oss r).map D.int=TV at *
  generalize sg.map D.int=sgD at *
  generalize aV r=rD at *
  generalize oss.map (λr=>D.tup (r.map .int))=oD at *
  simp[rn,cu,zn,bZ,e]
 have e6':rows.map (λr=>aG (qj n.toNat sg oss r))=(rows.map (qj n.toNat sg oss)).map aG:=by simp
 rw[e6']at e6
 refine⟨rows.map (qj n.toNat sg oss),bJ ?_,by simp,λr h=>?_⟩
 .have zr:(rows.map aV).length<=1000:=by simp;omega
  generalize (rows.map (qj n.toNat sg oss)).map aG=RES at *
  generalize kss.map aG=KD at *
  generalize oss.map aG=OD at *
  generalize sg.map D.int=sgD at *
  generalize rows.map aV=RW at *
  simp[gn,rn,cu,zn,bZ,e1,e2,zo,e3,zr,e6]
 .obtain⟨r0,hr0,rfl⟩:=Zq.mp h
  obtain⟨hl0,hs0⟩:=hr r0 hr0
  refine⟨by unfold qj;simp,λz hz=>?_⟩
  unfold qj at hz
  obtain⟨k,hk,rfl⟩:=Zq.mp hz
  have hk:=List.mem_range.mp hk
  obtain⟨rr,j,eo,hj⟩:=hoD k hk
  have e5:(oss.getD k []).getD 1 0=(j:Int):=by rw[eo];rfl
  rw[e5,show((j:Int)).toNat=j by omega]
  have hm:r0.getD j 0∈r0:=by
   have:r0.getD j 0=r0[j]:=by simp[List.getD,hl0,hj]
   rw[this];exact List.getElem_mem _
  have hs1:Sm 1 (sg.getD k 0):=by
   unfold Sm
   rcases hsg k hk with h|h<;>rw[h]<;>decide
  exact cU (nR hs1 (hs0 _ hm)) (by omega)
def jA(n:Int)(b:Nat)(rows:List (List Int)):Prop:=∀r∈rows,r.length=n.toNat/\∀z∈r,Sm b z
theorem LQ{φ1 φ2:FF}(h1:jY φ1)(h2:isArrow φ2)(n kd:Int)(n1:1<=n)(n2:n<=20)(all:List D)(rest:Mu):∀(its:List D)(L:List Int),DlD L->∃(rows:List (List Int))(L':List Int),
  lcL ⟨all,none⟩ (hName 0) aQ (MC (aj (MC (aj (ao 1) (au)) φ1) (aj (ao 2) (aj (M2 (ao 3) (mC (.int 5)) oMod) (au)))) φ2) [none,some (.cell 0),some (.int n),some (.int kd)] its (some (L.map .int)::rest)=some (rows.map aV,some (L'.map .int)::rest)/\DlD L'/\rows.length=its.length/\jA n 20 rows
 | [],L,hL=>⟨[],L,by unfold lcL;simp[bD],hL,rfl,λr h=>by cases h⟩
 |i::its,L,hL=>by
  obtain⟨x,L1,e1,hx,hL1⟩:=jC h1 hL rest
  obtain⟨a0,a1⟩:=cW (x:=kd) (m:=5) (by decide)
  obtain⟨r,e2,hr1,hr2⟩:=h2 x n (kd.fmod 5) (some (L1.map .int)::rest) n1 n2 a0 (by omega)
  obtain⟨rows,L',e,hL',hl,hq⟩:=LQ h1 h2 n kd n1 n2 all rest its L1 hL1
  refine⟨r::rows,L',?_,hL',by simp[hl],λq hq'=>?_⟩
  .unfold lcL
   simp[bD,aQ,e1,e2,e]
  .rcases Zi.mp hq' with z|z
   .rw[z];exact⟨hr1,λy hy=>vU 1000001 (by have:=hr2 y hy;omega) (by decide)⟩
   .exact hq q z
theorem Tw{c:Nat}{ds:List D}{i:Int}{μ:Mu}(hc:μ[c]? =some (some ds))(h0:0<=i):oSl (.cell c) none (some i) μ=some (.lst (ds.take i.toNat),μ):=by
 have:=VJ (ds:=ds) (i:=i) (μ:=μ) h0
 unfold oSl at this ⊢
 simp only[hc]
 exact this
theorem ql{φ3:FF}(h3:Gk φ3)(q n:Int)(RR:List (List Int))(L2:List Int)(μ:Mu)(n1:1<=n)(n2:n<=20)(hne:RR≠[])(hl:RR.length<=40)(hR:jA n 30 RR):∃rs:List (List Int),φ3 [.int q,.lst (RR.map aV),.int n] μ=some (.lst (rs.map aG),μ)/\rs≠[]/\rs.length<=40/\jA n 40 rs:=by
 obtain⟨rs,e,hl',hs⟩:=h3 q n RR 30 μ n1 n2 (by omega) (by decide) hR
 refine⟨rs,e,?_,by omega,λr h=>⟨(hs r h).1,λz hz=>cU ((hs r h).2 z hz) (by decide)⟩⟩
 intro z
 rw[z]at hl'
 cases RR with
 |nil=>exact hne rfl
 |cons a b=>cases hl'
theorem VP(all:List D)(μ:Mu)(rows:List (List Int))(hr:∀r∈rows,r.length<=1000):lcL ⟨all,none⟩ (hName 0) aQ (mFz (lLC ["_law_one"] [] (cI (ao 0)) (hName 0) (aQ) (M2 (mC (.int 0)) (ao 0) jg))) [none] (rows.map aV) μ=some ((rows.map λr=>r.map λz=>0-z).map aV,μ):=by
 have e:=bW (all:=all) (h:=hName 0) (fe:=mFz (lLC ["_law_one"] [] (cI (ao 0)) (hName 0) (aQ) (M2 (mC (.int 0)) (ao 0) jg))) (δb:=[none]) (F:=aV) (f:=λr=>aV (r.map λz=>0-z)) (μ:=μ) rows λr hrm=>by
  refine⟨[some (aV r)],by simp,?_⟩
  have e2:=bW (all:=r.map D.int) (h:=hName 0) (fe:=M2 (mC (.int 0)) (ao 0) jg) (δb:=[none]) (F:=D.int) (f:=λz=>.int (0-z)) (μ:=μ) r λz _=>⟨[some (.int z)],by simp,by simp only[Wl,w_c,VL,Option.bind_some,Er]⟩
  have e3:r.map (λz=>D.int (0-z))=(r.map λz=>0-z).map D.int:=by simp
  rw[e3]at e2
  have hz:(r.map D.int).length<=1000:=by rw[Zu];exact hr r hrm
  unfold aV
  generalize (r.map λz=>0-z).map D.int=W at *
  generalize r.map D.int=Z at *
  simp[hz,bZ,e2]
 rw[e,List.map_map]
 rfl
theorem Fj{b:Nat}{z:Int}(h:Sm b z):Sm b (0-z):=by unfold Sm at *;omega
theorem wu{b:Nat}:∀(l:List Int),(∀z∈l,Sm b z)->l.sum.natAbs<=l.length*2 ^ b
 | [],_=>by simp
 |z::l,h=>by
  have ih:=wu l λy hy=>h y (by simp[hy])
  have hz:z.natAbs<2 ^ b:=h z (by simp)
  rw[List.sum_cons,List.length_cons,Nat.succ_mul]
  have:=Int.natAbs_add_le z l.sum
  omega
def oM(n:Nat)(rows:List (List Int)):List Int:=(List.range n).map λk=>0-(rows.map λr=>r.getD k 0).sum
theorem Ti{c:Nat}(n:Nat)(all:List D)(μ:Mu)(rows:List (List Int))(hc:μ[c]? =some (some (rows.map aV)))(hl:rows.length<=1000)(hr:∀r∈rows,r.length=n):
  lcL ⟨all,none⟩ (hName 0) aQ (M2 (mC (.int 0)) (uP (mJ (mFz (lLC ["_law_row"] [0] (cI (ao 1)) (hName 0) (aQ) (M2 (ao 0) (ao 1) oIx))))) jg) [none,some (.cell c)] (bO 0 n) μ=some ((oM n rows).map .int,μ):=by
 have e:=bW (all:=all) (h:=hName 0) (fe:=M2 (mC (.int 0)) (uP (mJ (mFz (lLC ["_law_row"] [0] (cI (ao 1)) (hName 0) (aQ) (M2 (ao 0) (ao 1) oIx))))) jg) (δb:=[none,some (.cell c)]) (F:=λk:Nat=>D.int (0+(k:Int))) (f:=λk=>.int (0-(rows.map λr=>r.getD k 0).sum)) (μ:=μ) (List.range n) λk hk=>by
  have hk:=List.mem_range.mp hk
  refine⟨[some (.int (0+(k:Int))),some (.cell c)],by simp,?_⟩
  have e2:=wA (h:=hName 0) (fe:=M2 (ao 0) (ao 1) oIx) (δb:=[none,some (.int (0+(k:Int)))]) (F:=aV) (f:=λr=>.int (r.getD k 0)) hc rows λr hrm=>by
   have a1:=(iu (ys:=r) (k:=0+(k:Int)) (by omega) (by rw[hr r hrm];omega)).1
   rw[show(0+(k:Int)).toNat=k by omega]at a1
   have el:bC (aV r) μ=some (r.map D.int):=rfl
   refine⟨[some (aV r),some (.int (0+(k:Int)))],by simp,?_⟩
   generalize (0+(k:Int))=kk at *
   generalize r.map D.int=rI at *
   generalize aV r=rD at *
   simp[el,a1]
  have e3:rows.map (λr=>D.int (r.getD k 0))=(rows.map λr=>r.getD k 0).map D.int:=by simp
  rw[e3]at e2
  have es:=sum_ints μ (rows.map λr=>r.getD k 0) 0
  rw[Int.zero_add]at es
  have esrc:srcOf (.cell c) μ=some ⟨rows.map aV,some c⟩:=by show(match μ[c]? with|some (some ds)=>some (⟨ds,some c⟩:Src)|_=>none)=_;rw[hc]
  have hz:(rows.map aV).length<=1000:=by rw[Zu];exact hl
  generalize (rows.map λr=>r.getD k 0).sum=S at *
  generalize (rows.map λr=>r.getD k 0).map D.int=W at *
  generalize rows.map aV=RD at *
  generalize (0+(k:Int))=kk at *
  have efz:dj (.lst W)=some W:=rfl
  have a0:jg (.int 0) (.int S) μ=some (.int (0-S),μ):=Er
  generalize (0-S)=S' at *
  simp[esrc,hz,bZ,e2,es,a0,-Er]
 have e':(List.range n).map (λk=>D.int (0-(rows.map λr=>r.getD k 0).sum))=(oM n rows).map .int:=by unfold oM;rw[List.map_map];rfl
 rw[e']at e
 exact e
theorem Rx{c:Nat}(r0:List Int)(μ:Mu)(rows:List (List Int))(hc:μ[c]? =some (some ((r0::rows).map aV))):lcL ⟨(r0::rows).map aV,some c⟩ (hName 0) aQ (M2 (ao 1) (mC (.int 0)) oIx) [none,some (.cell c)] ((r0::rows).map aV) μ=some (((r0::rows).map λ_=>r0).map aV,μ):=by
 have e:=wA (h:=hName 0) (fe:=M2 (ao 1) (mC (.int 0)) oIx) (δb:=[none,some (.cell c)]) (F:=aV) (f:=λ_=>aV r0) hc (r0::rows) λr _=>by
  have ei:bC (.cell c) μ=some ((r0::rows).map aV):=by show(match μ[c]? with|some (some ds)=>some ds|_=>none)=_;rw[hc]
  have a0:atI ((r0::rows).map aV) 0=some (aV r0):=by unfold atI ixN;simp
  refine⟨[some (aV r),some (.cell c)],by simp,?_⟩
  generalize (r0::rows).map aV=RD at *
  generalize aV r=rD at *
  simp[ei,a0]
 rw[e,List.map_map]
 rfl
def jO(j:Nat)(r:List Int):List Int:=r.map λz=>((0+(j:Int)).fmod 5+1)*z
theorem TX{c:Nat}(m:Nat)(r0:List Int)(all:List D)(μ:Mu)(rows:List (List Int))(hc:μ[c]? =some (some ((r0::rows).map aV)))(hl:r0.length<=1000)(hs:∀z∈r0,Sm 20 z):
  lcL ⟨all,none⟩ (hName 0) aQ (mFz (lLC ["_law_one"] [0] (cI (M2 (ao 1) (mC (.int 0)) oIx)) (hName 0) (aQ) (M2 (M2 (M2 (ao 1) (mC (.int 5)) oMod) (mC (.int 1)) cN) (ao 0) cF))) [none,some (.cell c)] (bO 0 m) μ=some (((List.range m).map λj=>jO j r0).map aV,μ):=by
 have e:=bW (all:=all) (h:=hName 0) (fe:=mFz (lLC ["_law_one"] [0] (cI (M2 (ao 1) (mC (.int 0)) oIx)) (hName 0) (aQ) (M2 (M2 (M2 (ao 1) (mC (.int 5)) oMod) (mC (.int 1)) cN) (ao 0) cF))) (δb:=[none,some (.cell c)]) (F:=λk:Nat=>D.int (0+(k:Int))) (f:=λj=>aV (jO j r0)) (μ:=μ) (List.range m) λj hj=>by
  have ei:bC (.cell c) μ=some ((r0::rows).map aV):=by show(match μ[c]? with|some (some ds)=>some ds|_=>none)=_;rw[hc]
  have a0:atI ((r0::rows).map aV) 0=some (aV r0):=by unfold atI ixN;simp
  obtain⟨f0,f1⟩:=cW (x:=0+(j:Int)) (m:=5) (by decide)
  have e2:=bW (all:=r0.map D.int) (h:=hName 0) (fe:=M2 (M2 (M2 (ao 1) (mC (.int 5)) oMod) (mC (.int 1)) cN) (ao 0) cF) (δb:=[none,some (.int (0+(j:Int)))]) (F:=D.int) (f:=λz=>.int (((0+(j:Int)).fmod 5+1)*z)) (μ:=μ) r0 λz hz=>by
   have em:=bV (x:=(0+(j:Int)).fmod 5+1) (y:=z) μ (vU (b:=4) 7 (by omega) (by decide)) (hs z hz) (by decide)
   refine⟨[some (.int z),some (.int (0+(j:Int)))],by simp,?_⟩
   generalize (0+(j:Int))=jj at *
   simp[em]
  have e3:r0.map (λz=>D.int (((0+(j:Int)).fmod 5+1)*z))=(jO j r0).map D.int:=by unfold jO;simp
  rw[e3]at e2
  have hz:(r0.map D.int).length<=1000:=by rw[Zu];exact hl
  refine⟨[some (.int (0+(j:Int))),some (.cell c)],by simp,?_⟩
  have esrc:srcOf (aV r0) μ=some ⟨r0.map D.int,none⟩:=rfl
  have ew:aV (jO j r0)= .lst ((jO j r0).map D.int):=rfl
  rw[ew]
  generalize (jO j r0).map D.int=W at *
  generalize (r0::rows).map aV=RD at *
  generalize r0.map D.int=Z at *
  generalize aV r0=rD at *
  generalize (0+(j:Int))=jj at *
  simp[ei,a0,esrc,hz,bZ,e2]
 have e':(List.range m).map (λj=>aV (jO j r0))=((List.range m).map λj=>jO j r0).map aV:=by rw[List.map_map];rfl
 rw[e']at e
 exact e
theorem lF{n:Int}{a b:Nat}{rows:List (List Int)}(h:jA n a rows)(hab:a<=b):jA n b rows:=λr hr=>⟨(h r hr).1,λz hz=>cU ((h r hr).2 z hz) hab⟩
theorem Ha{n:Int}{b:Nat}{rs:List (List Int)}{i:Nat}(h:jA n b rs)(hi:i<n.toNat):∀c∈col rs i,Sm b c:=λc hc=>by
 obtain⟨r,hr,rfl⟩:=Zq.mp hc
 have hl:=(h r hr).1
 have hk:i<r.length:=by omega
 have:r.getD i 0=r[i]:=by simp[List.getD,hk]
 rw[this]
 exact(h r hr).2 _ (List.getElem_mem hk)
def yz(φ:FF):Prop:=∀(n:Int)(rs:List (List Int))(ws:List Int)(μ:Mu),1<=n->n<=20->rs≠[]->jA n 40 rs->rs.length<=60->(∀w∈ws,Sm 9000 w)->φ [.lst (rs.map aG),.lst (ws.map .int)] μ=some (.lst (((List.range n.toNat).map λi=>dot ws (col rs i)).map .int),μ)
theorem yO{φ:FF}(hφ:La φ){n:Int}{rs:List (List Int)}{ws:List Int}{μ:Mu}(hr:jA n 40 rs)(hz1:rs.length<=1000)(hw:∀w∈ws,Sm 9000 w)(i:Nat)(hi:i<n.toNat):
  MC (aj (ao 1) (aj (mFz (lLC ["row"] [0] (cI (ao 2)) (hName 0) (aQ) (M2 (ao 0) (ao 1) oIx))) (au))) φ [some (.int (0+(i:Int))),some (.lst (ws.map .int)),some (.lst (rs.map aG))] μ=some (.int (dot ws (col rs i)),μ):=by
 have e1:=bW (all:=rs.map aG) (h:=hName 0) (fe:=M2 (ao 0) (ao 1) oIx) (δb:=[none,some (.int (0+(i:Int)))]) (F:=aG) (f:=λr=>.int (r.getD i 0)) (μ:=μ) rs λr h=>⟨_,rfl,by
  have hk:((0:Int)+i)<r.length:=by have:=(hr r h).1;omega
  obtain⟨a1,_⟩:=iu (ys:=r) (k:=0+(i:Int)) (by omega) hk
  have:(0+(i:Int)).toNat=i:=by omega
  rw[this]at a1
  generalize r.getD i 0=z at *
  generalize (0+(i:Int))=j at *
  simp[a1]⟩
 have e1':rs.map (λr=>D.int (r.getD i 0))=(col rs i).map D.int:=by unfold col;simp
 rw[e1']at e1
 have e2:=hφ ws (col rs i) μ hw λc hc=>cU (Ha hr hi c hc) (by decide)
 generalize (col rs i).map D.int=cD at *
 generalize dot ws (col rs i)=z at *
 generalize (0+(i:Int))=j at *
 simp[hz1,bZ,e1,e2]
theorem Eh{φ:FF}(hφ:La φ):yz (trunc (aJ 2 (lG φ))):=λn rs ws μ hd hd2 hne hr hl hw=>by
 apply bJ
 have hz1:rs.length<=1000:=by omega
 have e3:=bW (all:=bO 0 n.toNat) (h:=hName 0) (fe:=MC (aj (ao 1) (aj (mFz (lLC ["row"] [0] (cI (ao 2)) (hName 0) (aQ) (M2 (ao 0) (ao 1) oIx))) (au))) φ) (δb:=bZ ["at"] [some (.lst (rs.map aG)),some (.lst (ws.map .int))] [1,0]) (F:=λi:Nat=>D.int (0+(i:Int))) (f:=λi=>.int (dot ws (col rs i))) (μ:=μ) (List.range n.toNat) λi hi=>
  ⟨[some (.int (0+(i:Int))),some (.lst (ws.map .int)),some (.lst (rs.map aG))],by simp[bZ],yO hφ hr hz1 hw i (List.mem_range.mp hi)⟩
 have e3':(List.range n.toNat).map (λi=>D.int (dot ws (col rs i)))=((List.range n.toNat).map λi=>dot ws (col rs i)).map D.int:=by simp
 rw[e3']at e3
 have er:(List.range n.toNat).map (λi:Nat=>D.int (0+(i:Int)))=bO 0 n.toNat:=rfl
 rw[er]at e3
 have h0:∃r0,atI (rs.map aG) 0=some (aG r0)/\r0∈rs:=by
  obtain⟨a,b⟩:=gR (F:=aG) (l:=rs) (k:=0) (z:=[]) (by decide) (by have:=List.length_pos_iff.mpr hne;omega)
  exact⟨_,a,b⟩
 obtain⟨r0,a0,hr0⟩:=h0
 have hlen0:=(hr r0 hr0).1
 generalize ((List.range n.toNat).map λi=>dot ws (col rs i)).map D.int=wD at *
 have it:bN (aj (MC (aj (M2 (ao 0) (mC (.int 0)) oIx) (au)) (bu cJ)) (au)) [some (.lst (rs.map aG)),some (.lst (ws.map .int))] μ=some (⟨bO 0 n.toNat,none⟩,μ):=by
  have:=Vp (k:=(n.toNat:Int)) (by omega) (by omega) (Mz (F:=M2 (ao 0) (mC (.int 0)) oIx) (δ:=[some (.lst (rs.map aG)),some (.lst (ws.map .int))]) (μ:=μ) hlen0 (by simp[a0]))
  rwa[show((n.toNat:Int)).toNat=n.toNat by omega]at this
 have hz2:(bO 0 n.toNat).length<=sizeLine:=by rw[cu];exact Zl (by omega:_<=1000) (by decide)
 unfold lG
 generalize bN (aj (MC (aj (M2 (ao 0) (mC (.int 0)) oIx) (au)) (bu cJ)) (au))=IT at it ⊢
 simp[it,hz2,e3]
def Ax(φ:FF):Prop:=∀(ns:List Int)(b:Int)(μ:Mu),b≠0->(∀n∈ns++[b],Sm 4000 n)->ns.length<=50->φ [.lst (ns.map .int),.int b] μ=some (.tup ((rowOf (sgn b) (ns++[b])).map .int),μ)
theorem Kf{φ:FF}(hφ:Fi φ):Ax (aJ 3 (lE φ)):=λns b μ hb hs hl=>by
 have hsg:=BR b
 have e:lcL ⟨(ns++[b]).map D.int,none⟩ (hName 0) aQ (M2 (ao 1) (ao 0) cF) (bZ ["number"] [some (.lst (ns.map .int)),some (.int b),some (.int (sgn b))] [2]) ((ns++[b]).map D.int) μ=some (((ns++[b]).map D.int).map (λd=>match d with| .int n=>.int (sgn b*n)|_=>.non),μ):=by
  refine Br _ λd hd=>?_
  obtain⟨n,hn,rfl⟩:=Zq.mp hd
  have:=bV (x:=sgn b) (y:=n) (a:=1) (b:=4000) μ (by unfold Sm;rcases hsg with h|h<;>rw[h]<;>decide) (hs n hn) (by decide)
  exact⟨_,rfl,by simp[hName,bZ,M2,ao,this]⟩
 rw[List.map_map]at e
 have hm:∀n∈(ns++[b]).map (sgn b * ·),Sm 4000 n:=λn hn=>by
  obtain⟨m,hm,rfl⟩:=Zq.mp hn
  exact Ml hsg (hs m hm)
 have hmem:sgn b*b∈(ns++[b]).map (sgn b * ·):=Zq.mpr ⟨b,by simp,rfl⟩
 have hne:sgn b*b≠0:=by rcases hsg with h|h<;>rw[h]<;>omega
 have hg0:dR 0 ((ns++[b]).map (sgn b * ·))≠0:=yg (.inr ⟨_,hmem,hne⟩)
 have hgs:Sm 8000 (dR 0 ((ns++[b]).map (sgn b * ·)):Nat):=by
  have h1:=QK (g:=0) hmem hne
  have h2:=hm _ hmem
  unfold Sm at *
  have:(2:Nat) ^ 4000<=2 ^ 8000:=Nat.pow_le_pow_right (by decide) (by decide)
  simp only[Int.natAbs_natCast]
  omega
 have hL:=hφ ((ns++[b]).map (sgn b * ·)) μ hg0 hgs (by simp;omega)
 rw[List.map_map]at hL
 have hz:ns.length+1<=sizeLine:=Zl (by omega:ns.length+1<=100) (by decide)
 unfold aJ lE rowOf
 have hsign:∀x:D,mIf (toB (M2 (ao 1) (mC (.int 0)) oGt)) (mC (.int 1)) (M1 (mC (.int 1)) jc) [some x,some (.int b),none] μ=some (.int (sgn b),μ):=λx=>by
  unfold sgn
  by_cases hp:0<b
  .simp[mIf,toB,M2,ao,mC,oGt,hp]
  .simp[mIf,toB,M2,M1,jc,ao,mC,oGt,hp]
 have e':=e
 simp only[List.map_append,Zj,List.map_nil]at e' hL
 have e2:lcL { items:=List.map D.int ns++[D.int b],cel:=none} (hName 0) aQ (M2 (ao 1) (ao 0) cF) (bZ ["number"] [some (D.lst (List.map D.int ns)),some (D.int b),some (D.int (sgn b))] [2]) (List.map D.int ns++[D.int b]) μ=some (ns.map (λn=>D.int (sgn b*n))++[D.int (sgn b*b)],μ):=e'
 have hL2:φ [D.lst (ns.map (λn=>D.int (sgn b*n))++[D.int (sgn b*b)])] μ=_:=hL
 simp[aU,bz,hsign,bA,MC,aj,au,mFz,lLC,cI,Hj,bC,oTup,srcOf,hz,ao,e2,hL2,Function.comp_def]
def amL(n:Int)(rs:List (List Int))(sh:List (Int×Int)):List Int:=(List.range n.toNat).map λi=>dot (sh.map (·.2)) (col (rowsOf rs sh) i)
def amB(sh:List (Int×Int)):Int:=(sh.map (·.2)).sum
def amR(n:Int)(rs:List (List Int))(sh:List (Int×Int)):List Int:=rowOf (sgn (amB sh)) (amL n rs sh++[amB sh])
theorem xY{n:Int}{b:Nat}{ps:List (List Int)}{sh:List (Int×Int)}(hp:jA n b ps)(hs:Dp ps.length sh):jA n b (rowsOf ps sh):=λr hr=>by
 obtain⟨x,hx,rfl⟩:=Zq.mp hr
 obtain⟨h0,h1,_⟩:=hs x hx
 exact hp _ (gR (F:=aG) (l:=ps) (k:=x.1) (z:=[]) h0 h1).2
theorem Fe{n:Nat}{sh:List (Int×Int)}(hs:Dp n sh)(hne:sh≠[])(hl:sh.length<=60):1<=amB sh/\Sm 2010 (amB sh):=by
 have hss:∀s∈sh.map (·.2),1<=s/\Sm 2000 s:=λs h=>by
  obtain⟨x,hx,rfl⟩:=Zq.mp h
  exact⟨(hs x hx).2.2.1,(hs x hx).2.2.2⟩
 obtain⟨⟨s0,s1⟩,s2⟩:=JG (sh.map (·.2)) 2000 hss
 refine⟨s1 (by simpa using hne),?_⟩
 unfold amB
 unfold Sm
 rw[Zu]at s2
 have:sh.length*2 ^ 2000<2 ^ 10*2 ^ 2000:=Nat.mul_lt_mul_of_pos_right (by omega) (Nat.two_pow_pos _)
 rw[<-Nat.pow_add]at this
 omega
theorem sS{a b:Nat}{ws cs:List Int}(hw:∀w∈ws,Sm a w)(hc:∀c∈cs,Sm b c)(hl:ws.length<=60):Sm (a+b+10) (dot ws cs):=by
 have h:=wu (b:=a+b) ((ws.zip cs).map λp=>p.1*p.2) λz hz=>by
  obtain⟨⟨w,c⟩,hp,rfl⟩:=Zq.mp hz
  have hm:=List.of_mem_zip hp
  exact nR (hw w hm.1) (hc c hm.2)
 unfold dot
 generalize ((ws.zip cs).map λp=>p.1*p.2).sum=z at *
 rw[Zu,List.length_zip]at h
 unfold Sm
 have:min ws.length cs.length*2 ^ (a+b)<2 ^ 10*2 ^ (a+b):=Nat.mul_lt_mul_of_pos_right (by omega) (Nat.two_pow_pos _)
 rw[<-Nat.pow_add]at this
 rw[Nat.add_comm (a+b) 10]
 omega
theorem Kq{n:Int}{rs:List (List Int)}{sh:List (Int×Int)}(hr:jA n 40 rs)(hs:Dp rs.length sh)(hl:sh.length<=60):∀z∈amL n rs sh,Sm 2050 z:=λz hz=>by
 obtain⟨i,hi,rfl⟩:=Zq.mp hz
 exact sS (a:=2000) (b:=40) (λs h=>by
  obtain⟨x,hx,rfl⟩:=Zq.mp h
  exact(hs x hx).2.2.2) (Ha (xY hr hs) (List.mem_range.mp hi)) (by simpa using hl)
theorem vZ{n:Int}{rs:List (List Int)}{sh:List (Int×Int)}:(amL n rs sh).length=n.toNat:=by unfold amL;simp
def Aq(φ:FF):Prop:=∀(n:Int)(rs:List (List Int))(sh:List (Int×Int))(μ:Mu),1<=n->n<=20->jA n 40 rs->sh≠[]->sh.length<=60->Dp rs.length sh->φ [.lst (rs.map aG),.tup (sh.map pairD)] μ=some (aG (amR n rs sh),μ)
theorem Qh{φ1 φ2:FF}(h1:yz φ1)(h2:Ax φ2):Aq (trunc (aJ 4 (lU φ1 φ2))):=λn rs sh μ n1 n2 hr hne hl hs=>by
 apply bJ
 have hr':=xY hr hs
 have hss:∀s∈sh.map (·.2),Sm 9000 s:=λs h=>by
  obtain⟨x,hx,rfl⟩:=Zq.mp h
  exact cU (hs x hx).2.2.2 (by decide)
 have hl60:(rowsOf rs sh).length<=60:=by unfold rowsOf;simp;exact hl
 have hrne:rowsOf rs sh≠[]:=by unfold rowsOf;simpa using hne
 have e1:=bW (all:=sh.map pairD) (h:=jl 2 (bH (hName 0) (bH (hName 1) jf))) (fe:=M2 (ao 2) (ao 0) oIx) (δb:=[none,none,some (.lst (rs.map aG))]) (F:=pairD) (f:=λx=>aG (rs.getD x.1.toNat [])) (μ:=μ) sh λx hx=>by
  obtain⟨k,s⟩:=x
  obtain⟨k0,k1,_⟩:=hs _ hx
  refine⟨[some (.int k),some (.int s),some (.lst (rs.map aG))],by simp[pairD],?_⟩
  have:=(gR (F:=aG) (l:=rs) (k:=k) (z:=[]) k0 k1).1
  simp only at this ⊢
  generalize rs.getD k.toNat []=r at *
  simp[this]
 have e1':sh.map (λx=>aG (rs.getD x.1.toNat []))=(rowsOf rs sh).map aG:=by unfold rowsOf;simp
 rw[e1']at e1
 have e2:=bW (all:=sh.map pairD) (h:=jl 2 (bH (hName 0) (bH (hName 1) jf))) (fe:=ao 1) (δb:=[none,none]) (F:=pairD) (f:=λx=>.int x.2) (μ:=μ) sh λx hx=>⟨[some (.int x.1),some (.int x.2)],by simp[pairD],by simp⟩
 have e2':sh.map (λx=>D.int x.2)=(sh.map (·.2)).map D.int:=by simp
 rw[e2']at e2
 obtain⟨b1,b2⟩:=Fe hs hne hl
 have e3:=h1 n (rowsOf rs sh) (sh.map (·.2)) μ n1 n2 hrne hr' hl60 hss
 have e3:φ1 [.lst ((rowsOf rs sh).map aG),.lst ((sh.map (·.2)).map .int)] μ=some (.lst ((amL n rs sh).map .int),μ):=e3
 have e4:=h2 (amL n rs sh) (amB sh) μ (by omega) (λz hz=>by
  rcases Zm.mp hz with h|h
  .exact cU (Kq hr hs hl z h) (by decide)
  .rw[List.mem_singleton.mp h];exact cU b2 (by decide)) (by rw[vZ];omega)
 have e4:φ2 [.lst ((amL n rs sh).map .int),.int (amB sh)] μ=some (aG (amR n rs sh),μ):=e4
 have es:=uh (th:=thE) (F:=D.int) (g:=λz=>z) (μ:=μ) (sh.map (·.2)) 0 λx _=>rfl
 have es':(0:Int)+((sh.map (·.2)).map λz=>z).sum=amB sh:=by unfold amB;rw[Int.zero_add];simp[Function.comp_def]
 rw[es']at es
 generalize (sh.map (·.2)).map D.int=wD at *
 generalize (amL n rs sh).map D.int=aD at *
 generalize amB sh=B at *
 generalize aG (amR n rs sh)=R at *
 have hz:sh.length<=1000:=by omega
 unfold lU
 simp[hz,bZ,e1,e2,e3,es,e4]
theorem Th(n:Nat):(List.replicate n [D.int 0]).flatten=fnL n λ_=>0:=by
 unfold fnL
 induction n with
 |zero=>rfl
 |succ n ih=>
  rw[List.replicate_succ,List.flatten_cons,ih,List.range_succ_eq_map]
  simp
theorem Lh{x:Int×Int}{sh:List (Int×Int)}:amB (x::sh)=x.2+amB sh:=by unfold amB;simp
theorem Vo{rs:List (List Int)}{x:Int×Int}{sh:List (Int×Int)}{i:Nat}:dot ((x::sh).map (·.2)) (col (rowsOf rs (x::sh)) i)=x.2*(rs.getD x.1.toNat []).getD i 0+dot (sh.map (·.2)) (col (rowsOf rs sh) i):=by
 have e1:rowsOf rs (x::sh)=rs.getD x.1.toNat []::rowsOf rs sh:=rfl
 have e2:∀(r:List Int)(q:List (List Int)),col (r::q) i=r.getD i 0::col q i:=λr q=>rfl
 rw[e1,e2,Zj,qe]
def wz(φ:FF):Prop:=∀(n:Int)(rs:List (List Int))(sh:List (Int×Int))(μ:Mu),1<=n->n<=20->rs≠[]->jA n 40 rs->sh≠[]->sh.length<=60->Dp rs.length sh->φ [.lst (rs.map aG),.tup (sh.map pairD)] μ=some (aG (amR n rs sh),μ)
theorem Gd{n k s:Int}{rs:List (List Int)}{g:Nat->Int}{μ:Mu}(n1:1<=n)(n2:n<=20)(hr:jA n 40 rs)(k0:0<=k)(k1:k<rs.length)(hs:Sm 2000 s):
  lcL ⟨bO 0 n.toNat,none⟩ (hName 0) aQ (M2 (M2 (ao 1) (ao 0) oIx) (M2 (ao 2) (M2 (M2 (ao 3) (ao 4) oIx) (ao 0) oIx) cF) cN) [none,some (.lst (fnL n.toNat g)),some (.int s),some (.lst (rs.map aG)),some (.int k)] (bO 0 n.toNat) μ=some (fnL n.toNat (λi=>g i+s*(rs.getD k.toNat []).getD i 0),μ):=by
 obtain⟨ak,hmem⟩:=gR (F:=aG) (l:=rs) (k:=k) (z:=[]) k0 k1
 obtain⟨hlen,hsm⟩:=hr _ hmem
 generalize rs.getD k.toNat []=r at *
 have e:=bW (all:=bO 0 n.toNat) (h:=hName 0) (fe:=M2 (M2 (ao 1) (ao 0) oIx) (M2 (ao 2) (M2 (M2 (ao 3) (ao 4) oIx) (ao 0) oIx) cF) cN) (δb:=[none,some (.lst (fnL n.toNat g)),some (.int s),some (.lst (rs.map aG)),some (.int k)]) (F:=λi:Nat=>D.int (0+(i:Int))) (f:=λi=>.int (g i+s*r.getD i 0)) (μ:=μ) (List.range n.toNat) λi hi=>by
  have hi:=List.mem_range.mp hi
  refine⟨[some (.int (0+(i:Int))),some (.lst (fnL n.toNat g)),some (.int s),some (.lst (rs.map aG)),some (.int k)],by simp,?_⟩
  have ga:=VF (g:=g) hi
  have hk:((0:Int)+i)<r.length:=by omega
  obtain⟨a1,hm⟩:=iu (ys:=r) (k:=0+(i:Int)) (by omega) hk
  have:(0+(i:Int)).toNat=i:=by omega
  rw[this]at a1 hm
  have hz:=hsm _ hm
  generalize r.getD i 0=z at *
  have em:=bV (x:=s) (y:=z) μ hs hz (by decide)
  generalize g i=gi at *
  generalize fnL n.toNat g=GL at *
  generalize (0+(i:Int))=j at *
  simp[ga,ak,a1,em]
 have e':(List.range n.toNat).map (λi=>D.int (g i+s*r.getD i 0))=fnL n.toNat (λi=>g i+s*r.getD i 0):=by unfold fnL;simp
 rw[e']at e
 exact e
theorem Uw{n:Int}{δ:En}{μ:Mu}{r0:List Int}{F:EF}(h:F δ μ=some (aG r0,μ))(hl:r0.length=n.toNat)(n1:1<=n)(n2:n<=20):M2 (MC (aj (mC (.int 0)) (au)) oLst) (MC (aj F (au)) (bu cJ)) cF δ μ=some (.lst (fnL n.toNat λ_=>0),μ):=by
 have e1:MC (aj (mC (.int 0)) (au)) oLst δ μ=some (.lst [.int 0],μ):=by simp
 have e2:=Mz hl h
 rw[show((n.toNat:Nat):Int)=n by omega]at e2
 have e3:=mulL (ds:=[D.int 0]) (k:=n) (μ:=μ) (by omega) (by omega) (by simp;omega)
 rw[Th]at e3
 rw[Wl,e1]
 simp only[Option.bind_some]
 rw[e2]
 simp only[Option.bind_some]
 exact e3
theorem Mv{φ:FF}(hφ:JZ φ):wz (trunc (aJ 6 (jG φ))):=λn rs sh μ n1 n2 hrne hr hne hl hs=>by
 apply bJ
 obtain⟨b1,b2⟩:=Fe hs hne hl
 have h0:∃r0,atI (rs.map aG) 0=some (aG r0)/\r0∈rs:=by
  obtain⟨a,b⟩:=gR (F:=aG) (l:=rs) (k:=0) (z:=[]) (by decide) (by have:=List.length_pos_iff.mpr hrne;omega)
  exact⟨_,a,b⟩
 obtain⟨r0,a0,hr0⟩:=h0
 have hlen0:=(hr r0 hr0).1
 have eN:=Uw (F:=M2 (ao 0) (mC (.int 0)) oIx) (δ:=[some (.lst (rs.map aG)),some (.tup (sh.map pairD)),none,none,none,none]) (μ:=μ) (by simp[a0]) hlen0 n1 n2
 have elow:=hφ (amL n rs sh) (amB sh) μ (by omega) (cU b2 (by decide)) (by rw[vZ];omega) (λz=>by
  have:=vZ (n:=n) (rs:=rs) (sh:=sh)
  rw[z]at this;simp at this;omega)
 have eR:D.tup ((amL n rs sh++[amB sh]).map λz=>.int (z.fdiv (sgn (amB sh)*(dR (amB sh).natAbs (amL n rs sh):Nat))))=aG (amR n rs sh):=by
  unfold amR aG
  rw[HJ,List.map_map]
  rfl
 rw[eR]at elow
 generalize hRS:rs.map aG=RS at *
 unfold jG
 generalize M2 (MC (aj (mC (.int 0)) (au)) oLst) (MC (aj (M2 (ao 0) (mC (.int 0)) oIx) (au)) (bu cJ)) cF=Z at eN ⊢
 simp[eN]
 refine oF (λits δ μ'=>∃(xs:List (Int×Int))(g:Nat->Int)(t:Int)(o4 o5:Option D),its=xs.map pairD/\μ'=μ/\(∀i<n.toNat,g i+dot (xs.map (·.2)) (col (rowsOf rs xs) i)=dot (sh.map (·.2)) (col (rowsOf rs sh) i))/\t+amB xs=amB sh/\(∀x∈xs,x∈sh)/\δ=[some (.lst RS),some (.tup (sh.map pairD)),some (.lst (fnL n.toNat g)),some (.int t),o4,o5]) ?_ ?_ _ _ _ ⟨sh,λ_=>0,0,none,none,rfl,rfl,λi _=>by simp,by simp,λx h=>h,rfl⟩
 .rintro dd rest δ μ' ⟨xs,g,t,o4,o5,hi,rfl,hg,ht,hsub,rfl⟩
  cases xs with
  |nil=>cases hi
  |cons x xs=>
   obtain⟨k,s⟩:=x
   cases hi
   obtain⟨k0,k1,s1,s2⟩:=hs _ (hsub _ (List.mem_cons_self ..))
   simp only at k0 k1 s1 s2
   have e:=Gd (g:=g) (μ:=μ') n1 n2 hr k0 k1 s2
   rw[hRS]at e
   have lg:cJ (.lst (fnL n.toNat g)) μ'=some (.int n,μ'):=by rw[oN,Hh,show((n.toNat:Nat):Int)=n by omega]
   have rn:=qW (j:=n) (μ:=μ') (by omega) (by omega)
   have zr:(bO 0 n.toNat).length<=1000:=by rw[cu];omega
   rw[Lh]at ht
   simp only[Vo]at hg
   generalize hG:fnL n.toNat g=GL at *
   generalize hG2:fnL n.toNat (λi=>g i+s*(rs.getD k.toNat []).getD i 0)=GL2 at *
   generalize bO 0 n.toNat=RG at *
   simp[pairD,lg,rn,zr,bZ,e]
   refine⟨xs,rfl,_,λi hi=>?_,t+s,by simp only at ht;omega,λa b h=>hsub _ (List.mem_cons_of_mem _ h),hG2.symm,rfl⟩
   have:=hg i (by omega)
   omega
 .rintro δ μ' ⟨xs,g,t,o4,o5,hi,rfl,hg,ht,hsub,rfl⟩
  cases xs with
  |cons b ms=>cases hi
  |nil=>
  have e1:fnL n.toNat g=(amL n rs sh).map D.int:=by
   unfold fnL amL
   congr 1
   apply List.map_congr_left
   intro i hi
   have:=hg i (List.mem_range.mp hi)
   simpa[dot]using this
  have e2:t=amB sh:=by
   have:amB []=0:=rfl
   omega
  rw[e1,e2]
  generalize (amL n rs sh).map D.int=A at *
  simp[elow]
def ThB(t:D):Prop:=nc t/\∀ds,t= .tup ds->ds.length<=60/\∀k s,D.tup [.int k,.int s]∈ds->Sm 2000 s
theorem xu{many:Nat}{ds:List D}(h:dm many (.tup ds)=true)(ht:ThB (.tup ds)):ds=(ds.map pairOf).map pairD/\ds.map pairOf≠[]/\(ds.map pairOf).length<=60/\Dp many (ds.map pairOf):=by
 obtain⟨_,ht⟩:=ht
 obtain⟨hl,hsm⟩:=ht ds rfl
 have h:(!ds.isEmpty&&(ds.all (cQ many)&&yR (ds.map pairOf)))=true:=h
 rw[Zo,Zo]at h
 obtain⟨h1,h2,_⟩:=h
 have h2:=List.all_eq_true.mp h2
 have hp:∀d∈ds,d=pairD (pairOf d):=λd hd=>by
  have:=h2 d hd
  unfold cQ at this
  rw[Zo]at this
  exact sV this.1
 refine⟨?_,λz=>?_,by simpa using hl,λx hx=>?_⟩
 .rw[List.map_map]
  conv=>lhs;rw[<-List.map_id ds]
  apply List.map_congr_left
  intro d hd
  exact hp d hd
 .have:ds=[]:=by simpa using z
  subst this
  simp at h1
 .obtain⟨d,hd,rfl⟩:=Zq.mp hx
  have h3:=h2 d hd
  unfold cQ at h3
  rw[Zo]at h3
  have h4:=of_decide_eq_true h3.2
  exact⟨h4.1,h4.2.1,h4.2.2,hsm (pairOf d).1 (pairOf d).2 (by have:=hp d hd;unfold pairD at this;rw[<-this];exact hd)⟩
theorem zX:∀qs:List (List Int),ik (qs.map aG)=true/\kW (qs.map aG)<=1
 | []=>⟨by simp[ik],by simp[kW]⟩
 |q::qs=>by
  obtain⟨a,b⟩:=zX qs
  refine⟨?_,?_⟩
  .rw[Zj,ik,a];unfold aG;rw[eG,qI];rfl
  .rw[Zj,kW];unfold aG at *;rw[jJ,tQ];omega
theorem Ub{μ:Mu}{ds:List D}(h:jb μ)(hd:∀d∈ds,nc d):jb (μ++[some ds]):=λes he=>by
 rcases Zm.mp he with z|z
 .exact h es z
 .rw[List.mem_singleton]at z
  cases z
  exact hd
theorem Ra{x y:D}(ws cs:List Int)(μ:Mu)(hx:dj x=some (ws.map .int))(hy:dj y=some (cs.map .int))(hw:∀w∈ws,Sm 9000 w)(hc:∀c∈cs,Sm 9000 c):trunc (aJ 2 bj) [x,y] μ=some (.int (dot ws cs),μ):=by
 apply bJ
 have e:=uh (th:=thG (jl 2 (bH (hName 0) (bH (hName 1) jf))) (M2 (ao 0) (ao 1) cF) (bZ ["one","other"] [some x,some y] [])) (F:=λp:Int×Int=>.tup [D.int p.1,.int p.2]) (g:=λp=>p.1*p.2) (μ:=μ) (ws.zip cs) 0 λp hp=>by
  obtain⟨p1,p2⟩:=p
  have hm:=List.of_mem_zip hp
  have:=bV (x:=p1) (y:=p2) μ (hw _ hm.1) (hc _ hm.2) (by decide)
  simp[thG,bZ,this]
 have ez:=kh (F:=D.int) (G:=D.int) ws cs
 unfold dot
 simp[bj,hx,hy,ez]
 rw[List.map_map]at e
 rw[e]
 simp
def Cj(φ:FF):Prop:=∀(x y:D)(ws cs:List Int)(μ:Mu),dj x=some (ws.map .int)->dj y=some (cs.map .int)->(∀w∈ws,Sm 9000 w)->(∀c∈cs,Sm 9000 c)->ws.length<=900->φ [x,y] μ=some (.int (dot ws cs),μ)
theorem Pa:Cj (trunc (aJ 2 sO)):=λx y ws cs μ hx hy hw hc hl=>by
 apply bJ
 have ez:=kh (F:=D.int) (G:=D.int) ws cs
 have ec:=bW (all:=jq (ws.map D.int) (cs.map D.int)) (h:=jl 2 (bH (hName 0) (bH (hName 1) (jf)))) (fe:=M2 (ao 0) (ao 1) cF) (δb:=[none,none]) (F:=λp:Int×Int=>D.tup [.int p.1,.int p.2]) (f:=λp=>D.int (p.1*p.2)) (μ:=μ) (ws.zip cs) λp hp=>by
  obtain⟨p1,p2⟩:=p
  have hm:=List.of_mem_zip hp
  have:=bV (x:=p1) (y:=p2) μ (hw _ hm.1) (hc _ hm.2) (by decide)
  exact⟨[some (.int p1),some (.int p2)],by simp,by simp[this]⟩
 rw[<-ez]at ec
 have es:=sum_ints μ ((ws.zip cs).map λp=>p.1*p.2) 0
 rw[Int.zero_add]at es
 have fm:(ws.zip cs).map (λp=>D.int (p.1*p.2))=((ws.zip cs).map λp=>p.1*p.2).map D.int:=by simp
 rw[fm]at ec
 have zz:(jq (ws.map D.int) (cs.map D.int)).length<=1000:=by rw[ez];simp;omega
 unfold dot
 generalize ((ws.zip cs).map λp=>p.1*p.2).map D.int=M at *
 generalize ((ws.zip cs).map λp=>p.1*p.2).sum=S at *
 unfold sO
 simp[hx,hy,zz,bZ,ec,es]
theorem qC{c:Int}:∀(N r:List Int),r.length<=N.length->dot (N++[c]) r=dot N r
 |N,[],_=>by cases N<;>simp[dot]
 | [],x::r,h=>by simp at h
 |n::N,x::r,h=>by rw[List.cons_append,qe,qe,qC N r (by simpa using h)]
def Kr(φ:FF):Prop:=∀(N:List Int)(c:Int)(r:List Int)(μ:Mu),(∀n∈N,Sm 3000 n)->Sm 3000 c->(∀n∈r,Sm 100 n)->N.length<=50->φ [aG (N++[c]),aG r] μ=some (.bl (decide (dot N N<=c*dot N r)),μ)
theorem PX:Kr (trunc (aJ 4 (jz (trunc (aJ 2 bj))))):=λN c r μ hN hc hr hl=>by
 have e1:=Ra (x:=.lst (N.map .int)) (y:=aG r) N r μ rfl rfl (λw h=>cU (hN w h) (by decide)) λw h=>cU (hr w h) (by decide)
 have e2:=Ra (x:=.lst (N.map .int)) (y:=.lst (N.map .int)) N N μ rfl rfl (λw h=>cU (hN w h) (by decide)) λw h=>cU (hN w h) (by decide)
 have s1:Sm 3110 (dot N r):=sS (a:=3000) (b:=100) hN hr (by omega)
 have e3:=bV (x:=c) (y:=dot N r) μ hc s1 (by decide)
 have hst:∀(f:EF)(δ:En),f δ μ=some (aG (N++[c]),μ)->CP 2 3 f δ μ=some (.nx,(δ.set 2 (some (.lst (N.map .int)))).set 3 (some (.int c)),μ):=λf δ h=>by
  unfold CP
  rw[h]
  have hne:((N++[c]).map D.int)≠[]:=by simp
  have h1:((N++[c]).map D.int).dropLast=N.map .int:=by rw[<-List.map_dropLast];simp
  have h2:((N++[c]).map D.int).getLastD .non= .int c:=by simp
  show(if((N++[c]).map D.int)=[]then none else some (Fl.nx,(δ.set 2 (some (.lst ((N++[c]).map D.int).dropLast))).set 3 (some (((N++[c]).map D.int).getLastD .non)),μ))=_
  rw[if_neg hne,h1,h2]
 apply bJ
 generalize trunc (aJ 2 bj)=φ at *
 generalize aG (N++[c])=M at *
 generalize aG r=R at *
 generalize N.map D.int=ND at *
 generalize dot N r=S at *
 generalize dot N N=T at *
 unfold jz
 have hs:=hst (ao 0) [some M,some R,none,none] rfl
 simp[hs,e1,e2,e3]
def vo(n:Int)(rs:List (List Int))(sh:List (Int×Int)):Bool:=rs.all λr=>decide (dot (amR n rs sh).dropLast (amR n rs sh).dropLast<=pA (amR n rs sh)*dot (amR n rs sh).dropLast r)
def pJ(n:Int)(rs:List (List Int)):D->Bool
 | .tup ds=>dm rs.length (.tup ds)&&vo n rs (ds.map pairOf)
 |_=>false
theorem Ed{n:Int}{rs:List (List Int)}{t:D}(h:dm rs.length t=false):pJ n rs t=false:=by
 unfold pJ
 split
 .rw[h];rfl
 .rfl
theorem uZ{n:Int}{rs:List (List Int)}{sh:List (Int×Int)}(n1:1<=n)(n2:n<=20)(hr:jA n 40 rs)(hne:sh≠[])(hl:sh.length<=60)(hs:Dp rs.length sh):∃(N:List Int)(c:Int),amR n rs sh=N++[c]/\N.length=n.toNat/\(∀z∈N,Sm 3000 z)/\Sm 3000 c:=by
 obtain⟨b1,b2⟩:=Fe hs hne hl
 have hz:=Kq hr hs hl
 have e1:sgn (amB sh)=1:=if_pos (by omega)
 unfold amR
 rw[HJ,e1,Int.one_mul]
 have g0:dR (amB sh).natAbs (amL n rs sh)≠0:=yg (.inl (by omega))
 refine⟨(amL n rs sh).map λz=>z.fdiv (dR (amB sh).natAbs (amL n rs sh):Nat),(amB sh).fdiv (dR (amB sh).natAbs (amL n rs sh):Nat),by simp,by simp[vZ],λz hzm=>?_,cU (Cv b2 (by omega)) (by decide)⟩
 obtain⟨w,hw,rfl⟩:=Zq.mp hzm
 exact cU (Cv (hz w hw) (by omega)) (by decide)
def qR(φ:FF):Prop:=∀(n:Int)(rs:List (List Int))(t:D)(μ:Mu),1<=n->n<=20->rs≠[]->rs.length<=40->jA n 40 rs->ThB t->φ [.lst (rs.map aG),t] μ=some (.bl (pJ n rs t),μ)
theorem Rr{φ1 φ2 φ3:FF}(h1:zV φ1)(h2:Aq φ2)(h3:Kr φ3):qR (trunc (aJ 3 (gO φ1 φ2 φ3))):=λn rs t μ n1 n2 hne hl hr ht=>by
 apply bJ
 have e1:=h1 rs.length t μ ht.1
 have elen:∀μ,cJ (.lst (rs.map aG)) μ=some (.int (rs.length:Int),μ):=λμ=>by rw[oN,Zu]
 cases hs:dm rs.length t with
 |false=>
  rw[hs]at e1
  rw[Ed hs]
  generalize (rs.length:Int)=m at *
  generalize rs.map aG=PD at *
  unfold gO
  simp[elen,e1,-oN]
 |true=>
  rw[hs]at e1
  cases t with
  |tup ds=>
   obtain⟨hd,hsn,hsl,hso⟩:=xu hs ht
   have ev:pJ n rs (.tup ds)=vo n rs (ds.map pairOf):=by
    show(dm rs.length (.tup ds)&&_)=_
    rw[hs];rfl
   rw[ev]
   have e2:=h2 n rs (ds.map pairOf) μ n1 n2 hr hsn hsl hso
   rw[<-hd]at e2
   obtain⟨N,c,hm,hN,sN,sc⟩:=uZ n1 n2 hr hsn hsl hso
   have ea:yN ((rs.map aG).map (thG (hName 0) (MC (aj (ao 1) (aj (ao 0) (au))) φ3) [none,some (aG (N++[c]))])) μ=some (rs.all λr=>decide (dot N N<=c*dot N r),μ):=by
    have:=nJ (th:=thG (hName 0) (MC (aj (ao 1) (aj (ao 0) (au))) φ3) [none,some (aG (N++[c]))]) (p:=λd=>match d with| .tup ds=>decide (dot N N<=c*dot N (ds.map intOf))|_=>false) (μ:=μ) (rs.map aG) λd hd=>by
     obtain⟨q,hq,rfl⟩:=Zq.mp hd
     have e:=h3 N c q μ sN sc (λz hz=>cU ((hr q hq).2 z hz) (by decide)) (by omega)
     show _=some (D.bl (decide (dot N N<=c*dot N ((q.map D.int).map intOf))),μ)
     rw[ints_map]
     generalize aG q=Q at *
     generalize aG (N++[c])=M at *
     simp[thG,e]
    rw[this,List.all_map]
    congr 3
    funext q
    show decide (dot N N<=c*dot N ((q.map D.int).map intOf))=_
    rw[ints_map]
   have ev2:vo n rs (ds.map pairOf)=rs.all λr=>decide (dot N N<=c*dot N r):=by
    unfold vo
    rw[hm]
    simp[pA]
   rw[ev2]
   rw[hm]at e2
   generalize (rs.all λr=>decide (dot N N<=c*dot N r))=A at *
   generalize aG (N++[c])=M at *
   generalize hTH:(rs.map aG).map (thG (hName 0) (MC (aj (ao 1) (aj (ao 0) (au))) φ3) [none,some M])=TH at *
   generalize D.tup ds=T at *
   generalize (rs.length:Int)=m at *
   generalize rs.map aG=PD at *
   unfold gO
   simp[elen,e1,e2,bZ,hTH,ea,-oN]
  |_=>simp[dm]at hs
theorem Ln{φ1 φ2 φ3:FF}(h1:∀(many:Int)(d:D)(μ:Mu),nc d->φ1 [.int many,d] μ=some (.bl (dm many d),μ))(h2:wz φ2)(h3:Cj φ3):qR (trunc (aJ 4 (lV φ1 φ2 φ3))):=λn rs t μ n1 n2 hne hl hr ht=>by
 apply bJ
 have e1:=h1 rs.length t μ ht.1
 have elen:∀μ,cJ (.lst (rs.map aG)) μ=some (.int (rs.length:Int),μ):=λμ=>by rw[oN,Zu]
 cases hs:dm rs.length t with
 |false=>
  rw[hs]at e1
  rw[Ed hs]
  generalize (rs.length:Int)=m at *
  generalize rs.map aG=PD at *
  unfold lV
  simp[elen,e1,-oN]
 |true=>
  rw[hs]at e1
  cases t with
  |tup ds=>
   obtain⟨hd,hsn,hsl,hso⟩:=xu hs ht
   have ev:pJ n rs (.tup ds)=vo n rs (ds.map pairOf):=by
    show(dm rs.length (.tup ds)&&_)=_
    rw[hs];rfl
   rw[ev]
   have e2:=h2 n rs (ds.map pairOf) μ n1 n2 hne hr hsn hsl hso
   rw[<-hd]at e2
   obtain⟨N,c,hm,hN,sN,sc⟩:=uZ n1 n2 hr hsn hsl hso
   have sM:∀z∈N++[c],Sm 9000 z:=λz hz=>by
    rcases Zm.mp hz with w|w
    .exact cU (sN z w) (by decide)
    .rw[List.mem_singleton.mp w];exact cU sc (by decide)
   have e3:=h3 (aG (N++[c])) (aG N) (N++[c]) N μ rfl rfl sM (λz hz=>cU (sN z hz) (by decide)) (by simp;omega)
   rw[qC N N (Zg _)]at e3
   have esl:oSl (aG (N++[c])) none (some (-1)) μ=some (aG N,μ):=by
    have:=Hq (ds:=(N++[c]).map D.int) (μ:=μ) (by simp)
    rw[<-List.map_dropLast,List.dropLast_concat]at this
    exact this
   have eix:oIx (aG (N++[c])) (.int (-1)) μ=some (.int c,μ):=by
    unfold aG
    rw[Mt]
    have:=zR (ns:=N++[c]) (by simp)
    have h2:(N++[c]).getLastD 0=c:=by simp
    rw[h2]at this
    simp only[SJ,Option.bind_some,this,Option.map_some]
   have ef:=jV (all:=rs.map aG) (h:=hName 0) (tt:=toB (M2 (M2 (MC (aj (ao 1) (aj (ao 0) (au))) φ3) (M2 (ao 1) (M1 (mC (.int 1)) jc) oIx) cF) (ao 2) oLt)) (fe:=ao 0) (δb:=[none,some (aG (N++[c])),some (.int (dot N N))]) (p:=λd=>match d with| .tup ds=>decide (dot N (ds.map intOf)*c<dot N N)|_=>false) (f:=λd=>d) (μ:=μ) (rs.map aG) λd hdm=>by
    obtain⟨q,hq,rfl⟩:=Zq.mp hdm
    have sq:∀z∈q,Sm 40 z:=(hr q hq).2
    have e:=h3 (aG (N++[c])) (aG q) (N++[c]) q μ rfl rfl sM (λz hz=>cU (sq z hz) (by decide)) (by simp;omega)
    rw[qC N q (by rw[(hr q hq).1,hN];exact Zg _)]at e
    have em:=bV (x:=dot N q) (y:=c) μ (sS (a:=3000) (b:=40) sN sq (by omega)) sc (by decide)
    refine⟨[some (aG q),some (aG (N++[c])),some (.int (dot N N))],by simp,?_,λ_=>by simp⟩
    show _=some (decide (dot N ((q.map D.int).map intOf)*c<dot N N),μ)
    rw[ints_map]
    generalize dot N q=S at *
    generalize aG q=Q at *
    generalize aG (N++[c])=M at *
    simp[e,eix,em,-Mt]
   have ev2:vo n rs (ds.map pairOf)=((rs.map aG).filter (λd=>match d with| .tup ds=>decide (dot N (ds.map intOf)*c<dot N N)|_=>false)).isEmpty:=by
    rw[wV (p:=λd=>match d with| .tup ds=>!decide (dot N (ds.map intOf)*c<dot N N)|_=>true) (rs.map aG) λx hx=>by
     obtain⟨q,hq,rfl⟩:=Zq.mp hx
     simp[aG]]
    unfold vo
    rw[hm,List.all_map]
    congr 1
    funext q
    show decide (dot (N++[c]).dropLast (N++[c]).dropLast<=pA (N++[c])*dot (N++[c]).dropLast q)= !decide (dot N ((q.map D.int).map intOf)*c<dot N N)
    rw[ints_map]
    have h2:pA (N++[c])=c:=by simp[pA]
    rw[List.dropLast_concat,h2,Int.mul_comm c]
    by_cases h:dot N q*c<dot N N
    .simp[h]
    .have h3:dot N N<=dot N q*c:=by omega
     simp[h,h3]
   rw[ev2]
   rw[hm]at e2
   have hmap:((rs.map aG).filter (λd=>match d with| .tup ds=>decide (dot N (ds.map intOf)*c<dot N N)|_=>false)).map (λd=>d)=(rs.map aG).filter (λd=>match d with| .tup ds=>decide (dot N (ds.map intOf)*c<dot N N)|_=>false):=by simp
   rw[hmap]at ef
   have hpure:∃qs:List (List Int),(rs.map aG).filter (λd=>match d with| .tup ds=>decide (dot N (ds.map intOf)*c<dot N N)|_=>false)=qs.map aG:=⟨_,List.filter_map⟩
   obtain⟨qs,hqs⟩:=hpure
   obtain⟨p1,p2⟩:=zX qs
   have en:=Ms (μ:=μ) p1 (by omega)
   rw[<-hqs]at en
   have zz:(rs.map aG).length<=1000:=by simp;omega
   generalize (rs.map aG).filter (λd=>match d with| .tup ds=>decide (dot N (ds.map intOf)*c<dot N N)|_=>false)=FL at *
   generalize aG (N++[c])=M at *
   generalize aG N=NR at *
   generalize dot N N=T at *
   generalize D.tup ds=TD at *
   generalize (rs.length:Int)=m at *
   generalize rs.map aG=PD at *
   unfold lV
   simp[elen,e1,e2,esl,e3,zz,bZ,ef,en,-oN]
  |_=>simp[dm]at hs
theorem qF{α:Type}{th:D->iZ}{F:α->D}{p:α->Bool}{μ:Mu}:∀(l:List α),(∀x∈l,th (F x) μ=some (.bl (p x),μ))->yN ((l.map F).map th) μ=some (l.all p,μ)
 | [],_=>rfl
 |d::ds,h=>by
  rw[Zj,Zj]
  unfold yN
  rw[h d (by simp)]
  have ih:=qF ds λx hx=>h x (by simp[hx])
  rw[List.map_map]at ih
  cases hp:p d<;>simp[hp,Jb,ih]
abbrev Col:=List (List Int)
def dw(c:Col):D:=.lst (c.map aG)
def bK(cs:List Col):D:=.lst (cs.map dw)
def yF(cs:List Col)(ks:List Int):Bool:=(cs.zip ks).all λp=>decide (0<=p.2/\p.2<p.1.length)
def jn(cs:List Col):D->Bool
 | .tup ds=>ds.all isInt&&(decide (ds.length=cs.length)&&yF cs (ds.map intOf))
 |_=>false
theorem Cr{t:D}(h:pC t=true):∃ks:List Int,t=aG ks:=by
 cases t with
 |tup ds=>exact⟨ds.map intOf,congrArg D.tup (ints_of h)⟩
 |_=>simp[pC]at h
theorem vD(cs:List Col)(ks:List Int):jn cs (aG ks)=(decide (ks.length=cs.length)&&yF cs ks):=by
 show((ks.map D.int).all isInt&&(decide ((ks.map D.int).length=cs.length)&&yF cs ((ks.map D.int).map intOf)))=_
 rw[Mh,ints_map,Zu];rfl
theorem wR{cs:List Col}{t:D}(h:pC t=false):jn cs t=false:=by
 cases t with
 |tup ds=>
  show(ds.all isInt&&_)=false
  rw[show ds.all isInt=false from h];rfl
 |_=>rfl
theorem Do(ks:List Int)(μ:Mu):cJ (aG ks) μ=some (.int (ks.length:Int),μ):=by unfold aG;rw[Fd,Zu]
theorem BW(c:Col)(μ:Mu):cJ (dw c) μ=some (.int (c.length:Int),μ):=by unfold dw;rw[oN,Zu]
theorem pF(cs:List Col)(μ:Mu):cJ (bK cs) μ=some (.int (cs.length:Int),μ):=by unfold bK;rw[oN,Zu]
theorem xN(cs:List Col)(ks:List Int):jq (cs.map dw) (ks.map D.int)=(cs.zip ks).map λp=>.tup [dw p.1,.int p.2]:=kh cs ks
theorem Xo(a b:Nat):((a:Int)==(b:Int))=decide (a=b):=by
 rw[Bool.eq_iff_iff];simp;omega
def qL(φ:FF):Prop:=∀(cs:List Col)(t:D)(μ:Mu),cs.length<=1000->nc t->φ [bK cs,t] μ=some (.bl (jn cs t),μ)
theorem Jj{φ:FF}(h:FT φ):qL (trunc (aJ 2 (iy φ))):=λcs t μ hl ht=>by
 apply bJ
 have e1:=h t μ ht
 cases hn:pC t with
 |false=>
  rw[hn]at e1
  rw[wR hn]
  generalize bK cs=C
  unfold iy
  simp[e1]
 |true=>
  rw[hn]at e1
  obtain⟨ks,rfl⟩:=Cr hn
  rw[vD]
  have l1:=Do ks
  have l2:=pF cs
  have ea:=qF (th:=thG (jl 2 (bH (hName 0) (bH (hName 1) jf))) (MCh (mC (.int 0)) (ao 1) (MC (aj (ao 0) au) (bu cJ)) oLe oLt) [none,none]) (F:=λp:Col×Int=>D.tup [dw p.1,.int p.2]) (p:=λp=>decide (0<=p.2/\p.2<p.1.length)) (μ:=μ) (cs.zip ks) λp _=>by
   obtain⟨c,k⟩:=p
   have l3:=BW c
   generalize (c.length:Int)=m at *
   generalize dw c=C at *
   by_cases h0:0<=k
   .simp[thG,MCh,h0,l3]
   .simp[thG,MCh,h0,l3]
  rw[<-xN]at ea
  have hb:=Xo ks.length cs.length
  have f1:dj (aG ks)=some (ks.map D.int):=rfl
  have f2:dj (bK cs)=some (cs.map dw):=rfl
  generalize (ks.length:Int)=a at *
  generalize (cs.length:Int)=b at *
  unfold yF
  generalize ((cs.zip ks).all λp=>decide (0<=p.2/\p.2<p.1.length))=A at *
  generalize hZ:jq (cs.map dw) (ks.map D.int)=Z at *
  generalize cs.map dw=CD at *
  generalize ks.map D.int=KD at *
  generalize bK cs=C at *
  generalize aG ks=K at *
  unfold iy
  by_cases hq:ks.length=cs.length
  .rw[decide_eq_true hq]at hb ⊢
   have hb:a=b:=by simpa using hb
   simp[e1,l1,l2,hb,f1,f2,hZ,bZ,ea]
  .rw[decide_eq_false hq]at hb ⊢
   simp[e1,l1,l2,hb]
def chosen(cs:List Col)(ks:List Int):Col:=(cs.zip ks).map λp=>p.1.getD p.2.toNat []
def lu(φ:FF):Prop:=∀(cs:List Col)(ks:List Int)(μ:Mu),cs.length<=1000->yF cs ks=true->φ [bK cs,aG ks] μ=some (dw (chosen cs ks),μ)
theorem uw:lu (trunc (aJ 2 iI)):=λcs ks μ hl hc=>by
 apply bJ
 have hc:=List.all_eq_true.mp hc
 have ea:=bW (all:=jq (cs.map dw) (ks.map D.int)) (h:=jl 2 (bH (hName 0) (bH (hName 1) jf))) (fe:=M2 (ao 0) (ao 1) oIx) (δb:=[none,none]) (F:=λp:Col×Int=>D.tup [dw p.1,.int p.2]) (f:=λp=>aG (p.1.getD p.2.toNat [])) (μ:=μ) (cs.zip ks) λp hp=>by
  have h:=of_decide_eq_true (hc p hp)
  obtain⟨c,k⟩:=p
  obtain⟨a,_⟩:=gR (F:=aG) (l:=c) (k:=k) (z:=[]) h.1 h.2
  refine⟨[some (dw c),some (.int k)],by simp,?_⟩
  simp[dw,a]
 rw[<-xN]at ea
 have f1:dj (aG ks)=some (ks.map D.int):=rfl
 have f2:dj (bK cs)=some (cs.map dw):=rfl
 have hz:(jq (cs.map dw) (ks.map D.int)).length<=sizeLine:=szl (by rw[xN];simp;omega)
 have ec:(chosen cs ks).map aG=(cs.zip ks).map λp=>aG (p.1.getD p.2.toNat []):=by unfold chosen;rw[List.map_map];rfl
 unfold dw
 rw[ec]
 generalize ((cs.zip ks).map λp=>aG (p.1.getD p.2.toNat []))=R at *
 generalize hZ:jq (cs.map dw) (ks.map D.int)=Z at *
 generalize cs.map dw=CD at *
 generalize ks.map D.int=KD at *
 generalize bK cs=C at *
 generalize aG ks=K at *
 unfold iI
 simp[f1,f2,hZ,hz,bZ,ea]
theorem wG:lu (trunc (aJ 2 lz)):=uw
def rC(n:Int)(cs:List Col):Prop:=cs≠[]/\cs.length<=20/\∀c∈cs,c≠[]/\c.length<=40/\jA n 40 c
theorem lD{n:Int}{cs:List Col}{ks:List Int}(h:rC n cs)(hl:ks.length=cs.length)(hc:yF cs ks=true):chosen cs ks≠[]/\(chosen cs ks).length=cs.length/\jA n 40 (chosen cs ks):=by
 obtain⟨h1,h2,h3⟩:=h
 have hlen:(chosen cs ks).length=cs.length:=by unfold chosen;simp[hl]
 refine⟨λz=>?_,hlen,λr hr=>?_⟩
 .rw[z]at hlen
  exact h1 (List.eq_nil_of_length_eq_zero hlen.symm)
 .obtain⟨p,hp,rfl⟩:=Zq.mp hr
  have hd:=of_decide_eq_true (List.all_eq_true.mp hc p hp)
  obtain⟨_,_,h3⟩:=h3 p.1 (List.of_mem_zip hp).1
  exact h3 _ (gR (F:=aG) (l:=p.1) (k:=p.2) (z:=[]) hd.1 hd.2).2
def intsOf:D->List Int
 | .tup ds=>ds.map intOf
 |_=>[]
theorem oG(ks:List Int):intsOf (aG ks)=ks:=ints_map ks
def jk(n:Int)(cs:List Col):D->Bool
 | .tup [c,s]=>jn cs c&&pJ n (chosen cs (intsOf c)) s
 |_=>false
def ThS(t:D):Prop:=nc t/\∀c s,t= .tup [c,s]->ThB s
def qP(φ:FF):Prop:=∀(n:Int)(cs:List Col)(t:D)(μ:Mu),1<=n->n<=20->rC n cs->ThS t->φ [bK cs,t] μ=some (.bl (jk n cs t),μ)
theorem su{cs:List Col}{c:D}(h:jn cs c=true):∃ks:List Int,c=aG ks/\ks.length=cs.length/\yF cs ks=true:=by
 cases hn:pC c with
 |false=>rw[wR hn]at h;cases h
 |true=>
  obtain⟨ks,rfl⟩:=Cr hn
  rw[vD,Zo]at h
  exact⟨ks,rfl,of_decide_eq_true h.1,h.2⟩
theorem Su{t:D}(h:yV 2 t=true):∃c s,t= .tup [c,s]:=by
 cases t with
 |tup ds=>
  have h:((ds.length:Int)==2)=true:=h
  have h:ds.length=2:=by simp at h;omega
  match ds,h with
  | [c,s],_=>exact⟨c,s,rfl⟩
 |_=>simp[yV]at h
theorem Ex{n:Int}{cs:List Col}{t:D}(h:yV 2 t=false):jk n cs t=false:=by
 unfold jk
 split
 .simp[yV]at h
 .rfl
theorem Ro{φ1 φ2 φ3 φ4:FF}(h1:Nv φ1)(h2:qL φ2)(h3:lu φ3)(h4:qR φ4):qP (trunc (aJ 4 (ju φ1 φ2 φ3 φ4))):=λn cs t μ n1 n2 hc ht=>by
 apply bJ
 have e1:=h1 2 t μ ht.1
 cases hr:yV 2 t with
 |false=>
  rw[hr]at e1
  rw[Ex hr]
  generalize bK cs=C
  unfold ju
  simp[e1]
 |true=>
  rw[hr]at e1
  obtain⟨c,s,rfl⟩:=Su hr
  have nn:=gM.mp ht.1
  have e2:=h2 cs c μ (by have:=hc.2.1;omega) (nn c (by simp))
  have ev:jk n cs (.tup [c,s])=(jn cs c&&pJ n (chosen cs (intsOf c)) s):=rfl
  rw[ev]
  cases hb:jn cs c with
  |false=>
   rw[hb]at e2
   generalize bK cs=C at *
   unfold ju
   simp[e1,e2]
  |true=>
   rw[hb]at e2
   obtain⟨ks,rfl,hl,hk⟩:=su hb
   obtain⟨k1,k2,k3⟩:=lD hc hl hk
   have e3:=h3 cs ks μ (by have:=hc.2.1;omega) hk
   have e4:=h4 n (chosen cs ks) s μ n1 n2 k1 (by have:=hc.2.1;omega) k3 (ht.2 _ _ rfl)
   rw[show D.lst ((chosen cs ks).map aG)=dw (chosen cs ks)from rfl]at e4
   rw[oG]
   generalize pJ n (chosen cs ks) s=v at *
   generalize dw (chosen cs ks)=CC at *
   generalize bK cs=C at *
   generalize aG ks=K at *
   unfold ju
   simp[e1,e2,e3,e4]
theorem wU:∀(cs:List Col)(ds:List D),ds.length=cs.length->(ds.all isInt&&yF cs (ds.map intOf))=(cs.zip ds).all λp=>isInt p.2&&decide (0<=intOf p.2/\intOf p.2<p.1.length)
 | [],[],_=>rfl
 | [],d::ds,h=>by simp at h
 |c::cs,[],h=>by simp at h
 |c::cs,d::ds,h=>by
  have ih:=wU cs ds (by simpa using h)
  unfold yF at ih ⊢
  simp only[Zj,List.zip_cons_cons,List.all_cons]
  rw[<-ih]
  cases isInt d<;>simp[Bool.and_left_comm]
theorem Gj{φ:FF}(h:Dv φ):qL (trunc (aJ 4 (dW φ))):=λcs t μ hl ht=>by
 apply bJ
 have l2:=pF cs
 cases t with
 |cell n=>simp[nc,cLt]at ht
 |ro ds=>
  generalize bK cs=C
  simp[dW,jn,iV,wC]
 |tup ds=>
  have hn:=gM.mp ht
  have ev:jn cs (.tup ds)=(decide (ds.length=cs.length)&&(cs.zip ds).all λp=>isInt p.2&&decide (0<=intOf p.2/\intOf p.2<p.1.length)):=by
   show(ds.all isInt&&(decide (ds.length=cs.length)&&yF cs (ds.map intOf)))=_
   by_cases hq:ds.length=cs.length
   .rw[<-wU cs ds hq];simp[hq]
   .simp[hq]
  rw[ev]
  have hb:=Xo ds.length cs.length
  have f2:dj (bK cs)=some (cs.map dw):=rfl
  have hZ:jq (cs.map dw) ds=(cs.zip ds).map λp=>.tup [dw p.1,p.2]:=by
   have:=kh (F:=dw) (G:=λd:D=>d) cs ds
   rwa[List.map_id'']at this
   exactλ_=>rfl
  by_cases hq:ds.length=cs.length
  .rw[decide_eq_true hq]at hb ⊢
   have hz:∀p∈cs.zip ds,nc p.2:=λp hp=>hn _ (List.of_mem_zip hp).2
   generalize cs.zip ds=Z at *
   generalize cs.map dw=CD at *
   generalize (cs.length:Int)=b at *
   generalize bK cs=C at *
   have hb:(ds.length:Int)=b:=by simpa using hb
   generalize hv:(Z.all λp=>isInt p.2&&decide (0<=intOf p.2/\intOf p.2<p.1.length))=v
   unfold dW
   simp[l2,hb,f2,hZ]
   generalize hA:(Z.map λp:Col×D=>D.tup [dw p.1,p.2])=A
   refine oF (λits δ μ'=>∃(l:List (Col×D))(o1 o2:Option D),(∀p∈l,nc p.2)/\its=l.map (λp=>D.tup [dw p.1,p.2])/\(l.all λp=>isInt p.2&&decide (0<=intOf p.2/\intOf p.2<p.1.length))=v/\μ'=μ/\δ=[some C,some (.tup ds),o1,o2]) ?_ ?_ _ _ _ ⟨Z,none,none,hz,hA.symm,hv,rfl,rfl⟩
   .rintro d r δ μ' ⟨l,o1,o2,hnl,e,hv,rfl,rfl⟩
    cases l with
    |nil=>cases e
    |cons p l=>
     obtain⟨c,x⟩:=p
     simp only[Zj,List.cons.injEq]at e
     obtain⟨rfl,rfl⟩:=e
     have hx:nc x:=hnl (c,x) (by simp)
     have e1:=h x μ' hx
     have l3:=BW c
     rw[List.all_cons]at hv
     dsimp only at hv
     generalize (c.length:Int)=m at *
     generalize dw c=CD at *
     cases hi:isInt x with
     |false=>
      rw[hi]at e1 hv
      subst hv
      simp[e1]
     |true=>
      rw[hi]at e1 hv
      cases x with
      |int k=>
       have hk:intOf (.int k)=k:=rfl
       rw[hk]at hv
       by_cases h0:k<0
       .have hv:v=false:=by rw[<-hv,decide_eq_false (show¬(0<=k/\k<m) by omega)];rfl
        subst hv
        simp[e1,h0]
       .by_cases h1:m<=k
        .have hv:v=false:=by rw[<-hv,decide_eq_false (show¬(0<=k/\k<m) by omega)];rfl
         subst hv
         simp[e1,h0,l3,h1]
        .rw[decide_eq_true (show 0<=k/\k<m by omega)]at hv
         simp[e1,h0,l3,h1]
         exact⟨l,λa b hb=>hnl (a,b) (by simp[hb]),rfl,by simpa using hv⟩
      |_=>simp[isInt]at hi
   .rintro δ μ' ⟨l,o1,o2,_,e,hv,rfl,rfl⟩
    have hl:l=[]:=List.map_eq_nil_iff.mp e.symm
    rw[hl]at hv
    subst hv
    simp
  .rw[decide_eq_false hq]at hb ⊢
   generalize (cs.length:Int)=b at *
   generalize bK cs=C at *
   unfold dW
   simp[l2,hb]
 |_=>
  generalize bK cs=C
  simp[dW,jn]
theorem Ls{φ2 φ3 φ4:FF}(h2:qL φ2)(h3:lu φ3)(h4:qR φ4):qP (trunc (aJ 2 (gb φ2 φ3 φ4))):=λn cs t μ n1 n2 hc ht=>by
 apply bJ
 cases t with
 |cell n=>simp[nc,cLt,ThS]at ht
 |ro ds=>
  generalize bK cs=C
  simp[gb,jk,iV,wC]
 |tup ds=>
  cases hr:yV 2 (.tup ds)with
  |false=>
   rw[Ex hr]
   have hr:((ds.length:Int)==2)=false:=hr
   generalize bK cs=C
   unfold gb
   simp[hr]
  |true=>
   obtain⟨c,s,e⟩:=Su hr
   cases e
   have nn:=gM.mp ht.1
   have e2:=h2 cs c μ (by have:=hc.2.1;omega) (nn c (by simp))
   have ev:jk n cs (.tup [c,s])=(jn cs c&&pJ n (chosen cs (intsOf c)) s):=rfl
   have a0:atI [c,s] 0=some c:=rfl
   have a1:atI [c,s] 1=some s:=rfl
   rw[ev]
   cases hb:jn cs c with
   |false=>
    rw[hb]at e2
    generalize bK cs=C at *
    unfold gb
    simp[e2,a0]
   |true=>
    rw[hb]at e2
    obtain⟨ks,rfl,hl,hk⟩:=su hb
    obtain⟨k1,k2,k3⟩:=lD hc hl hk
    have e3:=h3 cs ks μ (by have:=hc.2.1;omega) hk
    have e4:=h4 n (chosen cs ks) s μ n1 n2 k1 (by have:=hc.2.1;omega) k3 (ht.2 _ _ rfl)
    rw[show D.lst ((chosen cs ks).map aG)=dw (chosen cs ks)from rfl]at e4
    rw[oG]
    generalize pJ n (chosen cs ks) s=v at *
    generalize dw (chosen cs ks)=CC at *
    generalize bK cs=C at *
    generalize aG ks=K at *
    unfold gb
    simp[e2,e3,e4,a0,a1]
 |_=>
  generalize bK cs=C
  simp[gb,jk]
abbrev Stp:=List Int×List (Int×Int)
def cz(x:Stp):D:=.tup [aG x.1,.tup (x.2.map pairD)]
def Et(cs:List Col)(x:Stp):Prop:=x.1.length=cs.length/\yF cs x.1=true/\x.2≠[]/\x.2.length<=60/\Dp cs.length x.2
def stepOf:D->Stp
 | .tup [c,s]=>(intsOf c,Wy s)
 |_=>([],[])
theorem Qq{n:Int}{cs:List Col}{d:D}(hc:rC n cs)(ht:ThS d)(h:jk n cs d=true):d=cz (stepOf d)/\Et cs (stepOf d):=by
 unfold jk at h
 split at h
 .rename_i c s
  rw[Zo]at h
  obtain⟨ks,rfl,hl,hk⟩:=su h.1
  rw[oG]at h
  obtain⟨k1,k2,k3⟩:=lD hc hl hk
  have hs:=ht.2 _ _ rfl
  cases s with
  |tup ds=>
   have h2:(dm (chosen cs ks).length (.tup ds)&&vo n (chosen cs ks) (ds.map pairOf))=true:=h.2
   rw[Zo]at h2
   obtain⟨q1,q2,q3,q4⟩:=xu h2.1 hs
   rw[k2]at q4
   have e:stepOf (.tup [aG ks,.tup ds])=(ks,ds.map pairOf):=by
    show(intsOf (aG ks),Wy (.tup ds))=_
    rw[oG];rfl
   rw[e]
   exact⟨by unfold cz;rw[<-q1],hl,hk,q2,q3,q4⟩
  |_=>simp[pJ]at h
 .cases h
def cC(n:Int)(cs:List Col)(x:Stp):List Int:=amR n (chosen cs x.1) x.2
def vh(φ:FF):Prop:=∀(n:Int)(cs:List Col)(x:Stp)(μ:Mu),1<=n->n<=20->rC n cs->Et cs x->φ [bK cs,cz x] μ=some (aG (cC n cs x),μ)
theorem QC{φ1 φ2:FF}(h1:lu φ1)(h2:Aq φ2):vh (trunc (aJ 4 (jT φ1 φ2))):=λn cs x μ n1 n2 hc hx=>by
 apply bJ
 obtain⟨ks,sh⟩:=x
 obtain⟨hl,hk,a1,a2,a3⟩:=hx
 obtain⟨k1,k2,k3⟩:=lD hc hl hk
 have e1:=h1 cs ks μ (by have:=hc.2.1;omega) hk
 have e2:=h2 n (chosen cs ks) sh μ n1 n2 k3 a1 a2 (by rw[k2];exact a3)
 rw[show D.lst ((chosen cs ks).map aG)=dw (chosen cs ks)from rfl]at e2
 unfold cz cC
 dsimp only at *
 generalize aG (amR n (chosen cs ks) sh)=M at *
 generalize D.tup (sh.map pairD)=S at *
 generalize dw (chosen cs ks)=CC at *
 generalize bK cs=C at *
 generalize aG ks=K at *
 unfold jT
 simp[e1,e2]
theorem My{φ1 φ2:FF}(h1:lu φ1)(h2:wz φ2):vh (trunc (aJ 2 (iK φ1 φ2))):=λn cs x μ n1 n2 hc hx=>by
 apply bJ
 obtain⟨ks,sh⟩:=x
 obtain⟨hl,hk,a1,a2,a3⟩:=hx
 obtain⟨k1,k2,k3⟩:=lD hc hl hk
 have e1:=h1 cs ks μ (by have:=hc.2.1;omega) hk
 have e2:=h2 n (chosen cs ks) sh μ n1 n2 k1 k3 a1 a2 (by rw[k2];exact a3)
 rw[show D.lst ((chosen cs ks).map aG)=dw (chosen cs ks)from rfl]at e2
 unfold cz cC
 dsimp only at *
 generalize aG (amR n (chosen cs ks) sh)=M at *
 generalize D.tup (sh.map pairD)=S at *
 generalize dw (chosen cs ks)=CC at *
 generalize bK cs=C at *
 generalize aG ks=K at *
 have a0:atI [K,S] 0=some K:=rfl
 have a1:atI [K,S] 1=some S:=rfl
 unfold iK
 simp[e1,e2,a0,a1]
theorem lA{n:Int}{cs:List Col}{x:Stp}(n1:1<=n)(n2:n<=20)(hc:rC n cs)(hx:Et cs x):∃(N:List Int)(c:Int),cC n cs x=N++[c]/\N.length<=20/\(∀z∈N,Sm 3000 z)/\Sm 3000 c:=by
 obtain⟨hl,hk,a1,a2,a3⟩:=hx
 obtain⟨k1,k2,k3⟩:=lD hc hl hk
 obtain⟨N,c,e,h1,h2,h3⟩:=uZ n1 n2 k3 a1 a2 (by rw[k2];exact a3)
 exact⟨N,c,e,by omega,h2,h3⟩
def xy(a b:List Int):List Int:=((List.range a.length).filter λi=>!(a.getD i 0==b.getD i 0)).map λ(i:Nat)=>(i:Int)
def exB(x:Stp)(b:List Int):Bool:=match xy x.1 b with
 | [i]=>!inG (x.2.map (·.1)) i
 |_=>false
def dfP(a b:List Int)(d:D):Bool:=match d with
 | .int i=>!(a.getD i.toNat 0==b.getD i.toNat 0)
 |_=>false
theorem vJ(a b:List Int):((bO 0 a.length).filter (dfP a b)).map (λd=>d)=(xy a b).map D.int:=by
 rw[List.map_id',xf,List.filter_map,List.filter_map]
 unfold xy
 rfl
theorem Ma{neg:Bool}{gs:List Int}{k:Int}{μ:Mu}:oIn neg (.int k) (.lst (gs.map .int)) μ=some (.bl (if neg then !inG gs k else inG gs k),μ):=by
 have e:inF (.int k) (gs.map D.int)=inG gs k:=by
  unfold inF inG
  rw[List.any_map]
  rfl
 unfold oIn
 simp[tH,e]
def Sd(φ:FF):Prop:=∀(x y:Stp)(μ:Mu),x.1.length=y.1.length->x.1.length<=1000->x.2.length<=1000->φ [cz x,cz y] μ=some (.bl (exB x y.1),μ)
theorem NP(sh:List (Int×Int))(all:List D)(μ:Mu):lcL ⟨all,none⟩ (jl 2 (bH (hName 0) (bH (hName 1) jf))) aQ (ao 0) [none,none] (sh.map pairD) μ=some ((sh.map (·.1)).map D.int,μ):=by
 have:=bW (all:=all) (h:=jl 2 (bH (hName 0) (bH (hName 1) jf))) (fe:=ao 0) (δb:=[none,none]) (F:=pairD) (f:=λp=>D.int p.1) (μ:=μ) sh λp _=>by
  obtain⟨u,v⟩:=p
  exact⟨[some (.int u),some (.int v)],by simp[pairD],by simp⟩
 rw[this,List.map_map];rfl
theorem vY{a:List Int}{i:Nat}(h:i<a.length):atI (a.map D.int) (0+(i:Int))=some (.int (a.getD i 0)):=by
 have:=(iu (ys:=a) (k:=0+(i:Int)) (by omega) (by omega)).1
 rw[this]
 congr 3
 omega
theorem Xd:Sd (trunc (aJ 5 gY)):=λx y μ hl h1 h2=>by
 obtain⟨a,sh⟩:=x
 obtain⟨b,sh2⟩:=y
 dsimp only at *
 apply bJ
 have ef:=jV (all:=bO 0 a.length) (h:=hName 0) (tt:=toB (M2 (M2 (ao 1) (ao 0) oIx) (M2 (M2 (ao 2) (mC (.int 0)) oIx) (ao 0) oIx) oNe)) (fe:=ao 0) (δb:=[none,some (aG a),some (cz (b,sh2))]) (p:=dfP a b) (f:=λd=>d) (μ:=μ) (bO 0 a.length) λd hd=>by
  obtain⟨k,rfl,k0,k1⟩:=wj hd
  have e1:=(iu (ys:=a) (k:=k) (by omega) (by omega)).1
  have e2:=(iu (ys:=b) (k:=k) (by omega) (by omega)).1
  have a0:bC (cz (b,sh2)) μ=some [aG b,.tup (sh2.map pairD)]:=rfl
  have a1:atI [aG b,.tup (sh2.map pairD)] 0=some (aG b):=rfl
  have r1:∀μ,bC (aG a) μ=some (a.map D.int):=λ_=>rfl
  have r2:∀μ,bC (aG b) μ=some (b.map D.int):=λ_=>rfl
  refine⟨[some (.int k),some (aG a),some (cz (b,sh2))],by simp,?_,λ_=>by simp⟩
  show _=some (!(a.getD k.toNat 0==b.getD k.toNat 0),μ)
  generalize a.getD k.toNat 0=u at *
  generalize b.getD k.toNat 0=v at *
  generalize hS:cz (b,sh2)=S at *
  generalize aG a=A at *
  generalize aG b=B at *
  generalize a.map D.int=AD at *
  generalize b.map D.int=BD at *
  simp[a0,a1,r1,r2,e1,e2]
 rw[vJ]at ef
 have ea:=NP sh (sh.map pairD) μ
 have l1:=Do a
 obtain⟨m,hm⟩:∃m:Int,m=a.length:=⟨_,rfl⟩
 rw[<-hm]at l1
 have rr:=λμ=>qW (j:=m) (μ:=μ) (by omega) (by omega)
 rw[show m.toNat=a.length by omega]at rr
 have z1:(bO 0 a.length).length<=sizeLine:=szl (by rw[cu];exact h1)
 have z2:(sh.map pairD).length<=sizeLine:=szl (by simpa using h2)
 have st:cz (a,sh)= .tup [aG a,.tup (sh.map pairD)]:=rfl
 have ein:∀i,oIn true (.int i) (.lst ((sh.map (·.1)).map D.int)) μ=some (.bl (!inG (sh.map (·.1)) i),μ):=λi=>by rw[Ma];rfl
 rw[st]
 unfold exB
 show OkI _ (Q:=⟨retS ⟨λr=>r=(.bl (match xy a b with| [i]=>!inG (sh.map (·.1)) i|_=>false),μ)⟩⟩)
 generalize hI:bO 0 a.length=I at *
 generalize sh.map pairD=SD at *
 generalize (sh.map (·.1)).map D.int=AT at *
 generalize inG (sh.map (·.1))=G at *
 generalize cz (b,sh2)=S at *
 generalize aG a=A at *
 generalize hd:xy a b=df at *
 unfold gY
 match df,hd with
 | [],hd=>simp[l1,rr,z1,bZ,ef]
 | [i],hd=>
  have a0:atI [D.int i] 0=some (.int i):=rfl
  simp[l1,rr,z1,bZ,ef,a0,z2,ea,ein]
 |i::j::l,hd=>
  have hne:(((l.length:Int)+1+1==1):Bool)=false:=by rw[beq_eq_false_iff_ne];omega
  simp[l1,rr,z1,bZ,ef,hne]
def mL(m o:List Int):Bool:=decide (dot m.dropLast m.dropLast*pA o*pA o<dot o.dropLast o.dropLast*pA m*pA m)
def Mx(m:List Int):Prop:=∃(N:List Int)(c:Int),m=N++[c]/\N.length<=20/\(∀z∈N,Sm 3000 z)/\Sm 3000 c
def ww(φ:FF):Prop:=∀(m o:List Int)(μ:Mu),Mx m->Mx o->φ [aG m,aG o] μ=some (.bl (mL m o),μ)
theorem Dd(N O:List Int)(c e:Int):mL (N++[c]) (O++[e])=decide (dot N N*e*e<dot O O*c*c):=by
 unfold mL pA
 simp
theorem Ah(N:List Int)(c:Int)(μ:Mu):oSl (aG (N++[c])) none (some (-1)) μ=some (aG N,μ):=by
 have:=Hq (ds:=(N++[c]).map D.int) (μ:=μ) (by simp)
 rw[<-List.map_dropLast,List.dropLast_concat]at this
 exact this
theorem Hs(N:List Int)(c:Int)(μ:Mu):oIx (aG (N++[c])) (.int (-1)) μ=some (.int c,μ):=by
 unfold aG
 rw[Mt]
 have:=zR (ns:=N++[c]) (by simp)
 rw[show(N++[c]).getLastD 0=c by simp]at this
 simp only[SJ,Option.bind_some,this,Option.map_some]
theorem JH:ww (trunc (aJ 4 (jy (trunc (aJ 2 bj))))):=λm o μ hm ho=>by
 obtain⟨N,c,rfl,n1,n2,n3⟩:=hm
 obtain⟨O,e,rfl,o1,o2,o3⟩:=ho
 apply bJ
 rw[Dd]
 have up:∀{r:List Int},(∀z∈r,Sm 3000 z)->∀z∈r,Sm 9000 z:=λh z hz=>cU (h z hz) (by decide)
 have d1:=Ra (x:=aG N) (y:=aG N) N N μ rfl rfl (up n2) (up n2)
 have d2:=Ra (x:=aG O) (y:=aG O) O O μ rfl rfl (up o2) (up o2)
 have s1:Sm 6010 (dot N N):=sS (a:=3000) (b:=3000) n2 n2 (by omega)
 have s2:Sm 6010 (dot O O):=sS (a:=3000) (b:=3000) o2 o2 (by omega)
 have m1:=bV (x:=dot N N) (y:=e) μ s1 o3 (by decide)
 have m2:=bV (x:=dot N N*e) (y:=e) μ (nR s1 o3) o3 (by decide)
 have m3:=bV (x:=dot O O) (y:=c) μ s2 n3 (by decide)
 have m4:=bV (x:=dot O O*c) (y:=c) μ (nR s2 n3) n3 (by decide)
 have i1:=Ah N c μ
 have i2:=Ah O e μ
 have t1:=Hs N c μ
 have t2:=Hs O e μ
 generalize trunc (aJ 2 bj)=φ at *
 generalize aG (N++[c])=M at *
 generalize aG (O++[e])=P at *
 generalize aG N=NR at *
 generalize aG O=OR at *
 generalize dot N N=S at *
 generalize dot O O=T at *
 unfold jy
 simp[i1,i2,d1,d2,t1,t2,m1,m2,m3,m4,-Mt]
theorem Jc{φ:FF}(h:Cj φ):ww (trunc (aJ 4 (gq φ))):=λm o μ hm ho=>by
 obtain⟨N,c,rfl,n1,n2,n3⟩:=hm
 obtain⟨O,e,rfl,o1,o2,o3⟩:=ho
 apply bJ
 rw[Dd]
 have up:∀{r:List Int},(∀z∈r,Sm 3000 z)->∀z∈r,Sm 9000 z:=λh z hz=>cU (h z hz) (by decide)
 have up1:∀{r:List Int}{c:Int},(∀z∈r,Sm 3000 z)->Sm 3000 c->∀z∈r++[c],Sm 9000 z:=λh hc z hz=>by
  rcases Zm.mp hz with w|w
  .exact up h z w
  .rw[List.mem_singleton.mp w];exact cU hc (by decide)
 have d1:=h (aG (N++[c])) (aG N) (N++[c]) N μ rfl rfl (up1 n2 n3) (up n2) (by simp;omega)
 have d2:=h (aG (O++[e])) (aG O) (O++[e]) O μ rfl rfl (up1 o2 o3) (up o2) (by simp;omega)
 rw[qC N N (Zg _)]at d1
 rw[qC O O (Zg _)]at d2
 have s1:Sm 6010 (dot N N):=sS (a:=3000) (b:=3000) n2 n2 (by omega)
 have s2:Sm 6010 (dot O O):=sS (a:=3000) (b:=3000) o2 o2 (by omega)
 have m1:=bV (x:=dot N N) (y:=e) μ s1 o3 (by decide)
 have m2:=bV (x:=dot N N*e) (y:=e) μ (nR s1 o3) o3 (by decide)
 have m3:=bV (x:=dot O O) (y:=c) μ s2 n3 (by decide)
 have m4:=bV (x:=dot O O*c) (y:=c) μ (nR s2 n3) n3 (by decide)
 have i1:=Ah N c μ
 have i2:=Ah O e μ
 have t1:=Hs N c μ
 have t2:=Hs O e μ
 generalize aG (N++[c])=M at *
 generalize aG (O++[e])=P at *
 generalize aG N=NR at *
 generalize aG O=OR at *
 generalize dot N N=S at *
 generalize dot O O=T at *
 unfold gq
 simp[i1,i2,d1,d2,t1,t2,m1,m2,m3,m4,-Mt]
def noB(m:List Int):Bool:=m.dropLast.all (· ==0)
def Nm(φ:FF):Prop:=∀(m:List Int)(μ:Mu),Mx m->φ [aG m] μ=some (.bl (noB m),μ)
theorem zN:∀(ns:List Int),ik (ns.map D.int)=true/\kW (ns.map D.int)<=0
 | []=>⟨by simp[ik],by simp[kW]⟩
 |q::qs=>by
  obtain⟨a,b⟩:=zN qs
  exact⟨by simp[ik,eG,a],by simp[kW,jJ];omega⟩
theorem Lw:Nm (trunc (aJ 1 gF)):=λm μ hm=>by
 obtain⟨N,c,rfl,n1,n2,n3⟩:=hm
 apply bJ
 have ef:=jV (all:=N.map D.int) (h:=hName 0) (tt:=toB (M2 (ao 0) (mC (.int 0)) oNe)) (fe:=ao 0) (δb:=[none]) (p:=λd=>match d with| .int i=>!(i==0)|_=>false) (f:=λd=>d) (μ:=μ) (N.map D.int) λd hd=>by
  obtain⟨k,_,rfl⟩:=Zq.mp hd
  exact⟨[some (.int k)],by simp,by simp,λ_=>by simp⟩
 rw[List.map_id',List.filter_map]at ef
 have i1:=Ah N c μ
 have ev:noB (N++[c])=((N.filter ((λd=>match d with|D.int i=>!(i==0)|_=>false)∘D.int)).map D.int).isEmpty:=by
  unfold noB
  rw[List.dropLast_concat,List.isEmpty_map,Bool.eq_iff_iff,List.all_eq_true,List.isEmpty_iff,List.filter_eq_nil_iff]
  simp[Function.comp]
 rw[ev]
 obtain⟨p1,p2⟩:=zN (N.filter ((λd=>match d with|D.int i=>!(i==0)|_=>false)∘D.int))
 have en:=Ms (μ:=μ) p1 (by omega)
 have z1:(N.map D.int).length<=sizeLine:=szl (by simp;omega)
 have es:srcOf (aG N) μ=some ⟨N.map D.int,none⟩:=rfl
 generalize (N.filter ((λd=>match d with|D.int i=>!(i==0)|_=>false)∘D.int)).map D.int=FL at *
 generalize N.map D.int=ND at *
 generalize aG (N++[c])=M at *
 generalize aG N=NR at *
 unfold gF
 simp[i1,es,z1,bZ,ef,en]
theorem any_nums(μ:Mu):∀(ns:List Int),Em ((ns.map D.int).map thE) μ=some (!(ns.all (· ==0)),μ)
 | []=>rfl
 |n::ns=>by
  rw[Zj,Zj]
  unfold Em
  have ih:=any_nums μ ns
  have e:thE (.int n) μ=some (.int n,μ):=rfl
  rw[e]
  show((Jb (D.int n)).bind λk=>if k=true then some (true,μ)else Em ((ns.map D.int).map thE) μ)=_
  rw[ih]
  show(if(n != 0)=true then some (true,μ)else _)=_
  rw[List.all_cons]
  by_cases h:n=0
  .subst h;simp
  .simp[h]
def gm{α:Type}(xs:List α):List (α×α):=xs.zip (xs.drop 1)
def nM(xs:List Stp):Stp:=xs.getLastD ([],[])
def vf(n:Int)(cs:List Col)(xs:List Stp):Bool:=
 ((xs.headD ([],[])).1.all (· ==0))&&((gm xs).all (λp=>exB p.1 p.2.1)&&(noB (cC n cs (nM xs))&&(gm xs).all λp=>mL (cC n cs p.2) (cC n cs p.1)))
def lH(n:Int)(cs:List Col):D->Bool
 | .tup ds=>!ds.isEmpty&&(ds.all (jk n cs)&&vf n cs (ds.map stepOf))
 |_=>false
def ThT(t:D):Prop:=nc t/\∀ds,t= .tup ds->ds.length<=3000/\∀d∈ds,ThS d
def sW(φ:FF):Prop:=∀(n:Int)(cs:List Col)(t:D)(μ:Mu),1<=n->n<=20->rC n cs->ThT t->φ [bK cs,t] μ=some (.bl (lH n cs t),μ)
theorem Uy{n:Nat}(h:n<=3000):n<=sizeLine:=Zl h (by decide)
theorem xT{n:Int}{cs:List Col}(hc:rC n cs):∀{ds:List D},(∀d∈ds,ThS d)->ds.all (jk n cs)=true->ds=(ds.map stepOf).map cz/\∀x∈ds.map stepOf,Et cs x
 | [],_,_=>⟨rfl,λx h=>by cases h⟩
 |d::ds,ht,h=>by
  rw[List.all_cons,Zo]at h
  obtain⟨e,hx⟩:=Qq hc (ht d (by simp)) h.1
  obtain⟨es,hxs⟩:=xT hc (λx hx=>ht x (by simp[hx])) h.2
  refine⟨by rw[Zj,Zj,<-e,<-es],λx hm=>?_⟩
  rcases Zi.mp hm with rfl|z
  .exact hx
  .exact hxs x z
theorem zp{α:Type}(F:α->D)(xs:List α):jq (xs.map F) ((xs.map F).drop 1)=(gm xs).map λp=>.tup [F p.1,F p.2]:=by
 rw[<-List.map_drop,kh];rfl
theorem lenz{α:Type}{ds:List α}(h:ds≠[]):((ds.length:Int)==0)=false:=by
 have:=List.length_pos_iff.mpr h
 rw[beq_eq_false_iff_ne];omega
theorem Am{α:Type}{F:α->D}{x:α}{xs:List α}:atI ((x::xs).map F) 0=some (F x):=by
 rw[Zj]
 unfold atI ixN
 rw[if_pos (by decide)]
 simp
theorem zF{F:Stp->D}{xs:List Stp}(h:xs≠[]):atI (xs.map F) (-1)=some (F (nM xs)):=by
 rw[xW (by simpa using h),List.getLast_map]
 unfold nM
 rw[List.getLastD_eq_getLast?,List.getLast?_eq_some_getLast h];rfl
theorem CJ{xs:List Stp}(h:xs≠[]):nM xs∈xs:=by
 unfold nM
 rw[List.getLastD_eq_getLast?,List.getLast?_eq_some_getLast h]
 exact List.getLast_mem h
theorem Nt{φ1 φ2 φ3 φ4:FF}(h1:qP φ1)(h2:Sd φ2)(h3:vh φ3)(h4:ww φ4):sW (trunc (aJ 3 (cZ φ1 φ2 φ3 φ4))):=λn cs t μ n1 n2 hc ht=>by
 apply bJ
 cases t with
 |cell n=>simp[nc,cLt,ThT]at ht
 |ro ds=>
  generalize bK cs=C
  simp[cZ,lH,iV,wC]
 |tup ds=>
  obtain⟨hnc,ht⟩:=ht
  obtain⟨hl,hts⟩:=ht ds rfl
  by_cases hne:ds=[]
  .subst hne
   generalize bK cs=C
   simp[cZ,lH]
  .have hem:ds.isEmpty=false:=by cases ds<;>simp_all
   have hlb:=lenz hne
   have ea:=nJ (th:=thG (hName 0) (MC (aj (ao 1) (aj (ao 0) au)) φ1) [none,some (bK cs)]) (p:=jk n cs) (μ:=μ) ds λx hx=>by
    have e:=h1 n cs x μ n1 n2 hc (hts x hx)
    generalize bK cs=C at *
    simp[thG,e]
   have ev:lH n cs (.tup ds)=(ds.all (jk n cs)&&vf n cs (ds.map stepOf)):=by
    show(!ds.isEmpty&&_)=_
    rw[hem];rfl
   rw[ev]
   cases ha:ds.all (jk n cs)with
   |false=>
    rw[ha]at ea
    generalize bK cs=C at *
    simp[cZ,hlb,bZ,ea]
   |true=>
    rw[ha]at ea
    obtain⟨hd,hx⟩:=xT hc hts ha
    generalize hxs:ds.map stepOf=xs at *
    have hxl:xs.length<=3000:=by rw[<-hxs];simpa using hl
    cases xs with
    |nil=>rw[List.map_nil]at hd;exact absurd hd hne
    |cons x0 xs0=>
     have a0:atI ds 0=some (cz x0):=by rw[hd];exact Am
     have i0:∀μ,bC (cz x0) μ=some [aG x0.1,.tup (x0.2.map pairD)]:=λ_=>rfl
     have b0:atI [aG x0.1,.tup (x0.2.map pairD)] 0=some (aG x0.1):=rfl
     have an:=any_nums μ x0.1
     have sq:JD (aG x0.1,μ)=some ((x0.1.map D.int).map thE,μ):=rfl
     have hsl:=GR (ds:=ds) (i:=1) (μ:=μ) (by decide) (by have:=List.length_pos_iff.mpr hne;omega)
     rw[show(1:Int).toNat=1 from rfl]at hsl
     have hz:jq ds (ds.drop 1)=(gm (x0::xs0)).map λp=>.tup [cz p.1,cz p.2]:=by
      rw[hd,zp]
     have mem:∀p∈gm (x0::xs0),Et cs p.1/\Et cs p.2:=λp hp=>by
      have:=List.of_mem_zip hp
      exact⟨hx _ this.1,hx _ (List.mem_of_mem_drop this.2)⟩
     have hcl:=hc.2.1
     have eb:=qF (th:=thG (jl 2 (bH (hName 0) (bH (hName 1) jf))) (MC (aj (ao 0) (aj (ao 1) au)) φ2) [none,none]) (F:=λp:Stp×Stp=>D.tup [cz p.1,cz p.2]) (p:=λp=>exB p.1 p.2.1) (μ:=μ) (gm (x0::xs0)) λp hp=>by
      obtain⟨p1,p2⟩:=p
      obtain⟨q1,q2⟩:=mem _ hp
      have e:=h2 p1 p2 μ (q1.1.trans q2.1.symm) (by rw[q1.1];omega) (by have h6:p1.2.length<=60:=q1.2.2.2.1;omega)
      dsimp only
      generalize cz p1=A at *
      generalize cz p2=B at *
      simp[thG,e]
     rw[<-hz]at eb
     have em:=bW (all:=ds) (h:=hName 0) (fe:=MC (aj (ao 1) (aj (ao 0) au)) φ3) (δb:=[none,some (bK cs)]) (F:=cz) (f:=λx=>aG (cC n cs x)) (μ:=μ) (x0::xs0) λx hm=>by
      have e:=h3 n cs x μ n1 n2 hc (hx x hm)
      generalize aG (cC n cs x)=M at *
      generalize cz x=X at *
      generalize bK cs=C at *
      exact⟨[some X,some C],by simp,by simp[e]⟩
     rw[<-hd]at em
     have ml:atI ((x0::xs0).map λx=>aG (cC n cs x)) (-1)=some (aG (cC n cs (nM (x0::xs0)))):=zF (F:=λx=>aG (cC n cs x)) (by simp)
     obtain⟨N,c,hmx,m1,m2,m3⟩:=lA n1 n2 hc (hx _ (CJ (xs:=x0::xs0) (by simp)))
     have i1:=Ah N c μ
     have sq2:JD (aG N,μ)=some ((N.map D.int).map thE,μ):=rfl
     have an2:=any_nums μ N
     have hno:noB (cC n cs (nM (x0::xs0)))=N.all (· ==0):=by rw[hmx];unfold noB;rw[List.dropLast_concat]
     have hsl2:=wF (ds:=(x0::xs0).map λx=>aG (cC n cs x)) (i:=1) (μ:=μ) (by decide)
     rw[show(1:Int).toNat=1 from rfl]at hsl2
     have hz2:=zp (λx=>aG (cC n cs x)) (x0::xs0)
     have ec:=qF (th:=thG (jl 2 (bH (hName 0) (bH (hName 1) jf))) (MC (aj (ao 1) (aj (ao 0) au)) φ4) [none,none]) (F:=λp:Stp×Stp=>D.tup [aG (cC n cs p.1),aG (cC n cs p.2)]) (p:=λp=>mL (cC n cs p.2) (cC n cs p.1)) (μ:=μ) (gm (x0::xs0)) λp hp=>by
      obtain⟨p1,p2⟩:=p
      obtain⟨q1,q2⟩:=mem _ hp
      have e:=h4 (cC n cs p2) (cC n cs p1) μ (lA n1 n2 hc q2) (lA n1 n2 hc q1)
      dsimp only
      generalize mL (cC n cs p2) (cC n cs p1)=v at *
      generalize aG (cC n cs p1)=A at *
      generalize aG (cC n cs p2)=B at *
      simp[thG,e]
     rw[<-hz2]at ec
     rw[hmx]at ml
     have z1:ds.length<=sizeLine:=Uy (by omega)
     unfold vf
     rw[hno,List.headD_cons]
     have f1:dj (.tup ds)=some ds:=rfl
     generalize ((gm (x0::xs0)).all λp=>exB p.1 p.2.1)=v1 at *
     generalize ((gm (x0::xs0)).all λp=>mL (cC n cs p.2) (cC n cs p.1))=v2 at *
     generalize ((x0::xs0).map λx=>aG (cC n cs x))=ML at *
     generalize (x0.1.map D.int).map thE=T0 at *
     generalize (N.map D.int).map thE=T1 at *
     generalize x0.1.all (λx=>x==0)=u1 at *
     generalize N.all (λx=>x==0)=u2 at *
     generalize aG (N++[c])=R1 at *
     generalize aG N=R2 at *
     generalize aG x0.1=R3 at *
     generalize cz x0=S0 at *
     generalize D.tup (x0.2.map pairD)=S1 at *
     generalize ds.drop 1=d1 at *
     generalize ML.drop 1=ml1 at *
     generalize bK cs=C at *
     clear hx hd mem hz hz2 hxl hts ht hnc
     unfold cZ
     cases u1<;>cases v1<;>cases u2<;>simp[hlb,bZ,ea,a0,i0,b0,sq,an,hsl,eb,z1,em,ml,i1,sq2,an2,hsl2,ec]
 |_=>
  generalize bK cs=C
  simp[cZ,lH]
def jK(n:Int)(cs:List Col)(x y:Stp):Bool:=!noB (cC n cs x)&&(exB x y.1&&mL (cC n cs y) (cC n cs x))
def Hv(φ:FF):Prop:=∀(n:Int)(cs:List Col)(x y:Stp)(μ:Mu),1<=n->n<=20->rC n cs->Et cs x->Et cs y->φ [bK cs,cz x,cz y] μ=some (.bl (jK n cs x y),μ)
theorem Mw{φ1 φ2 φ3:FF}(h1:vh φ1)(h2:Nm φ2)(h3:ww φ3):Hv (trunc (aJ 5 (jw φ1 φ2 φ3))):=λn cs x y μ n1 n2 hc hx hy=>by
 have e1:=h1 n cs x μ n1 n2 hc hx
 have e1':=h1 n cs y μ n1 n2 hc hy
 have mx:=lA n1 n2 hc hx
 have my:=lA n1 n2 hc hy
 have e2:=h2 _ μ mx
 have e3:=h3 _ _ μ my mx
 have hcl:=hc.2.1
 have hl1:=hx.1
 have hl2:=hy.1
 have hs:=hx.2.2.2.1
 unfold jK
 obtain⟨a,sh⟩:=x
 obtain⟨b,sh2⟩:=y
 dsimp only at *
 apply bJ
 have ef:=jV (all:=bO 0 a.length) (h:=hName 0) (tt:=toB (M2 (M2 (M2 (ao 1) (mC (.int 0)) oIx) (ao 0) oIx) (M2 (M2 (ao 2) (mC (.int 0)) oIx) (ao 0) oIx) oNe)) (fe:=ao 0) (δb:=[none,some (cz (a,sh)),some (cz (b,sh2))]) (p:=dfP a b) (f:=λd=>d) (μ:=μ) (bO 0 a.length) λd hd=>by
  obtain⟨k,rfl,k0,k1⟩:=wj hd
  have e1:=(iu (ys:=a) (k:=k) (by omega) (by omega)).1
  have e2:=(iu (ys:=b) (k:=k) (by omega) (by omega)).1
  have a0:bC (cz (b,sh2)) μ=some [aG b,.tup (sh2.map pairD)]:=rfl
  have a1:atI [aG b,.tup (sh2.map pairD)] 0=some (aG b):=rfl
  have b0:bC (cz (a,sh)) μ=some [aG a,.tup (sh.map pairD)]:=rfl
  have b1:atI [aG a,.tup (sh.map pairD)] 0=some (aG a):=rfl
  have r1:∀μ,bC (aG a) μ=some (a.map D.int):=λ_=>rfl
  have r2:∀μ,bC (aG b) μ=some (b.map D.int):=λ_=>rfl
  refine⟨[some (.int k),some (cz (a,sh)),some (cz (b,sh2))],by simp,?_,λ_=>by simp⟩
  show _=some (!(a.getD k.toNat 0==b.getD k.toNat 0),μ)
  generalize a.getD k.toNat 0=u at *
  generalize b.getD k.toNat 0=v at *
  generalize cz (b,sh2)=S at *
  generalize cz (a,sh)=S' at *
  generalize aG a=A at *
  generalize aG b=B at *
  generalize a.map D.int=AD at *
  generalize b.map D.int=BD at *
  simp[a0,a1,b0,b1,r1,r2,e1,e2]
 rw[vJ]at ef
 have ea:=NP sh (sh.map pairD) μ
 have l1:=pF cs
 obtain⟨m,hm⟩:∃m:Int,m=cs.length:=⟨_,rfl⟩
 rw[<-hm]at l1
 have rr:=λμ=>qW (j:=m) (μ:=μ) (by omega) (by omega)
 rw[show m.toNat=a.length by omega]at rr
 have z1:(bO 0 a.length).length<=sizeLine:=szl (by rw[cu];omega)
 have z2:(sh.map pairD).length<=sizeLine:=szl (by simp;omega)
 have b0:∀μ,bC (cz (a,sh)) μ=some [aG a,.tup (sh.map pairD)]:=λ_=>rfl
 have b1:atI [aG a,.tup (sh.map pairD)] 1=some (.tup (sh.map pairD)):=rfl
 have ein:∀i,oIn false (.int i) (.lst ((sh.map (·.1)).map D.int)) μ=some (.bl (inG (sh.map (·.1)) i),μ):=λi=>by rw[Ma];rfl
 have ev:exB (a,sh) b=(match xy a b with| [i]=>!inG (sh.map (·.1)) i|_=>false):=rfl
 rw[ev]
 generalize noB (cC n cs (a,sh))=v0 at *
 generalize mL (cC n cs (b,sh2)) (cC n cs (a,sh))=v1 at *
 generalize aG (cC n cs (a,sh))=M1 at *
 generalize aG (cC n cs (b,sh2))=M2' at *
 generalize hI:bO 0 a.length=I at *
 generalize sh.map pairD=SD at *
 generalize (sh.map (·.1)).map D.int=AT at *
 generalize inG (sh.map (·.1))=G at *
 generalize cz (b,sh2)=S at *
 generalize cz (a,sh)=S' at *
 generalize aG a=A at *
 generalize bK cs=C at *
 generalize hd:xy a b=df at *
 clear hx hy mx my hd hI
 unfold jw
 match df with
 | []=>cases v0<;>simp[e1,l1,rr,z1,bZ,ef,e2]
 | [i]=>
  have a0:atI [D.int i] 0=some (.int i):=rfl
  generalize hg:G i=g
  have ein':=ein i
  rw[hg]at ein'
  cases v0<;>cases g<;>simp[e1,e1',l1,rr,z1,bZ,ef,e2,a0,b0,b1,z2,ea,ein',e3,hg]
 |i::j::l=>
  have hne:(((l.length:Int)+1+1==1):Bool)=false:=by rw[beq_eq_false_iff_ne];omega
  cases v0<;>simp[e1,l1,rr,z1,bZ,ef,e2,hne]
theorem Ea:∀(N:List Int),0<=dot N N
 | []=>by simp[dot]
 |n::N=>by
  rw[qe]
  have:=Ea N
  have h2:0<=n*n:=by
   rcases Int.le_total 0 n with h|h
   .exact Int.mul_nonneg h h
   .exact Int.mul_nonneg_of_nonpos_of_nonpos h h
  omega
theorem Ej:∀(N:List Int),N.all (· ==0)=true->dot N N=0
 | [],_=>by simp[dot]
 |n::N,h=>by
  rw[List.all_cons,Zo]at h
  have e:n=0:=by simpa using h.1
  rw[qe,Ej N h.2,e];rfl
theorem sqn(c:Int):0<=c*c:=by
 rcases Int.le_total 0 c with h|h
 .exact Int.mul_nonneg h h
 .exact Int.mul_nonneg_of_nonpos_of_nonpos h h
theorem Qt{m o:List Int}(h:noB o=true):mL m o=false:=by
 unfold mL
 rw[Ej _ h,Int.zero_mul,Int.zero_mul]
 have:=Ea m.dropLast
 apply decide_eq_false
 have h2:0<=dot m.dropLast m.dropLast*pA o*pA o:=by rw[Int.mul_assoc];exact Int.mul_nonneg this (sqn _)
 omega
theorem HN(n:Int)(cs:List Col)(x y:Stp):jK n cs x y=(exB x y.1&&mL (cC n cs y) (cC n cs x)):=by
 unfold jK
 cases h:noB (cC n cs x)with
 |true=>rw[Qt h];simp
 |false=>rfl
theorem zx{α:Type}(z:α):∀(xs:List α),gm xs=(List.range (xs.length-1)).map λk=>(xs.getD k z,xs.getD (k+1) z)
 | []=>rfl
 | [x]=>rfl
 |x::y::xs=>by
  have ih:=zx z (y::xs)
  unfold gm at ih ⊢
  rw[List.drop_succ_cons,List.drop_zero,List.zip_cons_cons]
  rw[List.drop_succ_cons,List.drop_zero]at ih
  rw[ih]
  have e:(x::y::xs).length-1=((y::xs).length-1)+1:=by simp
  rw[e,List.range_succ_eq_map,Zj,List.map_map]
  rfl
theorem Hx{α:Type}(p q:α->Bool):∀l:List α,(l.all λx=>p x&&q x)=(l.all p&&l.all q)
 | []=>rfl
 |a::l=>by
  rw[List.all_cons,List.all_cons,List.all_cons,Hx p q l]
  cases p a<;>cases q a<;>simp
theorem Uh{μ:Mu}(bs:List Bool):oIn true (.bl false) (.lst (bs.map .bl)) μ=some (.bl (bs.all λb=>b),μ):=by
 have e:inF (.bl false) (bs.map D.bl)= !(bs.all λb=>b):=by
  unfold inF
  rw[List.any_map]
  induction bs with
  |nil=>rfl
  |cons b bs ih=>
   rw[List.any_cons,ih,List.all_cons]
   cases b<;>rfl
 have f:(bs.map D.bl).all tH=true:=by
  rw[List.all_map]
  exact List.all_eq_true.mpr λ_ _=>rfl
 unfold oIn
 rw[WF]
 simp only[Option.bind_some,e,f]
 simp[tH]
theorem CK:∀(a:List Int)(m:Nat),a.length=m->(a==List.replicate m 0)=a.all (· ==0)
 | [],m,h=>by subst h;rfl
 |x::a,m,h=>by
  subst h
  rw[List.length_cons,List.replicate_succ,List.all_cons,<-CK a a.length rfl]
  rfl
theorem Gu{k:Nat}{μ:Mu}(hk:k<=500):cF (.tup [.int 0]) (.int (k:Int)) μ=some (aG (List.replicate k 0),μ):=by
 obtain⟨zs,e,hl,hz⟩:=zeros (k:=(k:Int)) (μ:=μ) (by omega) (by omega)
 rw[e]
 have:zs=(List.replicate k (0:Int)).map D.int:=by
  rw[List.map_replicate]
  apply List.eq_replicate_iff.mpr
  exact⟨by omega,hz⟩
 rw[this];rfl
theorem Jf{n:Int}{cs:List Col}{xs:List Stp}:vf n cs xs=((xs.headD ([],[])).1.all (· ==0)&&(noB (cC n cs (nM xs))&&(gm xs).all λp=>jK n cs p.1 p.2)):=by
 have e:(λp:Stp×Stp=>jK n cs p.1 p.2)=λp=>exB p.1 p.2.1&&mL (cC n cs p.2) (cC n cs p.1):=funext λp=>HN n cs p.1 p.2
 unfold vf
 rw[e,Hx]
 generalize (gm xs).all (λp=>exB p.1 p.2.1)=a
 generalize (gm xs).all (λp=>mL (cC n cs p.2) (cC n cs p.1))=b
 generalize noB (cC n cs (nM xs))=c
 cases a<;>cases b<;>cases c<;>rfl
theorem HR{φ1 φ2 φ3 φ4:FF}(h1:qP φ1)(h2:vh φ2)(h3:Nm φ3)(h4:Hv φ4):sW (trunc (aJ 3 (eV φ1 φ2 φ3 φ4))):=λn cs t μ n1 n2 hc ht=>by
 apply bJ
 cases t with
 |cell n=>simp[nc,cLt,ThT]at ht
 |ro ds=>
  generalize bK cs=C
  simp[eV,lH,iV,wC]
 |tup ds=>
  obtain⟨hnc,ht⟩:=ht
  obtain⟨hl,hts⟩:=ht ds rfl
  by_cases hne:ds=[]
  .subst hne
   generalize bK cs=C
   simp[eV,lH]
  .have hem:ds.isEmpty=false:=by cases ds<;>simp_all
   have ef:=jV (all:=ds) (h:=hName 0) (tt:=eU (iw (MC (aj (ao 1) (aj (ao 0) (au))) φ1))) (fe:=ao 0) (δb:=[none,some (bK cs)]) (p:=λd=>!jk n cs d) (f:=λd=>d) (μ:=μ) ds λx hx=>by
    have e:=h1 n cs x μ n1 n2 hc (hts x hx)
    generalize bK cs=C at *
    exact⟨[some x,some C],by simp,by simp[e],λ_=>by simp⟩
   rw[List.map_id']at ef
   have ev:lH n cs (.tup ds)=(ds.all (jk n cs)&&vf n cs (ds.map stepOf)):=by
    show(!ds.isEmpty&&_)=_
    rw[hem];rfl
   rw[ev]
   have eF:(ds.filter λd=>!jk n cs d).isEmpty=ds.all (jk n cs):=by
    rw[Bool.eq_iff_iff,List.all_eq_true,List.isEmpty_iff,List.filter_eq_nil_iff]
    simp
   have z1:ds.length<=sizeLine:=Uy (by omega)
   have enE:∀(F:List D) μ,FN (.lst F) (.lst []) μ=some (.bl (!F.isEmpty),μ):=λF μ=>rfl
   have en:=enE (ds.filter λd=>!jk n cs d) μ
   rw[eF]at en
   generalize ds.filter (λd=>!jk n cs d)=FL at *
   cases ha:ds.all (jk n cs)with
   |false=>
    rw[ha]at en
    generalize bK cs=C at *
    simp[eV,hem,bZ,z1,ef,en,-Sv]
   |true=>
    rw[ha]at en
    obtain⟨hd,hx⟩:=xT hc hts ha
    generalize hxs:ds.map stepOf=xs at *
    have hxl:xs.length<=3000:=by rw[<-hxs];simpa using hl
    cases xs with
    |nil=>rw[List.map_nil]at hd;exact absurd hd hne
    |cons x0 xs0=>
     have a0:atI ds 0=some (cz x0):=by rw[hd];exact Am
     have i0:∀μ,bC (cz x0) μ=some [aG x0.1,.tup (x0.2.map pairD)]:=λ_=>rfl
     have b0:atI [aG x0.1,.tup (x0.2.map pairD)] 0=some (aG x0.1):=rfl
     have hcl:=hc.2.1
     have hx0:=hx x0 (by simp)
     have l1:=pF cs
     have ez:=Gu (k:=cs.length) (μ:=μ) (by omega)
     have er:=Rb x0.1 (List.replicate cs.length 0) μ
     rw[CK _ _ hx0.1]at er
     have al:atI ds (-1)=some (cz (nM (x0::xs0))):=by rw[hd];exact zF (by simp)
     have hxl':=hx _ (CJ (xs:=x0::xs0) (by simp))
     have em:=h2 n cs _ μ n1 n2 hc hxl'
     have eno:=h3 _ μ (lA n1 n2 hc hxl')
     have eb:=bW (all:=bO 0 ((x0::xs0).length-1)) (h:=hName 0) (fe:=MC (aj (ao 1) (aj (M2 (ao 2) (ao 0) oIx) (aj (M2 (ao 2) (M2 (ao 0) (mC (.int 1)) cN) oIx) (au)))) φ4) (δb:=[none,some (bK cs),some (.tup ds)]) (F:=λk:Nat=>D.int (0+(k:Int))) (f:=λk=>.bl (jK n cs ((x0::xs0).getD k ([],[])) ((x0::xs0).getD (k+1) ([],[])))) (μ:=μ) (List.range ((x0::xs0).length-1)) λk hk=>by
      have hk:=List.mem_range.mp hk
      have g1:=gR (F:=cz) (l:=x0::xs0) (k:=0+(k:Int)) (z:=([],[])) (by omega) (by omega)
      have g2:=gR (F:=cz) (l:=x0::xs0) (k:=0+(k:Int)+1) (z:=([],[])) (by omega) (by omega)
      rw[<-hd]at g1 g2
      rw[show(0+(k:Int)).toNat=k by omega]at g1
      rw[show(0+(k:Int)+1).toNat=k+1 by omega]at g2
      have e:=h4 n cs _ _ μ n1 n2 hc (hx _ g1.2) (hx _ g2.2)
      obtain⟨g1,_⟩:=g1
      obtain⟨g2,_⟩:=g2
      refine⟨[some (.int (0+(k:Int))),some (bK cs),some (.tup ds)],by simp,?_⟩
      generalize jK n cs ((x0::xs0).getD k ([],[])) ((x0::xs0).getD (k+1) ([],[]))=v at *
      generalize cz ((x0::xs0).getD k ([],[]))=X at *
      generalize cz ((x0::xs0).getD (k+1) ([],[]))=Y at *
      generalize bK cs=C at *
      generalize (0+(k:Int))=kk at *
      simp[g1,g2,e]
     have eb:lcL ⟨bO 0 ((x0::xs0).length-1),none⟩ (hName 0) aQ (MC (aj (ao 1) (aj (M2 (ao 2) (ao 0) oIx) (aj (M2 (ao 2) (M2 (ao 0) (mC (.int 1)) cN) oIx) (au)))) φ4) [none,some (bK cs),some (.tup ds)] (bO 0 ((x0::xs0).length-1)) μ=some ((((gm (x0::xs0)).map λp=>jK n cs p.1 p.2).map D.bl),μ):=by
      refine(show lcL _ _ _ _ _ (bO 0 ((x0::xs0).length-1)) μ=_ from eb).trans ?_
      rw[zx ([],[]),List.map_map,List.map_map];rfl
     have ein:=Uh (μ:=μ) ((gm (x0::xs0)).map λp=>jK n cs p.1 p.2)
     have hA:(((gm (x0::xs0)).map λp=>jK n cs p.1 p.2).all λb=>b)=(gm (x0::xs0)).all λp=>jK n cs p.1 p.2:=by rw[List.all_map];rfl
     rw[hA]at ein
     rw[Jf,List.headD_cons]
     obtain⟨m,hm⟩:∃m:Int,m=ds.length:=⟨_,rfl⟩
     have lm:∀μ,cJ (.tup ds) μ=some (.int m,μ):=λμ=>by rw[Fd,hm]
     have hml:ds.length=(x0::xs0).length:=by rw[hd];simp
     have hpos:1<=(x0::xs0).length:=by simp
     have rr:=λμ=>qW (j:=m-1) (μ:=μ) (by omega) (by omega)
     rw[show(m-1).toNat=(x0::xs0).length-1 by omega]at rr
     have z2:(bO 0 ((x0::xs0).length-1)).length<=sizeLine:=Uy (by rw[cu];omega)
     obtain⟨kc,hkc⟩:∃kc:Int,kc=cs.length:=⟨_,rfl⟩
     rw[<-hkc]at l1 ez
     have ez':∀μ,cF (.tup [.int 0]) (.int kc) μ=some (aG (List.replicate cs.length 0),μ):=λμ=>by rw[hkc];exact Gu (by omega)
     generalize ((gm (x0::xs0)).map λp=>jK n cs p.1 p.2).map D.bl=BL at *
     generalize ((gm (x0::xs0)).all λp=>jK n cs p.1 p.2)=v1 at *
     generalize x0.1.all (λx=>x==0)=u1 at *
     generalize noB (cC n cs (nM (x0::xs0)))=u2 at *
     generalize aG (cC n cs (nM (x0::xs0)))=R1 at *
     generalize cz (nM (x0::xs0))=SL at *
     generalize aG (List.replicate cs.length 0)=ZR at *
     generalize aG x0.1=R3 at *
     generalize cz x0=S0 at *
     generalize D.tup (x0.2.map pairD)=S1 at *
     generalize bO 0 ((x0::xs0).length-1)=I at *
     generalize bK cs=C at *
     clear hx hd hxl ht hnc hts ev hx0 hxl' hml eF
     unfold eV
     cases u1<;>cases u2<;>simp[hem,bZ,z1,ef,en,a0,i0,b0,l1,ez',er,al,em,eno,lm,rr,z2,eb,ein,-Sv,-Fd]
 |_=>
  generalize bK cs=C
  simp[eV,lH]
def ur(φ:FF):Prop:=∀(L:List Int)(rest:Mu)(n most:Int),DlD L->jb rest->1<=n->n<=20->1<=most->most<=16->∃(rs:List (List Int))(L':List Int),φ [.cell 0,.int n,.int most] (some (L.map .int)::rest)=some (.lst (rs.map aG),some (L'.map .int)::rest)/\DlD L'/\rs≠[]/\rs.length<=40/\jA n 40 rs
def Dy(n:Int)(rest:Mu)(t:D)(μ':Mu):Prop:=∃(rs:List (List Int))(L':List Int),t= .lst (rs.map aG)/\μ'=some (L'.map .int)::rest/\DlD L'/\rs≠[]/\rs.length<=40/\jA n 40 rs
theorem Dy.fin{n:Int}{rs:List (List Int)}{L':List Int}{junk rest:Mu}(hm:jb rest)(hL:DlD L')(h1:rs≠[])(h2:rs.length<=40)(h3:jA n 40 rs):∃μ',(∃x,(some (L'.map D.int)::(rest++junk):Mu)=μ'++x)/\μ'.length=rest.length+1/\jb μ'/\nc (.lst (rs.map aG))/\Dy n rest (.lst (rs.map aG)) μ':=
 ⟨some (L'.map .int)::rest,⟨junk,rfl⟩,rfl,hm.dr,sH.mpr λd h=>by
  obtain⟨q,_,rfl⟩:=Zq.mp h
  exact gM.mpr oW,rs,L',rfl,rfl,hL,h1,h2,h3⟩
theorem Gq{φ1 φ2 φ3:FF}(h1:jY φ1)(h2:isArrow φ2)(h3:Gk φ3):ur (trunc (aJ 7 (mZ φ1 φ2 φ3))):=λL rest n most hL hm n1 n2 m1 m2=>by
 suffices key:∃t μ',trunc (aJ 7 (mZ φ1 φ2 φ3)) [.cell 0,.int n,.int most] (some (L.map .int)::rest)=some (t,μ')/\Dy n rest t μ' by
  obtain⟨t,μ',e,rs,L',rfl,rfl,h⟩:=key
  exact⟨rs,L',e,h⟩
 apply NQ
 apply rW
 obtain⟨x,L1,e1,hx,hL1⟩:=jC h1 hL rest
 have v9:=λμ=>Ak (i:=x) (j:=9) (μ:=μ) (by decide) (by decide)
 have v9000:=λμ=>Ak (i:=x) (j:=9000) (μ:=μ) (by decide) (by decide)
 obtain⟨j0,j1⟩:=cW (x:=x.fdiv 9) (m:=most) (by omega)
 have wm:=λμ=>mY (x:=x.fdiv 9) (y:=most) μ (by omega)
 obtain⟨d0,d1⟩:=cW (x:=x) (m:=9) (by decide)
 generalize hmv:(x.fdiv 9).fmod most=mv at *
 obtain⟨many,hmn⟩:∃many:Int,1+mv=many:=⟨_,rfl⟩
 generalize hkd:x.fmod 9=kd at *
 obtain⟨rows,L2,e3,hL2,hrl,hr⟩:=LQ h1 h2 n kd n1 n2 (bO 0 many.toNat) rest (bO 0 many.toNat) L1 hL1
 rw[cu]at hrl
 have rm:=λμ=>qW (j:=many) (μ:=μ) (by omega) (by omega)
 have rn:=λμ=>qW (j:=n) (μ:=μ) (by omega) (by omega)
 have zm:many.toNat<=1000:=by omega
 have zn:n.toNat<=1000:=by omega
 have hrl16:rows.length<=16:=by omega
 have hne:rows≠[]:=λz=>by rw[z]at hrl;simp at hrl;omega
 unfold mZ
 have hkc:kd=5∨kd=6∨kd=7∨kd=8∨(kd≠5/\kd≠6/\kd≠7/\kd≠8):=by omega
 rcases hkc with rfl|rfl|rfl|rfl|⟨k5,k6,k7,k8⟩
 .
  have v2:=λμ=>Ak (i:=many) (j:=2) (μ:=μ) (by decide) (by decide)
  have hq0:0<=1+many.fdiv 2:=by
   have:0<=many.fdiv 2:=Int.fdiv_nonneg (by omega) (by decide)
   omega
  have hc1:(some (L2.map .int)::(rest++[some (rows.map aV)]):Mu)[rest.length+1]? =some (some (rows.map aV)):=by simp
  have es:=Tw (i:=1+many.fdiv 2) hc1 hq0
  rw[<-List.map_take]at es
  generalize hTT:rows.take (1+many.fdiv 2).toNat=TT at *
  have hTr:∀r∈TT,r∈rows:=λr h=>by rw[<-hTT]at h;exact List.mem_of_mem_take h
  have hTl:TT.length<=16:=by rw[<-hTT,List.length_take];omega
  have en:=VP (TT.map aV) (some (L2.map .int)::(rest++[some (rows.map aV)])) TT (λr h=>by have:=(hr r (hTr r h)).1;omega)
  have zt:(TT.map aV).length<=1000:=by simp;omega
  have hcat:rows.map aV++(TT.map λ(r:List Int)=>r.map λz=>0-z).map aV=(rows++TT.map λ(r:List Int)=>r.map λz=>0-z).map aV:=by rw[List.map_append]
  have hcz:(rows.map aV).length+((TT.map λ(r:List Int)=>r.map λz=>0-z).map aV).length<=sizeLine:=szl (by simp;omega)
  have hRR:jA n 30 (rows++TT.map λ(r:List Int)=>r.map λz=>0-z):=λr h=>by
   rcases Zm.mp h with z|z
   .exact lF hr (by decide) r z
   .obtain⟨q,hq,rfl⟩:=Zq.mp z
    obtain⟨a,b⟩:=hr q (hTr q hq)
    refine⟨by simp[a],λy hy=>?_⟩
    obtain⟨w,hw,rfl⟩:=Zq.mp hy
    exact Fj (cU (b w hw) (by decide))
  obtain⟨rs,et,f1,f2,f3⟩:=ql h3 (x.fdiv 9000) n (rows++TT.map λ(r:List Int)=>r.map λz=>0-z) L2 (some (L2.map .int)::(rest++[some (rows.map aV),none])) n1 n2 (by simp[hne]) (by simp;omega) hRR
  rw[<-hcat]at et
  generalize (TT.map λ(r:List Int)=>r.map λz=>0-z).map aV=ND at *
  generalize TT.map aV=TD at *
  generalize hRD:rows.map aV=RD at *
  simp[e1,v9,wm,hmv,hmn,hkd,rm,cu,zm,bZ,e3,v2,es,zt,en,pP,hcz,v9000,et]
  exact Dy.fin hm hL2 f1 f2 f3
 .
  have hc1:(some (L2.map .int)::(rest++[some (rows.map aV)]):Mu)[rest.length+1]? =some (some (rows.map aV)):=by simp
  have es:=Ti n.toNat (bO 0 n.toNat) (some (L2.map .int)::(rest++[some (rows.map aV)])) rows hc1 (by omega) (λr h=>(hr r h).1)
  have hcat:rows.map aV++[aV (oM n.toNat rows)]=(rows++[oM n.toNat rows]).map aV:=by rw[List.map_append];rfl
  have hcz:(rows.map aV).length<sizeLine:=Zc (by simp;omega:_<1000) (by decide)
  have hRR:jA n 30 (rows++[oM n.toNat rows]):=λr h=>by
   rcases Zm.mp h with z|z
   .exact lF hr (by decide) r z
   .rw[List.mem_singleton.mp z]
    unfold oM
    refine⟨by simp,λy hy=>?_⟩
    obtain⟨k,hk,rfl⟩:=Zq.mp hy
    have hk:=List.mem_range.mp hk
    refine Fj ?_
    have hb:=wu (b:=20) (rows.map λr=>r.getD k 0) λw hw=>by
     obtain⟨r,hrm,rfl⟩:=Zq.mp hw
     obtain⟨a,b⟩:=hr r hrm
     have:r.getD k 0=r[k]:=by simp[List.getD,a,hk]
     rw[this];exact b _ (List.getElem_mem _)
    rw[Zu]at hb
    have h16:rows.length*2 ^ 20<=16*2 ^ 20:=Nat.mul_le_mul_right _ hrl16
    unfold Sm
    have:(2:Nat) ^ 30=1073741824:=by decide
    have:(2:Nat) ^ 20=1048576:=by decide
    omega
  obtain⟨rs,et,f1,f2,f3⟩:=ql h3 (x.fdiv 9000) n (rows++[oM n.toNat rows]) L2 (some (L2.map .int)::(rest++[none])) n1 n2 (by simp) (by simp;omega) hRR
  rw[<-hcat]at et
  unfold aV at et
  unfold aV at hcz es e3
  generalize (oM n.toNat rows).map D.int=SD at *
  generalize rows.map (λr=>D.lst (r.map D.int))=RD at *
  simp[e1,v9,wm,hmv,hmn,hkd,rm,rn,cu,zm,zn,bZ,e3,es,lX,jR,hcz,v9000,et]
  exact Dy.fin hm hL2 f1 f2 f3
 .
  cases rows with
  |nil=>exact absurd rfl hne
  |cons r0 rt=>
   have hc1:(some (L2.map .int)::(rest++[some ((r0::rt).map aV)]):Mu)[rest.length+1]? =some (some ((r0::rt).map aV)):=by simp
   have es:=Rx r0 (some (L2.map .int)::(rest++[some ((r0::rt).map aV)])) rt hc1
   have esrc:srcOf (.cell (rest.length+1)) (some (L2.map .int)::(rest++[some ((r0::rt).map aV)]))=some ⟨(r0::rt).map aV,some (rest.length+1)⟩:=by simp[srcOf]
   have hz:((r0::rt).map aV).length<=1000:=by simp at hrl16 ⊢;omega
   have hRR:jA n 30 ((r0::rt).map λ_=>r0):=λr h=>by
    obtain⟨q,_,rfl⟩:=Zq.mp h
    exact lF hr (by decide) r0 (by simp)
   obtain⟨rs,et,f1,f2,f3⟩:=ql h3 (x.fdiv 9000) n ((r0::rt).map λ_=>r0) L2 (some (L2.map .int)::(rest++[some ((r0::rt).map aV),none])) n1 n2 (by simp) (by simp at hrl16 ⊢;omega) hRR
   generalize ((r0::rt).map λ_=>r0).map aV=ND at *
   generalize (r0::rt).map aV=RD at *
   simp[e1,v9,wm,hmv,hmn,hkd,rm,cu,zm,bZ,e3,esrc,hz,es,v9000,et]
   exact Dy.fin hm hL2 f1 f2 f3
 .
  cases rows with
  |nil=>exact absurd rfl hne
  |cons r0 rt=>
   have hc1:(some (L2.map .int)::(rest++[some ((r0::rt).map aV)]):Mu)[rest.length+1]? =some (some ((r0::rt).map aV)):=by simp
   obtain⟨q1,q2⟩:=hr r0 (by simp)
   have es:=TX many.toNat r0 (bO 0 many.toNat) (some (L2.map .int)::(rest++[some ((r0::rt).map aV)])) rt hc1 (by omega) q2
   have hRR:jA n 30 ((List.range many.toNat).map λj=>jO j r0):=λr h=>by
    obtain⟨j,_,rfl⟩:=Zq.mp h
    unfold jO
    refine⟨by simp[q1],λy hy=>?_⟩
    obtain⟨w,hw,rfl⟩:=Zq.mp hy
    obtain⟨f0,f1⟩:=cW (x:=0+(j:Int)) (m:=5) (by decide)
    exact cU (nR (vU (b:=4) 7 (by omega) (by decide)) (q2 w hw)) (by decide)
   obtain⟨rs,et,f1,f2,f3⟩:=ql h3 (x.fdiv 9000) n ((List.range many.toNat).map λj=>jO j r0) L2 (some (L2.map .int)::(rest++[some ((r0::rt).map aV),none])) n1 n2 (λz=>by
    have:=congrArg List.length z
    simp at this;omega) (by simp;omega) hRR
   generalize ((List.range many.toNat).map λj=>jO j r0).map aV=ND at *
   generalize (r0::rt).map aV=RD at *
   simp[e1,v9,wm,hmv,hmn,hkd,rm,cu,zm,bZ,e3,es,v9000,et]
   exact Dy.fin hm hL2 f1 f2 f3
 .have b5:(kd==5)=false:=by simpa using k5
  have b6:(kd==6)=false:=by simpa using k6
  have b7:(kd==7)=false:=by simpa using k7
  have b8:(kd==8)=false:=by simpa using k8
  obtain⟨rs,et,f1,f2,f3⟩:=ql h3 (x.fdiv 9000) n rows L2 (some (L2.map .int)::(rest++[none])) n1 n2 hne (by omega) (lF hr (by decide))
  generalize rows.map aV=RD at *
  simp[e1,v9,wm,hmv,hmn,hkd,rm,cu,zm,bZ,e3,b5,b6,b7,b8,v9000,et]
  exact Dy.fin hm hL2 f1 f2 f3
theorem Hy{φ1 φ2:FF}(h1:jY φ1)(h2:isArrow φ2)(n:Int)(n1:1<=n)(n2:n<=20)(all:List D)(rest:Mu):∀(its:List D)(L:List Int),DlD L->∃(rows:List (List Int))(L':List Int),
  lcL ⟨all,none⟩ (hName 0) aQ (MC (aj (MC (aj (ao 1) (au)) φ1) (aj (ao 2) (aj (M2 (MC (aj (ao 1) (au)) φ1) (mC (.int 2)) oMod) (au)))) φ2) [none,some (.cell 0),some (.int n)] its (some (L.map .int)::rest)=some (rows.map aV,some (L'.map .int)::rest)/\DlD L'/\rows.length=its.length/\jA n 20 rows
 | [],L,hL=>⟨[],L,by unfold lcL;simp[bD],hL,rfl,λr h=>by cases h⟩
 |i::its,L,hL=>by
  obtain⟨x,L1,e1,hx,hL1⟩:=jC h1 hL rest
  obtain⟨y,L2,e2,hy,hL2⟩:=jC h1 hL1 rest
  obtain⟨y0,y1⟩:=cW (x:=y) (m:=2) (by decide)
  obtain⟨r,e3,hr1,hr2⟩:=h2 x n (y.fmod 2) (some (L2.map .int)::rest) n1 n2 y0 (by omega)
  obtain⟨rows,L',e,hL',hl,hq⟩:=Hy h1 h2 n n1 n2 all rest its L2 hL2
  refine⟨r::rows,L',?_,hL',by simp[hl],λq hq'=>?_⟩
  .unfold lcL
   simp[bD,aQ,e1,e2,e3,e]
  .rcases Zi.mp hq' with z|z
   .rw[z];exact⟨hr1,λy hy=>vU 1000001 (by have:=hr2 y hy;omega) (by decide)⟩
   .exact hq q z
theorem Ju{φ:FF}(hφ:mF φ)(x:Int)(all:List D)(μ:Mu):∀(its:List D),(∀i∈its,∃k:Int,i= .int k/\0<=k/\k<100)->∃ss:List Int,
  lcL ⟨all,none⟩ (hName 0) aQ (M2 (mC (.int 1)) (M2 (MC (aj (ao 1) (aj (ao 0) (au))) φ) (mC (.int 3)) oMod) cN) [none,some (.int x)] its μ=some (ss.map .int,μ)/\ss.length=its.length/\∀s∈ss,1<=s/\s<=3
 | [],_=>⟨[],by unfold lcL;simp[bD],rfl,λs h=>by cases h⟩
 |i::its,hi=>by
  obtain⟨k,rfl,k0,k1⟩:=hi i (by simp)
  obtain⟨r,e1,hr⟩:=hφ x k μ k0 (by omega)
  obtain⟨r0,r1⟩:=cW (x:=r) (m:=3) (by decide)
  obtain⟨ss,e,hl,hs⟩:=Ju hφ x all μ its λj hj=>hi j (by simp[hj])
  refine⟨(1+r.fmod 3)::ss,?_,by simp[hl],λs hs'=>?_⟩
  .unfold lcL
   simp[bD,aQ,e1,e]
  .rcases Zi.mp hs' with z|z
   .rw[z];omega
   .exact hs s z
def vR(m n:Nat)(ss:List Int)(rows:List (List Int)):List Int:=(List.range n).map λk=>0-((List.range m).map λj=>ss.getD j 0*(rows.getD j []).getD k 0).sum
theorem Qg{c:Nat}(n:Nat)(many:Int)(all:List D)(μ:Mu)(rows:List (List Int))(ss:List Int)(hc:μ[c]? =some (some (rows.map aV)))(m0:0<=many)(hm:many=rows.length)(hm2:many<=40)(hss:ss.length=rows.length)(hs:∀s∈ss,1<=s/\s<=3)(hr:∀r∈rows,r.length=n/\∀z∈r,Sm 20 z):
  lcL ⟨all,none⟩ (hName 0) aQ (M2 (mC (.int 0)) (uP (mJ (mFz (lLC ["_law_j"] [2,3,0] (bN (aj (ao 1) (au))) (hName 0) (aQ) (M2 (M2 (ao 1) (ao 0) oIx) (M2 (M2 (ao 2) (ao 0) oIx) (ao 3) oIx) cF))))) jg) [none,some (.int many),some (.lst (ss.map .int)),some (.cell c)] (bO 0 n) μ=some ((vR many.toNat n ss rows).map .int,μ):=by
 have e:=bW (all:=all) (h:=hName 0) (fe:=M2 (mC (.int 0)) (uP (mJ (mFz (lLC ["_law_j"] [2,3,0] (bN (aj (ao 1) (au))) (hName 0) (aQ) (M2 (M2 (ao 1) (ao 0) oIx) (M2 (M2 (ao 2) (ao 0) oIx) (ao 3) oIx) cF))))) jg) (δb:=[none,some (.int many),some (.lst (ss.map .int)),some (.cell c)]) (F:=λk:Nat=>D.int (0+(k:Int))) (f:=λk=>.int (0-((List.range many.toNat).map λj=>ss.getD j 0*(rows.getD j []).getD k 0).sum)) (μ:=μ) (List.range n) λk hk=>by
  have hk:=List.mem_range.mp hk
  refine⟨[some (.int (0+(k:Int))),some (.int many),some (.lst (ss.map .int)),some (.cell c)],by simp,?_⟩
  have ic:bC (.cell c) μ=some (rows.map aV):=by show(match μ[c]? with|some (some ds)=>some ds|_=>none)=_;rw[hc]
  have e2:=bW (all:=bO 0 many.toNat) (h:=hName 0) (fe:=M2 (M2 (ao 1) (ao 0) oIx) (M2 (M2 (ao 2) (ao 0) oIx) (ao 3) oIx) cF) (δb:=[none,some (.lst (ss.map .int)),some (.cell c),some (.int (0+(k:Int)))]) (F:=λj:Nat=>D.int (0+(j:Int))) (f:=λj=>.int (ss.getD j 0*(rows.getD j []).getD k 0)) (μ:=μ) (List.range many.toNat) λj hj=>by
   have hj:=List.mem_range.mp hj
   have a1:=iu (ys:=ss) (k:=0+(j:Int)) (by omega) (by omega)
   have a2:=gR (F:=aV) (l:=rows) (k:=0+(j:Int)) (z:=[]) (by omega) (by omega)
   rw[show(0+(j:Int)).toNat=j by omega]at a1 a2
   have hrj:=hr _ a2.2
   have a3:=iu (ys:=rows.getD j []) (k:=0+(k:Int)) (by omega) (by rw[hrj.1];omega)
   rw[show(0+(k:Int)).toNat=k by omega]at a3
   have s1:=hs _ a1.2
   have em:=bV (x:=ss.getD j 0) (y:=(rows.getD j []).getD k 0) μ (vU (b:=10) 4 (by omega) (by decide)) (hrj.2 _ a3.2) (by decide)
   have il:bC (aV (rows.getD j [])) μ=some ((rows.getD j []).map D.int):=rfl
   refine⟨[some (.int (0+(j:Int))),some (.lst (ss.map .int)),some (.cell c),some (.int (0+(k:Int)))],by simp,?_⟩
   obtain⟨a1,_⟩:=a1
   obtain⟨a2,_⟩:=a2
   obtain⟨a3,_⟩:=a3
   generalize ss.getD j 0*(rows.getD j []).getD k 0=P at *
   generalize ss.getD j 0=S at *
   generalize (rows.getD j []).getD k 0=T at *
   generalize aV (rows.getD j [])=LR at *
   generalize (rows.getD j []).map D.int=RD at *
   generalize (0+(k:Int))=kk at *
   generalize (0+(j:Int))=jj at *
   generalize ss.map D.int=SD at *
   generalize rows.map aV=RS at *
   simp[a1,ic,a2,il,a3,em]
  have e2:lcL ⟨bO 0 many.toNat,none⟩ (hName 0) aQ (M2 (M2 (ao 1) (ao 0) oIx) (M2 (M2 (ao 2) (ao 0) oIx) (ao 3) oIx) cF) [none,some (.lst (ss.map .int)),some (.cell c),some (.int (0+(k:Int)))] (bO 0 many.toNat) μ=_:=e2
  have e3:(List.range many.toNat).map (λj=>D.int (ss.getD j 0*(rows.getD j []).getD k 0))=((List.range many.toNat).map λj=>ss.getD j 0*(rows.getD j []).getD k 0).map D.int:=by simp
  rw[e3]at e2
  have es:=sum_ints μ ((List.range many.toNat).map λj=>ss.getD j 0*(rows.getD j []).getD k 0) 0
  rw[Int.zero_add]at es
  have hz:(bO 0 many.toNat).length<=sizeLine:=szl (by rw[cu];omega)
  have rr:=qW (j:=many) (μ:=μ) (by omega) (by omega)
  generalize ((List.range many.toNat).map λj=>ss.getD j 0*(rows.getD j []).getD k 0).sum=S at *
  generalize ((List.range many.toNat).map λj=>ss.getD j 0*(rows.getD j []).getD k 0).map D.int=W at *
  generalize bO 0 many.toNat=I at *
  generalize ss.map D.int=SD at *
  generalize (0+(k:Int))=kk at *
  have a0:jg (.int 0) (.int S) μ=some (.int (0-S),μ):=Er
  generalize (0-S)=S' at *
  simp[rr,hz,bZ,e2,es,a0,-Er]
 have e':(List.range n).map (λk=>D.int (0-((List.range many.toNat).map λj=>ss.getD j 0*(rows.getD j []).getD k 0).sum))=(vR many.toNat n ss rows).map .int:=by unfold vR;rw[List.map_map];rfl
 rw[e']at e
 exact e
theorem Qi{m n:Nat}{ss:List Int}{rows:List (List Int)}(hm:m=rows.length)(hm4:m<=4)(hss:ss.length=rows.length)(hs:∀s∈ss,1<=s/\s<=3)(hr:∀r∈rows,r.length=n/\∀z∈r,Sm 20 z):(vR m n ss rows).length=n/\∀z∈vR m n ss rows,Sm 30 z:=by
 unfold vR
 refine⟨by simp,λy hy=>?_⟩
 obtain⟨k,hk,rfl⟩:=Zq.mp hy
 have hk:=List.mem_range.mp hk
 refine Fj ?_
 have hb:=wu (b:=24) ((List.range m).map λj=>ss.getD j 0*(rows.getD j []).getD k 0) λw hw=>by
  obtain⟨j,hj,rfl⟩:=Zq.mp hw
  have hj:=List.mem_range.mp hj
  have a1:=(iu (ys:=ss) (k:=(j:Int)) (by omega) (by omega)).2
  have a2:=(gR (F:=aV) (l:=rows) (k:=(j:Int)) (z:=[]) (by omega) (by omega)).2
  rw[show(j:Int).toNat=j by omega]at a1 a2
  have hrj:=hr _ a2
  have a3:=(iu (ys:=rows.getD j []) (k:=(k:Int)) (by omega) (by rw[hrj.1];omega)).2
  rw[show(k:Int).toNat=k by omega]at a3
  have s1:=hs _ a1
  exact cU (nR (vU (b:=4) 4 (by omega) (by decide)) (hrj.2 _ a3)) (by decide)
 rw[Zu,List.length_range]at hb
 have h16:m*2 ^ 24<=4*2 ^ 24:=Nat.mul_le_mul_right _ hm4
 unfold Sm
 have:(2:Nat) ^ 30=1073741824:=by decide
 have:(2:Nat) ^ 24=16777216:=by decide
 omega
theorem Eo{φ:FF}(hφ:mF φ)(x:Int)(all:List D)(μ:Mu):∀(js:List Nat),(∀j∈js,j<100)->∃kss:List (List Int),
  lcL ⟨all,none⟩ (hName 0) aQ (MC (aj (MC (aj (ao 1) (aj (M2 (ao 0) (mC (.int 2)) cN) (au))) φ) (aj (ao 0) (au))) oTup) [none,some (.int x)] (js.map λ(j:Nat)=>D.int (0+(j:Int))) μ=some (kss.map aG,μ)/\kss.length=js.length/\∀i,i<js.length->∃r,kss.getD i []=[r,(js.getD i 0:Int)]/\Dr r
 | [],_=>⟨[],by unfold lcL;simp[bD],rfl,λi hi=>absurd hi (by simp)⟩
 |j::js,hj=>by
  have j1:=hj j (by simp)
  obtain⟨r,e1,hr⟩:=hφ x (0+(j:Int)+2) μ (by omega) (by omega)
  obtain⟨kss,e,hl,hk⟩:=Eo hφ x all μ js λi hi=>hj i (by simp[hi])
  refine⟨[r,(j:Int)]::kss,?_,by simp[hl],λi hi=>?_⟩
  .rw[Zj]
   unfold lcL
   have er:D.tup [.int r,.int (0+(j:Int))]=aG [r,(j:Int)]:=by rw[Int.zero_add];rfl
   have z2:2<=sizeLine:=szl (by decide)
   generalize (js.map λ(j:Nat)=>D.int (0+(j:Int)))=JS at *
   generalize (0+(j:Int))=jj at *
   simp[bD,aQ,e1,z2,er,e]
  .cases i with
   |zero=>exact⟨r,rfl,hr⟩
   |succ i=>exact hk i (by simpa using hi)
def Hr(φ:FF):Prop:=∀(L:List Int)(rest:Mu)(ds:List D),DlD L->jb rest->(∀d∈ds,nc d)->ds≠[]->ds.length<64->∃(es:List D)(L':List Int),φ [.cell 0,.cell (rest.length+1)] (some (L.map .int)::(rest++[some ds]))=some (.lst es,some (L'.map .int)::(rest++[some ds]))/\DlD L'/\es.length=ds.length/\∀e∈es,e∈ds
theorem Qu{φ1 φ2:FF}(h1:jY φ1)(h2:mF φ2):Hr (trunc (aJ 4 (gW φ1 φ2))):=λL rest ds hL hm hnc hne hl=>by
 obtain⟨x,L1,e1,hx,hL1⟩:=jC h1 hL (rest++[some ds])
 have hpos:=List.length_pos_iff.mpr hne
 obtain⟨kss,e2,hkl,hk⟩:=Eo h2 x (bO 0 ds.length) (some (L1.map .int)::(rest++[some ds])) (List.range ds.length) (λj hj=>by have:=List.mem_range.mp hj;omega)
 have e2:lcL ⟨bO 0 ds.length,none⟩ (hName 0) aQ (MC (aj (MC (aj (ao 1) (aj (M2 (ao 0) (mC (.int 2)) cN) (au))) φ2) (aj (ao 0) (au))) oTup) [none,some (.int x)] (bO 0 ds.length) (some (L1.map .int)::(rest++[some ds]))=_:=e2
 rw[List.length_range]at hkl hk
 obtain⟨oss,e3,hol,ho⟩:=wM hkl (by omega) hl (λi hi=>by
  obtain⟨r,e,hr⟩:=hk i hi
  refine⟨r,?_,hr⟩
  rw[e]
  simp[List.getD,hi])
 have hc:(some (L1.map .int)::(rest++[some ds]):Mu)[rest.length+1]? =some (some ds):=by simp
 have hii:∀L:List D,bC (.cell (rest.length+1)) (some L::(rest++[some ds]))=some ds:=λL=>by
  have:(some L::(rest++[some ds]):Mu)[rest.length+1]? =some (some ds):=by simp
  show(match(some L::(rest++[some ds]):Mu)[rest.length+1]? with|some (some ds)=>some ds|_=>none)=_
  rw[this]
 obtain⟨nn,hnn⟩:∃nn:Int,nn=ds.length:=⟨_,rfl⟩
 have hlc:∀L:List D,cJ (.cell (rest.length+1)) (some L::(rest++[some ds]))=some (.int nn,some L::(rest++[some ds])):=λL=>by
  show((bC (.cell (rest.length+1)) (some L::(rest++[some ds]))).map λds=>(D.int ds.length,_))=_
  rw[hii L,hnn];rfl
 have hic:=hii (L1.map .int)
 have ef:=bW (all:=oss.map aG) (h:=hName 0) (fe:=M2 (ao 1) (M2 (ao 0) (mC (.int 1)) oIx) oIx) (δb:=[none,some (.cell (rest.length+1))]) (F:=aG) (f:=λo=>ds.getD (o.getD 1 0).toNat .non) (μ:=some (L1.map .int)::(rest++[some ds])) oss λo hom=>by
  obtain⟨r,k,rfl,hk2,_⟩:=ho o hom
  have a1:atI [D.int r,.int (k:Int)] 1=some (.int (k:Int)):=rfl
  have a2:=gR (F:=λd:D=>d) (l:=ds) (k:=(k:Int)) (z:=.non) (by omega) (by omega)
  rw[List.map_id']at a2
  have ir:∀μ,bC (aG [r,(k:Int)]) μ=some [.int r,.int (k:Int)]:=λ_=>rfl
  refine⟨[some (aG [r,(k:Int)]),some (.cell (rest.length+1))],by simp,?_⟩
  show _=some (ds.getD (k:Int).toNat .non,_)
  obtain⟨a2,_⟩:=a2
  generalize ds.getD (k:Int).toNat .non=X at *
  generalize aG [r,(k:Int)]=R at *
  generalize (k:Int)=kk at *
  generalize rest++[some ds]=RR at *
  simp[ir,a1,hic,a2]
 refine⟨oss.map λo=>ds.getD (o.getD 1 0).toNat .non,L1,?_,hL1,by rw[Zu,hol],λe he=>?_⟩
 .have hnE:∀e∈oss.map (λo=>ds.getD (o.getD 1 0).toNat .non),nc e:=λe he=>by
   obtain⟨o,hom,rfl⟩:=Zq.mp he
   obtain⟨r,k,rfl,hk2,_⟩:=ho o hom
   have a2:=(gR (F:=λd:D=>d) (l:=ds) (k:=(k:Int)) (z:=.non) (by omega) (by omega)).2
   exact hnc _ a2
  have hmu:jb (some (L1.map .int)::(rest++[some ds])):=jb.dr λes hes=>by
   rcases Zm.mp hes with w|w
   .exact hm es w
   .cases List.mem_singleton.mp w;exact hnc
  generalize (oss.map λo=>ds.getD (o.getD 1 0).toNat .non)=ES at *
  have hzl:(bO 0 ds.length).length<=sizeLine:=szl (by rw[cu];omega)
  have hzo:(oss.map aG).length<=sizeLine:=szl (by simp;omega)
  have z64:(kss.map aG).length<64:=by simpa[hkl]using hl
  have rr:=qW (j:=nn) (μ:=some (L1.map .int)::(rest++[some ds])) (by omega) (by omega)
  rw[show nn.toNat=ds.length by omega]at rr
  have key:Ok (aJ 4 (gW φ1 φ2) [.cell 0,.cell (rest.length+1)] (some (L.map .int)::(rest++[some ds]))) (λr=>r=(.lst ES,some (L1.map .int)::(rest++[some ds]))):=by
   apply rW
   generalize bO 0 ds.length=I at *
   generalize rest++[some ds]=RR at *
   generalize kss.map aG=KD at *
   generalize oss.map aG=OD at *
   unfold gW
   simp[e1,hlc,rr,hzl,bZ,e2,pP,e3,hzo,ef]
  exact sY (junk:=[]) (by simpa using MK key) (by simp) (sH.mpr hnE) hmu
 .obtain⟨o,hom,rfl⟩:=Zq.mp he
  obtain⟨r,k,rfl,hk2,_⟩:=ho o hom
  exact(gR (F:=λd:D=>d) (l:=ds) (k:=(k:Int)) (z:=.non) (by omega) (by omega)).2
theorem Nj(all:List D)(μ:Mu)(es:List D)(h:∀e∈es,∃r:List Int,e=aV r):∃c:Col,lcL ⟨all,none⟩ (hName 0) aQ (MC (aj (ao 0) (au)) gG) [none] es μ=some (c.map aG,μ)/\c.length=es.length/\∀r∈c,aV r∈es:=by
 have key:∃c:Col,es=c.map aV:=by
  clear all
  induction es with
  |nil=>exact⟨[],rfl⟩
  |cons e es ih=>
   obtain⟨r,rfl⟩:=h e (by simp)
   obtain⟨c,rfl⟩:=ih λe he=>h e (by simp[he])
   exact⟨r::c,rfl⟩
 obtain⟨c,rfl⟩:=key
 refine⟨c,?_,by simp,λr hr=>Zq.mpr ⟨r,hr,rfl⟩⟩
 have:=bW (all:=all) (h:=hName 0) (fe:=MC (aj (ao 0) (au)) gG) (δb:=[none]) (F:=aV) (f:=λr=>aG r) (μ:=μ) c λr _=>by
  have il:∀μ,bC (aV r) μ=some (r.map D.int):=λ_=>rfl
  have er:aG r= .tup (r.map D.int):=rfl
  rw[er]
  generalize aV r=R at *
  generalize r.map D.int=RD at *
  exact⟨[some R],by simp,by simp[il]⟩
 rw[this]
def qG(n:Int)(c:Col):Prop:=c≠[]/\c.length<=40/\jA n 40 c
def Aw(φ:FF):Prop:=∀(L:List Int)(rest:Mu)(n many:Int),DlD L->jb rest->1<=n->n<=20->1<=many->many<=4->∃(c:Col)(L':List Int),φ [.cell 0,.int n,.int many] (some (L.map .int)::rest)=some (dw c,some (L'.map .int)::rest)/\DlD L'/\qG n c
theorem QZ(r:List Int):nc (aV r):=sH.mpr oW
theorem QX{φ1 φ2 φ3 φ4:FF}(h1:jY φ1)(h2:isArrow φ2)(h3:mF φ3)(h4:Hr φ4):Aw (trunc (aJ 6 (fK φ1 φ2 φ3 φ4))):=λL rest n many hL hm n1 n2 m1 m2=>by
 suffices key:∃t μ',trunc (aJ 6 (fK φ1 φ2 φ3 φ4)) [.cell 0,.int n,.int many] (some (L.map .int)::rest)=some (t,μ')/\∃(c:Col)(L':List Int),t=dw c/\μ'=some (L'.map .int)::rest/\DlD L'/\qG n c by
  obtain⟨t,μ',e,c,L',rfl,rfl,h⟩:=key
  exact⟨c,L',e,h⟩
 apply NQ
 apply rW
 obtain⟨rows,L1,e1,hL1,hrl,hr⟩:=Hy h1 h2 n n1 n2 (bO 0 many.toNat) rest (bO 0 many.toNat) L hL
 rw[cu]at hrl
 obtain⟨x,L2,e2,hx,hL2⟩:=jC h1 hL1 (rest++[some (rows.map aV)])
 obtain⟨ss,e3,hsl,hs⟩:=Ju h3 x (bO 0 many.toNat) (some (L2.map .int)::(rest++[some (rows.map aV)])) (bO 0 many.toNat) (λi hi=>by
  obtain⟨j,rfl,j0,j1⟩:=wj hi
  exact⟨j,rfl,by omega,by omega⟩)
 rw[cu]at hsl
 have hc:(some (L2.map .int)::(rest++[some (rows.map aV)]):Mu)[rest.length+1]? =some (some (rows.map aV)):=by simp
 have e4:=Qg (c:=rest.length+1) n.toNat many (bO 0 n.toNat) (some (L2.map .int)::(rest++[some (rows.map aV)])) rows ss hc (by omega) (by omega) (by omega) (by omega) hs hr
 obtain⟨w1,w2⟩:=Qi (m:=many.toNat) (n:=n.toNat) (by omega) (by omega) (by omega) hs hr
 have rm:=λμ=>qW (j:=many) (μ:=μ) (by omega) (by omega)
 have rn:=λμ=>qW (j:=n) (μ:=μ) (by omega) (by omega)
 have zm:(bO 0 many.toNat).length<=sizeLine:=szl (by rw[cu];omega)
 have zn:(bO 0 n.toNat).length<=sizeLine:=szl (by rw[cu];omega)
 have zr:(rows.map aV).length<sizeLine:=Zc (by simp;omega:_<1000) (by decide)
 have hlw:D.lst ((vR many.toNat n.toNat ss rows).map .int)=aV (vR many.toNat n.toNat ss rows):=rfl
 have hcat:rows.map aV++[aV (vR many.toNat n.toNat ss rows)]=(rows++[vR many.toNat n.toNat ss rows]).map aV:=by simp
 have hR1:jA n 30 (rows++[vR many.toNat n.toNat ss rows]):=λr h=>by
  rcases Zm.mp h with z|z
  .exact lF hr (by decide) r z
  .rw[List.mem_singleton.mp z];exact⟨w1,w2⟩
 generalize vR many.toNat n.toNat ss rows=W at *
 have fin:∀R:List (List Int),jA n 30 R->R≠[]->R.length<=40->OkI ((bA (mFz (lLC ["_law_row"] [] (cI (MC (aj (ao 0) (aj (ao 3) (au))) φ4)) (hName 0) (aQ) (MC (aj (ao 0) (au)) gG)))) [some (.cell 0),some (.int n),some (.int many),some (.cell (rest.length+1)),some (.int x),some (.lst (ss.map .int))] (some (L2.map .int)::(rest++[some (R.map aV)]))) (Q:=⟨retS ⟨λr=>∃μ',(∃x,r.2=μ'++x)/\μ'.length=rest.length+1/\jb μ'/\nc r.1/\∃(c:Col),r.1=dw c/\∃x:List Int,μ'=some (x.map .int)::rest/\DlD x/\qG n c⟩⟩):=λR hR hne hl=>by
  obtain⟨es,L3,f1,hL3,fl,fm⟩:=h4 L2 rest (R.map aV) hL2 hm (λd hd=>by
   obtain⟨r,_,rfl⟩:=Zq.mp hd
   exact QZ r) (by simpa using hne) (by simp;omega)
  obtain⟨c,f2,cl,cm⟩:=Nj es (some (L3.map .int)::(rest++[some (R.map aV)])) es λe he=>by
   obtain⟨r,_,rfl⟩:=Zq.mp (fm e he)
   exact⟨r,rfl⟩
  rw[Zu]at fl
  have hpos:=List.length_pos_iff.mpr hne
  have zc:es.length<=sizeLine:=szl (by omega)
  have hg:qG n c:=by
   refine⟨λz=>by rw[z]at cl;simp at cl;omega,by omega,λr hr=>?_⟩
   obtain⟨q,hq,e⟩:=Zq.mp (fm _ (cm r hr))
   have e:r=q:=by
    unfold aV at e
    have e:q.map D.int=r.map D.int:=D.lst.inj e
    have:=congrArg (List.map intOf) e
    rw[ints_map,ints_map]at this
    exact this.symm
   rw[e]
   exact lF hR (by decide) q hq
  have hn:nc (dw c):=sH.mpr λd hd=>by
   obtain⟨r,_,rfl⟩:=Zq.mp hd
   exact gM.mpr oW
  have hcd:D.lst (c.map aG)=dw c:=rfl
  generalize R.map aV=RD at *
  generalize c.map aG=CD at *
  generalize ss.map D.int=SD at *
  simp[f1,zc,bZ,f2,hcd]
  exact⟨_,⟨[some RD],rfl⟩,by simp,hm.dr,hn,c,rfl,L3,rfl,hL3,hg⟩
 have live:∀X Y:List D,jR (some X::(rest++[some Y])) (rest.length+1)=true:=λX Y=>by
  unfold jR
  simp
 have fin1:=fin (rows++[W]) hR1 (by simp) (by simp;omega)
 unfold fK
 generalize hT:(bA (mFz _))=TL at fin fin1 ⊢
 by_cases h0:x.fmod 4=0
 .obtain⟨r,e5,hr1,hr2⟩:=h2 (x.fdiv 4) n 1 (some (L2.map .int)::(rest++[some ((rows++[W]).map aV)])) n1 n2 (by decide) (by decide)
  have hR2:jA n 30 (rows++[W]++[r]):=λq h=>by
   rcases Zm.mp h with z|z
   .exact hR1 q z
   .rw[List.mem_singleton.mp z];exact⟨hr1,λy hy=>vU 1000001 (by have:=hr2 y hy;omega) (by decide)⟩
  have fin2:=fin (rows++[W]++[r]) hR2 (by simp) (by simp;omega)
  have hcat2:(rows++[W]).map aV++[aV r]=(rows++[W]++[r]).map aV:=by simp
  have zr2:((rows++[W]).map aV).length<sizeLine:=Zc (by simp;omega:_<1000) (by decide)
  have v4:=λμ=>Ak (i:=x) (j:=4) (μ:=μ) (by decide) (by decide)
  clear fin fin1
  generalize x.fdiv 4=x4 at *
  generalize (rows++[W]++[r]).map aV=RD2 at *
  generalize (rows++[W]).map aV=RD1 at *
  generalize aV W=WD at *
  generalize aV r=rD at *
  generalize rows.map aV=RD at *
  generalize hWW:W.map D.int=WW at *
  generalize ss.map D.int=SD at *
  generalize bO 0 many.toNat=I1 at *
  generalize bO 0 n.toNat=I2 at *
  simp[rm,zm,bZ,e1,e2,e3,lX,rn,zn,e4,hlw,live,zr,hcat,h0,v4,e5,zr2,hcat2]
  exact fin2
 .clear fin
  generalize (rows++[W]).map aV=RD1 at *
  generalize aV W=WD at *
  generalize rows.map aV=RD at *
  generalize hWW:W.map D.int=WW at *
  generalize ss.map D.int=SD at *
  generalize bO 0 many.toNat=I1 at *
  generalize bO 0 n.toNat=I2 at *
  have h0':(x.fmod 4==0)=false:=by rw[beq_eq_false_iff_ne];exact h0
  simp[rm,zm,bZ,e1,e2,e3,lX,rn,zn,e4,hlw,live,zr,hcat,h0']
  exact fin1
def HB(φ:FF):Prop:=∀(L:List Int)(rest:Mu)(n most:Int),DlD L->jb rest->1<=n->n<=6->1<=most->most<=4->∃(cs:List Col)(L':List Int),φ [.cell 0,.int n,.int most] (some (L.map .int)::rest)=some (bK cs,some (L'.map .int)::rest)/\DlD L'/\rC n cs/\cs.length=(n+1).toNat
theorem GZ{φ1 φ2:FF}(h1:jY φ1)(h2:Aw φ2)(n most:Int)(n1:1<=n)(n2:n<=20)(m1:1<=most)(m2:most<=4)(all:List D)(rest:Mu)(hm:jb rest):∀(its:List D)(L:List Int),DlD L->∃(cs:List Col)(L':List Int),
  lcL ⟨all,none⟩ (hName 0) aQ (MC (aj (ao 1) (aj (ao 2) (aj (M2 (mC (.int 1)) (M2 (MC (aj (ao 1) (au)) φ1) (ao 3) oMod) cN) (au)))) φ2) [none,some (.cell 0),some (.int n),some (.int most)] its (some (L.map .int)::rest)=some (cs.map dw,some (L'.map .int)::rest)/\DlD L'/\cs.length=its.length/\∀c∈cs,qG n c
 | [],L,hL=>⟨[],L,by unfold lcL;simp[bD],hL,rfl,λr h=>by cases h⟩
 |i::its,L,hL=>by
  obtain⟨x,L1,e1,hx,hL1⟩:=jC h1 hL rest
  obtain⟨y0,y1⟩:=cW (x:=x) (m:=most) (by omega)
  have hm0:most≠0:=by omega
  obtain⟨c,L2,e2,hL2,hc⟩:=h2 L1 rest n (1+x.fmod most) hL1 hm n1 n2 (by omega) (by omega)
  obtain⟨cs,L',e,hL',hl,hq⟩:=GZ h1 h2 n most n1 n2 m1 m2 all rest hm its L2 hL2
  refine⟨c::cs,L',?_,hL',by simp[hl],λq hq'=>?_⟩
  .unfold lcL
   simp[bD,aQ,e1,hm0,e2,e]
  .rcases Zi.mp hq' with z|z
   .rw[z];exact hc
   .exact hq q z
theorem PK(cs:List Col):nc (bK cs):=sH.mpr λd hd=>by
 obtain⟨c,_,rfl⟩:=Zq.mp hd
 exact sH.mpr λd hd=>by
  obtain⟨r,_,rfl⟩:=Zq.mp hd
  exact gM.mpr oW
theorem KZ{φ1 φ2:FF}(h1:jY φ1)(h2:Aw φ2):HB (trunc (aJ 3 (dN φ1 φ2))):=λL rest n most hL hm n1 n2 m1 m2=>by
 obtain⟨cs,L',e,hL',hl,hq⟩:=GZ h1 h2 n most n1 (by omega) m1 m2 (bO 0 (n+1).toNat) rest hm (bO 0 (n+1).toNat) L hL
 rw[cu]at hl
 have rr:=qW (j:=n+1) (μ:=some (L.map .int)::rest) (by omega) (by omega)
 have z:(bO 0 (n+1).toNat).length<=sizeLine:=szl (by rw[cu];omega)
 have key:Ok (aJ 3 (dN φ1 φ2) [.cell 0,.int n,.int most] (some (L.map .int)::rest)) (λr=>r=(bK cs,some (L'.map .int)::rest)):=by
  apply rW
  have hcd:D.lst (cs.map dw)=bK cs:=rfl
  generalize cs.map dw=CD at *
  generalize bO 0 (n+1).toNat=I at *
  unfold dN
  simp[rr,z,bZ,e,hcd]
 refine⟨cs,L',sY (junk:=[]) (by simpa using MK key) rfl (PK cs) hm.dr,hL',⟨λz=>?_,by omega,hq⟩,hl⟩
 rw[z]at hl;simp at hl;omega
theorem Hg{φ:FF}(h:ur φ)(n:Int)(n1:1<=n)(n2:n<=20)(all:List D)(rest:Mu)(hm:jb rest):∀(its:List D)(L:List Int),DlD L->∃(cs:List Col)(L':List Int),
  lcL ⟨all,none⟩ (hName 0) aQ (MC (aj (ao 1) (aj (ao 2) (aj (mC (.int 4)) (au)))) φ) [none,some (.cell 0),some (.int n)] its (some (L.map .int)::rest)=some (cs.map dw,some (L'.map .int)::rest)/\DlD L'/\cs.length=its.length/\∀c∈cs,qG n c
 | [],L,hL=>⟨[],L,by unfold lcL;simp[bD],hL,rfl,λr h=>by cases h⟩
 |i::its,L,hL=>by
  obtain⟨rs,L1,e1,hL1,r1,r2,r3⟩:=h L rest n 4 hL hm n1 n2 (by decide) (by decide)
  obtain⟨cs,L',e,hL',hl,hq⟩:=Hg h n n1 n2 all rest hm its L1 hL1
  refine⟨rs::cs,L',?_,hL',by simp[hl],λq hq'=>?_⟩
  .have hcd:D.lst (rs.map aG)=dw rs:=rfl
   rw[hcd]at e1
   rw[Zj]
   generalize dw rs=C at *
   unfold lcL
   simp[bD,aQ,e1,e]
  .rcases Zi.mp hq' with z|z
   .rw[z];exact⟨r1,r2,r3⟩
   .exact hq q z
end LG
namespace Lk49
open PySem PySem.Spec PyProof.Rows L2 L3 LG
theorem gcd1:vB mz:=λa b μ=>iJ (Om a b μ)
theorem gcd2:vB cL:=λa b μ=>iJ (Rz a b μ)
theorem Oa:mF aZ:=λx k μ h0 h1=>by
 obtain⟨r,e,h⟩:=Tu x k μ h0 h1
 exact⟨r,iJ e,h⟩
theorem zL:jY bc:=Ks
theorem SX:BX jx:=Nx Oa
theorem low':JZ fZ:=λns b μ h1 h2 h3 h4=>iJ (VM gcd1 ns b μ h1 h2 h3 h4)
theorem num':Dv fO:=Nk
theorem Jv:Dv cO:=Jt
theorem Sg:FT bR:=Gg num'
theorem Us:Cu gC:=λm d μ h=>CG Sg m d μ h
theorem QD:zV fL:=λm d μ h=>Bu Us m d μ h
theorem Xi(k l:Bool)(μ:Mu):jF [.bl k,.bl l] μ=some (.bl (k==l),μ):=Qa k l μ
theorem Pj:xm cM:=λns μ=>iJ (Ge gcd2 ns μ)
theorem XJ:Fi gw:=λns μ h1 h2 h3=>iJ (Pk Pj ns μ h1 h2 h3)
theorem Vc:Ax iM:=λns b μ h1 h2 h3=>iJ (Kf XJ ns b μ h1 h2 h3)
theorem RT:Aq dH:=Qh (Eh UW) Vc
theorem near':qR eY:=Rr QD RT PX
theorem XF(many:Int)(d:D)(μ:Mu)(h:nc d):eO [.int many,d] μ=some (.bl (dm many d),μ):=yQ Jv many d μ h
theorem Ky:wz bI:=Mv low'
theorem WQ:Cj dX:=Pa
theorem Vx:qR gA:=Ln XF Ky WQ
theorem row':Nv jt:=Vb
theorem step':qP iR:=Ro row' (Jj Sg) uw near'
theorem VG:sW cA:=Nt step' Xd (QC uw RT) JH
theorem Uv:qP gB:=Ls (Gj Jv) wG Vx
theorem KN:vh bU:=My wG Ky
theorem Qj:sW dg:=HR Uv KN Lw (Mw KN Lw (Jc WQ))
theorem KH:isArrow cY:=Nh Oa
theorem Rn:ur iQ:=Gq zL KH (Qx Oa)
theorem Ur:HB cX:=KZ zL (QX zL KH Oa (Qu zL Oa))
def okB:D->Bool
 | .tup ds=>decide (ds.length<=60)&&ds.all λd=>match d with
  | .tup [.int _,.int s]=>decide (s.natAbs<=1000)
  |_=>true
 |_=>true
def okS:D->Bool
 | .tup [_,s]=>okB s
 |_=>true
def okT:D->Bool
 | .tup ds=>decide (ds.length<=60)&&ds.all okS
 |_=>true
def chk(t:D):Bool:=okB t&&(okS t&&okT t)
theorem yq{t:D}(hn:nc t)(h:okB t=true):ThB t:=⟨hn,λds e=>by
 subst e
 have h:(decide (ds.length<=60)&&ds.all λd=>match d with
  | .tup [.int _,.int s]=>decide (s.natAbs<=1000)
  |_=>true)=true:=h
 rw[Zo]at h
 refine⟨of_decide_eq_true h.1,λk s hm=>?_⟩
 have:=List.all_eq_true.mp h.2 _ hm
 have:=of_decide_eq_true this
 exact vU (b:=2000) 1001 (by omega) (Zl (by decide:1001<=2 ^ 10) (Nat.pow_le_pow_right (by decide) (by decide)))⟩
theorem Fy{t:D}(hn:nc t)(h:okS t=true):ThS t:=⟨hn,λc s e=>by
 subst e
 exact yq (gM.mp hn s (by simp)) h⟩
theorem uB{t:D}(hn:nc t)(h:okT t=true):ThT t:=⟨hn,λds e=>by
 subst e
 have h:(decide (ds.length<=60)&&ds.all okS)=true:=h
 rw[Zo]at h
 exact⟨by have:=of_decide_eq_true h.1;omega,λd hd=>Fy (gM.mp hn d hd) (List.all_eq_true.mp h.2 d hd)⟩⟩
def ThP(t:D):Prop:=∃ts:List D,t= .lst ts/\ts.length<=100/\(∀t∈ts,nc t)/\ts.all chk=true
theorem Rw(μ:Mu)(hm:jb μ):∃ts:List D,fX [] μ=some (.lst ts,μ)/\ts.length<=100/\(∀t∈ts,nc t)/\ts.all chk=true:=by
 suffices key:∃t,fX [] μ=some (t,μ)/\ThP t by
  obtain⟨t,e,ts,rfl,h⟩:=key
  exact⟨ts,e,h⟩
 apply Qk hm
 apply rW
 have fin:∀ts:List D,ts.length<=100->lY 0 ts=true->ts.all chk=true->nc (.lst ts)/\ThP (.lst ts):=λts hl h hk=>⟨sH.mpr (qK.mp h),ts,rfl,hl,qK.mp h,hk⟩
 have z:38<=1000:=by decide
 simp[mV,zW,Tf]
 refine fin _ ?_ ?_ ?_
 .simp
 .simp[lY,cLt,An]
 .rfl
def pG(F t:D):List D:=[t,.tup [t],.tup [.tup [F,t]],.tup [.tup [t,.tup [.tup [.int 0,.int 1]]]],.tup [.tup [t,t]]]
theorem Qd{F t:D}(hF:nc F)(hn:nc t)(h:chk t=true):∀d∈pG F t,ThT d:=λd hd=>by
 unfold chk at h
 rw[Zo,Zo]at h
 obtain⟨h1,h2,h3⟩:=h
 have hS:nc (.tup [.tup [.int 0,.int 1]]):=by simp[nc,cLt,lY]
 have n2:∀a b,nc a->nc b->nc (.tup [a,b]):=λa b ha hb=>gM.mpr λe he=>by
  simp only[Zi,List.not_mem_nil,or_false]at he
  rcases he with rfl|rfl<;>assumption
 have n1:∀a,nc a->nc (.tup [a]):=λa ha=>gM.mpr λe he=>by rw[List.mem_singleton.mp he];exact ha
 simp only[pG,Zi,List.not_mem_nil,or_false]at hd
 rcases hd with rfl|rfl|rfl|rfl|rfl
 .exact uB hn h3
 .exact uB (n1 _ hn) (by show(decide (1<=60)&&(okS t&&true))=true;rw[h2];rfl)
 .exact uB (n1 _ (n2 _ _ hF hn)) (by show(decide (1<=60)&&(okB t&&true))=true;rw[h1];rfl)
 .exact uB (n1 _ (n2 _ _ hn hS)) rfl
 .exact uB (n1 _ (n2 _ _ hn hn)) (by show(decide (1<=60)&&(okB t&&true))=true;rw[h1];rfl)
theorem JM{F G:D}(f:∃a:List Int,F=aG a/\a.length<=60)(g:∃a:List Int,G=aG a/\a.length<=60):∀d∈[F,G,.tup [F],.tup [.tup [F]],.tup [.tup [F,.tup []]],.tup [.tup [F,.non]],.tup [.tup [F,F]],.tup [F,.tup []]],ThT d:=λd hd=>by
 have row:∀F:D,(∃a:List Int,F=aG a/\a.length<=60)->nc F/\ThB F/\ThS F/\ThT F:=λF ⟨a,e,ha⟩=>by
  subst e
  have hn:nc (aG a):=gM.mpr oW
  have hB:okB (aG a)=true:=by
   show(decide ((a.map D.int).length<=60)&&(a.map D.int).all _)=true
   rw[Zu,decide_eq_true ha,Bool.true_and]
   exact List.all_eq_true.mpr λd hd=>by
    obtain⟨z,_,rfl⟩:=Zq.mp hd
    rfl
  refine⟨hn,yq hn hB,⟨hn,λc s e=>?_⟩,hn,λds e=>?_⟩
  .cases e2:a with
   |nil=>rw[e2]at e;cases e
   |cons x l=>
    rw[e2]at e
    have e:=D.tup.inj e
    rw[Zj]at e
    injection e with _ e
    cases l with
    |nil=>cases e
    |cons y l=>
     rw[Zj]at e
     injection e with e _
     subst e
     exact yq xU rfl
  .cases e
   refine⟨by rw[Zu];omega,λd hd=>?_⟩
   obtain⟨z,_,rfl⟩:=Zq.mp hd
   exact Fy xU rfl
 obtain⟨f0,f1,f2,f3⟩:=row F f
 obtain⟨_,_,_,g3⟩:=row G g
 have n2:∀a b,nc a->nc b->nc (.tup [a,b]):=λa b ha hb=>gM.mpr λe he=>by
  simp only[Zi,List.not_mem_nil,or_false]at he
  rcases he with rfl|rfl<;>assumption
 have n1:∀a,nc a->nc (.tup [a]):=λa ha=>gM.mpr λe he=>by rw[List.mem_singleton.mp he];exact ha
 have ne:nc (.tup []):=by simp[nc,cLt,lY]
 have nn:nc .non:=by simp[nc,cLt]
 have one:∀s,ThS s->ThT (.tup [s]):=λs hs=>⟨n1 _ hs.1,λds e=>by
  cases e
  exact⟨by simp,λd hd=>by rw[List.mem_singleton.mp hd];exact hs⟩⟩
 have pr:∀c s,nc c->ThB s->ThS (.tup [c,s]):=λc s hc hs=>⟨n2 _ _ hc hs.1,λc s e=>by cases e;exact hs⟩
 simp only[Zi,List.not_mem_nil,or_false]at hd
 rcases hd with rfl|rfl|rfl|rfl|rfl|rfl|rfl|rfl
 .exact f3
 .exact g3
 .exact one _ f2
 .exact one _ ⟨n1 _ f0,λc s e=>by cases e⟩
 .exact one _ (pr _ _ f0 (yq ne rfl))
 .exact one _ (pr _ _ f0 (yq nn rfl))
 .exact one _ (pr _ _ f0 f1)
 .refine⟨n2 _ _ f0 ne,λds e=>?_⟩
  cases e
  refine⟨by simp,λd hd=>?_⟩
  simp only[Zi,List.not_mem_nil,or_false]at hd
  rcases hd with rfl|rfl
  .exact f2
  .exact Fy ne rfl
noncomputable def tl:SF:=aU (bz 5 (M2 (MC (aj (mC (.int 0)) (au)) oTup) (MC (aj (ao 4) (au)) (bu cJ)) cF)) (aU (bz 6 (MC (aj (mFz (lLC ["_law_colour"] [] (cI (ao 4)) (hName 0) (aQ) (M2 (MC (aj (ao 0) (au)) (bu cJ)) (mC (.int 1)) jg))) (au)) gG)) (aU (bz 7 (nG (qU (aj (ao 5) (aj (ao 6) (aj (MC (aj (ao 5) (au)) oTup) (aj (MC (aj (MC (aj (ao 5) (au)) oTup) (au)) oTup) (aj (MC (aj (MC (aj (ao 5) (aj (MC (au) oTup) (au))) oTup) (au)) oTup) (aj (MC (aj (MC (aj (ao 5) (aj (mC .non) (au))) oTup) (au)) oTup) (aj (MC (aj (MC (aj (ao 5) (aj (ao 5) (au))) oTup) (au)) oTup) (aj (MC (aj (ao 5) (aj (MC (au) oTup) (au))) oTup) (au)))))))))))) (aU (km (cI (MC au fX)) (hName 8) (iU (Jh (ao 7) (qU (aj (ao 8) (aj (MC (aj (ao 8) (au)) oTup) (aj (MC (aj (MC (aj (ao 5) (aj (ao 8) (au))) oTup) (au)) oTup) (aj (MC (aj (MC (aj (ao 8) (aj (MC (aj (MC (aj (mC (.int 0)) (aj (mC (.int 1)) (au))) oTup) (au)) oTup) (au))) oTup) (au)) oTup) (aj (MC (aj (MC (aj (ao 8) (aj (ao 8) (au))) oTup) (au)) oTup) (au)))))))))) (aU (km (cI (ao 7)) (hName 8) (sIf (eU (iw (MC (aj (MC (aj (ao 4) (aj (ao 8) (au))) cA) (aj (MC (aj (ao 4) (aj (ao 8) (au))) dg) (au))) jF))) (bA (mC (.bl false))) (bG))) (sIf (jm (iw (MC (aj (ao 4) (aj (MC (au) oTup) (au))) dg)) (toB (M2 (MC (aj (ao 4) (aj (MC (au) oTup) (au))) cA) (mC (.bl false)) sr))) (bA (mC (.bl false))) (bG))))))
def TI(ns:List Int)(δ:En)(μ:Mu):Prop:=∃(L:List Int)(junk:Mu)(o2 o3 o4 o5 o6 o7 o8:Option D),DlD L/\jb junk/\μ=some (L.map .int)::junk/\δ=[some (.ro (ns.map .int)),some (.cell 0),o2,o3,o4,o5,o6,o7,o8]
theorem wH{c:Nat}{all:List D}{h:GF}{b:SF}{QS:Post (Fl×En×Mu)}(I:List D->En->Mu->Prop)(hc:∀its δ μ,I its δ μ->μ[c]? =some (some all))
  (turn:∀d r δ μ,I (d::r) δ μ->OkI (h d δ μ) (Q:=⟨λδ1=>OkI (b δ1 μ) (Q:=⟨xV (I r) QS⟩)⟩)) (fin:∀δ μ,I [] δ μ->QS.run (.nx,δ,μ)):
  ∀(its:List D)(δ:En)(μ:Mu),I its δ μ->OkI (forL ⟨all,some c⟩ h b its δ μ) (Q:=QS)
 | [],δ,μ,hI=>by
  have ok:Src.ok ⟨all,some c⟩ μ:=λn e=>by cases e;exact hc _ _ _ hI
  unfold forL;rw[if_pos ok,Hw];exact fin δ μ hI
 |d::r,δ,μ,hI=>by
  have ok:Src.ok ⟨all,some c⟩ μ:=λn e=>by cases e;exact hc _ _ _ hI
  unfold forL
  rw[if_pos ok,gk]
  refine(turn d r δ μ hI).mono λδ1 h1=>?_
  rw[Bq]at h1 ⊢
  rw[gk]
  refine h1.mono λq h2=>?_
  rw[Bq]at h2 ⊢
  obtain⟨fl,δ',μ'⟩:=q
  cases fl with
  |nx=>exact wH (all:=all) I hc turn fin r δ' μ' h2
  |ct=>exact wH (all:=all) I hc turn fin r δ' μ' h2
  |bk=>exact⟨_,rfl,h2⟩
  |rt d=>exact⟨_,rfl,h2⟩
theorem Tg{f:EF}{lf:LF}{δ:En}{o:Option (List D)}{junk:Mu}{acc ts:List D}(h1:f δ (o::(junk++[some acc]))=some (.cell (junk.length+1),o::(junk++[some acc])))(h2:lf δ (o::(junk++[some acc]))=some (ts,o::(junk++[some acc])))(hl:acc.length+ts.length<=sizeLine):
  Jh f lf δ (o::(junk++[some acc]))=some (.non,o::(junk++[some (acc++ts)])):=by
 unfold Jh
 rw[h1]
 simp only[Option.bind_some]
 rw[h2]
 simp[jR,hl]
theorem Qf{μ:Mu}{F t:D}{o0 o1 o2 o3 o4 o6 o7:Option D}:qU (aj (ao 8) (aj (MC (aj (ao 8) (au)) oTup) (aj (MC (aj (MC (aj (ao 5) (aj (ao 8) (au))) oTup) (au)) oTup) (aj (MC (aj (MC (aj (ao 8) (aj (MC (aj (MC (aj (mC (.int 0)) (aj (mC (.int 1)) (au))) oTup) (au)) oTup) (au))) oTup) (au)) oTup) (aj (MC (aj (MC (aj (ao 8) (aj (ao 8) (au))) oTup) (au)) oTup) (au)))))) [o0,o1,o2,o3,o4,some F,o6,o7,some t] μ=some (pG F t,μ):=by
 have z1:1<=sizeLine:=szl (by decide)
 have z2:2<=sizeLine:=szl (by decide)
 have z5:5<=sizeLine:=szl (by decide)
 simp[z1,z2,z5,pG]
def qO(F G:D):List D:=[F,G,.tup [F],.tup [.tup [F]],.tup [.tup [F,.tup []]],.tup [.tup [F,.non]],.tup [.tup [F,F]],.tup [F,.tup []]]
theorem Lq{μ:Mu}{F G:D}{o0 o1 o2 o3 o4 o7 o8:Option D}:qU (aj (ao 5) (aj (ao 6) (aj (MC (aj (ao 5) (au)) oTup) (aj (MC (aj (MC (aj (ao 5) (au)) oTup) (au)) oTup) (aj (MC (aj (MC (aj (ao 5) (aj (MC (au) oTup) (au))) oTup) (au)) oTup) (aj (MC (aj (MC (aj (ao 5) (aj (mC .non) (au))) oTup) (au)) oTup) (aj (MC (aj (MC (aj (ao 5) (aj (ao 5) (au))) oTup) (au)) oTup) (aj (MC (aj (ao 5) (aj (MC (au) oTup) (au))) oTup) (au))))))))) [o0,o1,o2,o3,o4,some F,some G,o7,o8] μ=some (qO F G,μ):=by
 have z0:0<=sizeLine:=szl (by decide)
 have z1:1<=sizeLine:=szl (by decide)
 have z2:2<=sizeLine:=szl (by decide)
 have z8:8<=sizeLine:=szl (by decide)
 simp[z0,z1,z2,z8,qO]
theorem Sh(ns:List Int){n:Int}{cs:List Col}{L:List Int}{junk:Mu}{d2 d3:Option D}{o5 o6 o7 o8:Option D}{QS:Post (Fl×En×Mu)}(n1:1<=n)(n2:n<=20)(hc:rC n cs)(hL:DlD L)(hm:jb junk):
  OkI (tl [some (.ro (ns.map .int)),some (.cell 0),d2,d3,some (bK cs),o5,o6,o7,o8] (some (L.map .int)::junk)) (Q:=⟨xV (TI ns) QS⟩):=by
 have hcl:=hc.2.1
 have l1:=pF cs
 obtain⟨kc,hkc⟩:∃kc:Int,kc=cs.length:=⟨_,rfl⟩
 rw[<-hkc]at l1
 have ez:∀μ,cF (.tup [.int 0]) (.int kc) μ=some (aG (List.replicate cs.length 0),μ):=λμ=>by rw[hkc];exact Gu (by omega)
 have el:=λμ=>bW (all:=cs.map dw) (h:=hName 0) (fe:=M2 (MC (aj (ao 0) (au)) (bu cJ)) (mC (.int 1)) jg) (δb:=[none]) (F:=dw) (f:=λc=>.int ((c.length:Int)-1)) (μ:=μ) cs λc hcm=>by
  have l3:=BW c
  generalize (c.length:Int)=m at *
  generalize dw c=C at *
  exact⟨[some C],by simp,by simp[l3]⟩
 have ee:(cs.map λc:Col=>D.int ((c.length:Int)-1))=(cs.map λc:Col=>((c.length:Int)-1)).map D.int:=by rw[List.map_map];rfl
 rw[ee]at el
 have er:D.tup ((cs.map λc:Col=>((c.length:Int)-1)).map D.int)=aG (cs.map λc:Col=>((c.length:Int)-1)):=rfl
 have z1:(cs.map dw).length<=sizeLine:=szl (by simp;omega)
 have so:∀μ,srcOf (bK cs) μ=some ⟨cs.map dw,none⟩:=λ_=>rfl
 have q1:=λt μ ht=>VG n cs t μ n1 n2 hc ht
 have q2:=λt μ ht=>Qj n cs t μ n1 n2 hc ht
 have h8:∀d∈qO (aG (List.replicate cs.length 0)) (aG (cs.map λc:Col=>((c.length:Int)-1))),ThT d:=JM (F:=aG (List.replicate cs.length 0)) (G:=aG (cs.map λc:Col=>((c.length:Int)-1))) ⟨_,rfl,by simp;omega⟩ ⟨_,rfl,by simp;omega⟩
 have hF:nc (aG (List.replicate cs.length 0)):=gM.mpr oW
 have nE:nc (.tup []):=by simp[nc,cLt,lY]
 have hE:ThT (.tup []):=uB nE rfl
 have hTB:lH n cs (.tup [])=false:=rfl
 have p1:=λμ=>q1 _ μ hE
 have p2:=λμ=>q2 _ μ hE
 rw[hTB]at p1 p2
 generalize (cs.map λc:Col=>((c.length:Int)-1)).map D.int=LD at *
 generalize cs.map dw=CD at *
 generalize aG (List.replicate cs.length 0)=F at *
 generalize aG (cs.map λc:Col=>((c.length:Int)-1))=G at *
 generalize bK cs=C at *
 generalize lH n cs=TB at *
 have hmu8:jb (some (L.map .int)::(junk++[some (qO F G)])):=jb.dr λes hes=>by
  rcases Zm.mp hes with w|w
  .exact hm es w
  .cases List.mem_singleton.mp w;exactλd hd=>(h8 d hd).1
 obtain⟨ts,e3,htl,htn,htk⟩:=Rw _ hmu8
 have htk:=List.all_eq_true.mp htk
 have h8l:(qO F G).length=8:=rfl
 have e8:=λ(o0 o1 o2 o3 o4 o7 o8:Option D) μ=>Lq (F:=F) (G:=G) (o0:=o0) (o1:=o1) (o2:=o2) (o3:=o3) (o4:=o4) (o7:=o7) (o8:=o8) (μ:=μ)
 unfold tl
 generalize hEL:qU (aj (ao 5) _)=EL at *
 generalize hFV:qU (aj (ao 8) _)=FV at *
 have eF:∀(F t:D)(o0 o1 o2 o3 o4 o6 o7:Option D) μ,FV [o0,o1,o2,o3,o4,some F,o6,o7,some t] μ=some (pG F t,μ):=λF t o0 o1 o2 o3 o4 o6 o7 μ=>by rw[<-hFV];exact Qf
 generalize qO F G=E8 at *
 simp[l1,ez,so,z1,bZ,el,er,e8,e3]
 refine oF (λits δ μ=>∃acc o8,(∀t∈its,nc t/\chk t=true)/\(∀t∈acc,ThT t)/\acc.length+5*its.length<=600/\μ=some (L.map .int)::(junk++[some acc])/\δ=[some (.ro (ns.map .int)),some (.cell 0),d2,d3,some C,some F,some G,some (.cell (junk.length+1)),o8]) ?_ ?_ _ _ _ ⟨E8,o8,λt ht=>⟨htn t ht,htk t ht⟩,h8,by omega,rfl,rfl⟩
 .rintro d8 rest8 δ μ ⟨acc,p8,hit,hacc,hal,rfl,rfl⟩
  obtain⟨hn8,hk8⟩:=hit d8 (by simp)
  have h5:=Qd hF hn8 hk8
  have h5l:(pG F d8).length=5:=rfl
  have f1:=Tg (f:=ao 7) (lf:=FV) (δ:=[some (.ro (ns.map .int)),some (.cell 0),d2,d3,some C,some F,some G,some (.cell (junk.length+1)),some d8]) (o:=some (L.map .int)) (junk:=junk) (acc:=acc) (ts:=pG F d8) (by simp) (eF _ _ _ _ _ _ _ _ _ _) (szl (by simp at hal;omega))
  generalize pG F d8=FF at *
  simp[f1]
  exact⟨λt ht=>hit t (by simp[ht]),λt ht=>by
   rcases ht with w|w
   .exact hacc t w
   .exact h5 t w,by simp at hal;omega⟩
 .rintro δ μ ⟨acc,p8,_,hacc,hal,rfl,rfl⟩
  have esrc:srcOf (.cell (junk.length+1)) (some (L.map .int)::(junk++[some acc]))=some ⟨acc,some (junk.length+1)⟩:=by simp[srcOf]
  simp[esrc]
  refine wH (λits δ μ=>∃p8,(∀t∈its,ThT t)/\μ=some (L.map .int)::(junk++[some acc])/\δ=[some (.ro (ns.map .int)),some (.cell 0),d2,d3,some C,some F,some G,some (.cell (junk.length+1)),p8]) (λits δ μ ⟨_,_,e,_⟩=>by rw[e];simp) ?_ ?_ _ _ _ ⟨p8,hacc,rfl,rfl⟩
  .rintro d9 rest9 δ μ ⟨p8,h9,rfl,rfl⟩
   have g1:=q1 d9 (some (L.map .int)::(junk++[some acc])) (h9 d9 (by simp))
   have g2:=q2 d9 (some (L.map .int)::(junk++[some acc])) (h9 d9 (by simp))
   generalize TB d9=v at *
   simp[g1,g2,Xi]
   exactλt h=>h9 t (by simp[h])
  .rintro δ μ ⟨p8,_,rfl,rfl⟩
   have z0:0<=sizeLine:=szl (by decide)
   simp[z0,p1,p2]
   exact⟨L,junk++[some acc],_,_,_,_,_,_,_,hL,Ub hm (λd hd=>(hacc d hd).1),rfl,rfl⟩
theorem Qv(ns:List Int)(h:ns.length<=63):∃μ',Gf [.ro (ns.map .int)] []=some (.bl true,μ'):=by
 apply QM
 obtain⟨L,eD,hL⟩:=Ni SX ns h
 apply rW
 unfold uI
 simp[eD,qW (j:=3) (by decide) (by decide)]
 refine oF (λits δ μ=>TI ns δ μ) ?_ ?_ _ _ _ ⟨L,[],none,none,none,none,none,none,none,hL,jb.nil,rfl,rfl⟩
 .rintro dd rest δ μ ⟨L,junk,o2,o3,o4,o5,o6,o7,o8,hL,hm,rfl,rfl⟩
  obtain⟨x,L1,e1,hx,hL1⟩:=jC zL hL junk
  obtain⟨m0,m1⟩:=cW (x:=x) (m:=4) (by decide)
  obtain⟨n,hn⟩:∃n:Int,1+x.fmod 4=n:=⟨_,rfl⟩
  obtain⟨cs,L2,e2,hL2,hc,hcl⟩:=Ur L1 junk n 3 hL1 hm (by omega) (by omega) (by decide) (by decide)
  obtain⟨y,L3,e3,hy,hL3⟩:=jC zL hL2 junk
  have fin1:=λ(QS:Post (Fl×En×Mu))=>Sh ns (d2:=some dd) (d3:=some (.int n)) (o5:=o5) (o6:=o6) (o7:=o7) (o8:=o8) (QS:=QS) (by omega) (by omega) hc hL3 hm
  generalize hT:(aU (bz 5 _) _)=TL
  have hT':TL=tl:=hT.symm
  subst hT'
  by_cases h2:y.fmod 2=0
  .obtain⟨as,L4,e4,hL4,hal,hac⟩:=Hg Rn n (by omega) (by omega) (bO 0 (n+1).toNat) junk hm (bO 0 (n+1).toNat) L3 hL3
   rw[cu]at hal
   have rr:=qW (j:=n+1) (μ:=some (L3.map .int)::junk) (by omega) (by omega)
   have z:(bO 0 (n+1).toNat).length<=sizeLine:=szl (by rw[cu];omega)
   have fin2:=λ(QS:Post (Fl×En×Mu))=>Sh ns (d2:=some dd) (d3:=some (.int n)) (cs:=as) (o5:=o5) (o6:=o6) (o7:=o7) (o8:=o8) (QS:=QS) (by omega) (by omega) ⟨λz=>by rw[z]at hal;simp at hal;omega,by omega,hac⟩ hL4 hm
   have hcd:D.lst (as.map dw)=bK as:=rfl
   clear fin1
   generalize as.map dw=AD at *
   generalize bK as=C' at *
   generalize bK cs=C at *
   generalize bO 0 (n+1).toNat=I at *
   simp[e1,hn,e2,e3,h2,rr,z,bZ,e4,hcd]
   exact fin2 _
  .generalize bK cs=C at *
   have h2':(y.fmod 2==0)=false:=by rw[beq_eq_false_iff_ne];exact h2
   simp[e1,hn,e2,e3,h2']
   exact fin1 _
 .rintro δ μ ⟨L,junk,o2,o3,o4,o5,o6,o7,o8,hL,hm,rfl,rfl⟩
  simp
end Lk49
def PySem.W.Fast.tw1033064789644018960:=0
def PySem.W.Fast.tw10429985660463065252:=0
def PySem.W.Fast.tw10465272574377447908:=0
def PySem.W.Fast.tw11123810805169851136:=0
def PySem.W.Fast.tw11497342660378141697:=0
def PySem.W.Fast.tw12171544617561405689:=0
def PySem.W.Fast.tw12222184903447358421:=0
def PySem.W.Fast.tw123990024477815376:=0
def PySem.W.Fast.tw12464144754310376165:=0
def PySem.W.Fast.tw12544295341291955172:=0
def PySem.W.Fast.tw12932610445481713729:=0
def PySem.W.Fast.tw13258164838371962556:=0
def PySem.W.Fast.tw13514655090319177328:=0
def PySem.W.Fast.tw1358949443034096751:=0
def PySem.W.Fast.tw13689411667438262822:=0
def PySem.W.Fast.tw14115851048262815870:=0
def PySem.W.Fast.tw14375887519202802723:=0
def PySem.W.Fast.tw14482477342100298349:=0
def PySem.W.Fast.tw14873714936824642270:=0
def PySem.W.Fast.tw14898976547496634415:=0
def PySem.W.Fast.tw15021309204835676328:=0
def PySem.W.Fast.tw15327215606174661473:=0
def PySem.W.Fast.tw15387415124877667223:=0
def PySem.W.Fast.tw15423985566518703410:=0
def PySem.W.Fast.tw160329522004741536:=0
def PySem.W.Fast.tw16208340353680821197:=0
def PySem.W.Fast.tw16740652633672853285:=0
def PySem.W.Fast.tw16975928363120506311:=0
def PySem.W.Fast.tw17192097086648678491:=0
def PySem.W.Fast.tw17254471057998172481:=0
def PySem.W.Fast.tw17362218069649323321:=0
def PySem.W.Fast.tw17500686632780682634:=0
def PySem.W.Fast.tw17587706898323078921:=0
def PySem.W.Fast.tw18095486378158111153:=0
def PySem.W.Fast.tw306508734381109353:=0
def PySem.W.Fast.tw3073563070967290045:=0
def PySem.W.Fast.tw3512185394179947625:=0
def PySem.W.Fast.tw3529468705750634258:=0
def PySem.W.Fast.tw3694826730557863240:=0
def PySem.W.Fast.tw4046298961242103501:=0
def PySem.W.Fast.tw4509006224745033560:=0
def PySem.W.Fast.tw5136566496187357565:=0
def PySem.W.Fast.tw5279344238824456159:=0
def PySem.W.Fast.tw5372181520183461529:=0
def PySem.W.Fast.tw5853421632432709794:=0
def PySem.W.Fast.tw61309896698073907:=0
def PySem.W.Fast.tw6238940031034841226:=0
def PySem.W.Fast.tw6947412896254751582:=0
def PySem.W.Fast.tw7341924248861333809:=0
def PySem.W.Fast.tw7793792567443693914:=0
def PySem.W.Fast.tw8416637537391557481:=0
def PySem.W.Fast.tw8856401901719491187:=0
def PySem.W.Fast.tw9081201093282774991:=0
open PySem PySem.W PyProof.Rows
set_option maxRecDepth 100000 in
set_option maxHeartbeats 0 in
theorem PySem.Challenge.cw_heapsmeet_k49_no_trails_holds : PySem.Challenge.rw_heapsmeet_k49_no_trails.Holds := by
 w_on; o_law; k_head; (case hw => w_witness2)
 k_fill
 refine L3.KR (l := PySem.Challenge.rw_heapsmeet_k49_no_trails) (n := 63) (k := 12) (x := "_law_script") (φ := Lk49.Gf) rfl (by decide) rfl ⟨rfl, by decide, by decide⟩ (λ w h Y => by first | exact PySem.W.kIn_of Y | exact PySem.W.km_in_of Y) ?F ?S
 case F =>
  intro w mg mb mean lo fa h KX G hmg
  apply Lk49.Td KX G hmg <;> first | (apply L3.Ud <;> first | k_is | rfl) | k_is | rfl
 case S => exact λ ns hl => Lk49.Qv ns hl
