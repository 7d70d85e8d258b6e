import PyProof.Rows.All
import Wide.All
import OpenK.AllK
import Wide.FinOn
import Lean
import PyProof.EqAt
import PyProof.EqKinds
import PyProof.TupleCall
import PyProof.ListRange
import PyProof.TupleOfSeq
import PyProof.Conv_int_bool
import PySem.Challenge.RW_heapsmeet_k34_no_papers_of_groups
set_option Elab.async false
set_option hygiene false in
local macro_rules
 |`(tactic|fail "0")=>`(tactic|first|assumption|exact Nat.zero_le _|exact Int.natCast_nonneg _|decide|exact Nat.le_of_lt ‹_›|exact Int.le_of_lt ‹_›|exact Nat.le_trans ‹_› (by decide)|exact Int.le_trans ‹_› (by decide)|exact Nat.lt_of_le_of_lt ‹_› (by decide)|exact Int.lt_of_le_of_lt ‹_› (by decide)|exact Nat.lt_of_lt_of_le ‹_› (by decide)|exact Int.lt_of_lt_of_le ‹_› (by decide)|exact Nat.le_trans (by decide) ‹_›|exact Int.le_trans (by decide) ‹_›|exact Nat.lt_of_lt_of_le (by decide) ‹_›|exact Int.lt_of_lt_of_le (by decide) ‹_›|exact Nat.le_trans ‹_› ‹_›|exact Nat.lt_of_le_of_lt ‹_› ‹_›|exact Nat.lt_of_lt_of_le ‹_› ‹_›|exact Int.le_trans ‹_› ‹_›|exact Nat.lt_of_le_of_lt (Nat.le_add_right _ _) ‹_›|exact Int.not_lt.mp ‹_›|exact Nat.not_lt.mp ‹_›|exact Nat.not_le.mp ‹_›)
 |`(tactic|omega)=>`(tactic|first|fail "0"|omega +splitMinMax)
 |`(tactic|lia)=>`(tactic|first|fail "0"|lia (splits:=9))
 |`(tactic|cases $h:ident)=>`(tactic|first|contradiction|subst $h:ident|(obtain rfl:=Option.some.inj $h;clear $h)|(obtain⟨rfl,rfl⟩:=Prod.mk.inj (Option.some.inj $h);clear $h)|(obtain⟨rfl,rfl⟩:=Prod.mk.inj $h;clear $h)|cases ($h))
inductive Zbq{α:Type _}{β:Type _}(x:Option α)(f:α->Option β)(b:β):Prop
 |mk a:x=some a->f a=some b->Zbq x f b
theorem Zbs{α:Type _}{β:Type _}{x:Option α}{f:α->Option β}{b:β}(h:x.bind f=some b):Zbq x f b:=by
 cases x with
 |none=>exact absurd h (by simp)
 |some a=>exact⟨a,rfl,h⟩
abbrev Zsh:=PySem.Shared
abbrev Zar:=PySem.Around
abbrev Zpr:=PySem.Program
noncomputable section
abbrev Za:=@Option.bind_eq_some_iff
abbrev Zb:=@PySem.Heap.get?_push_of_some
abbrev Zc:=@Nat.lt_of_lt_of_le
abbrev Zd:=@List.size_toArray
abbrev Ze:=@PySem.Heap.lt_size
abbrev Zf:=@PySem.Heap.get?_push_size
abbrev Zg:=@Nat.le_refl
abbrev Zh:=@List.getElem?_eq_some_iff
abbrev Zi:=@List.mem_cons
abbrev Zj:=@List.map_cons
abbrev Zk:=@Nat.ne_of_lt
abbrev Zl:=@Nat.le_trans
abbrev Zm:=@List.mem_append
abbrev Zn:=@List.mem_append_right
abbrev Zo:=@Bool.and_eq_true
abbrev Zp:=@Option.map_eq_some_iff
abbrev Zq:=@List.mem_map
abbrev Zr:=@Bool.false_ne_true
abbrev Zs:=@List.getElem?_append_left
abbrev Zt:=@PySem.mem_of_lookup
abbrev Zu:=@List.length_map
abbrev Zv:=@PySem.wpAny_bind
abbrev Zw:=@PySem.W.Frag
abbrev Zx:=@PySem.wpAny_pure
abbrev Zy:=@PySem.wpAny_mono
abbrev Zz:=@PySem.wpAny_newObj_type
abbrev ZB:=@PySem.W.CodeHd
abbrev ZC:=@PySem.PassesOwn.never
abbrev ZE:=@List.mem_cons_of_mem
abbrev ZF:=@List.not_mem_nil
abbrev ZG:=@List.length_append
abbrev ZH:=@List.length_cons
abbrev ZI:=@List.mem_singleton
abbrev ZJ:=@List.drop_eq_getElem_cons
abbrev ZK:=@Option.bind_some
abbrev ZL:=@PyProof.Rows.boot_tuple
abbrev ZM:=@beq_eq_false_iff_ne
set_option linter.all false
set_option maxRecDepth 100000
namespace L2
open PySem PySem.Spec PyProof.Rows
abbrev Key:=Sum Int Str
def xq:Key->Value->Bool
 | .inl k,v=>Value.isInt k v
 | .inr x,v=>Value.isStrOf x v
def keyH(w:World):Key->Int
 | .inl k=>hashInt k
 | .inr x=>hashStr w x
theorem gn:∀{k:Key}{v:Value},xq k v=true->(∃i t,k=Sum.inl i/\v=Value.int i t)∨(∃x t,k=Sum.inr x/\v=Value.str x t)
 | .inl i,v,h=>by
  obtain⟨t,e⟩:=Value.isInt_shape (k:=i) (v:=v) h;exact .inl ⟨i,t,rfl,e⟩
 | .inr x,v,h=>by
  obtain⟨t,e⟩:=Value.isStrOf_shape (x:=x) (v:=v) h;exact .inr ⟨x,t,rfl,e⟩
theorem HW(i:Int)(t:Tok):xq (.inl i) (.int i t)=true:=by simp[xq,Value.isInt]
theorem Hi(x:Str)(t:Tok):xq (.inr x) (.str x t)=true:=by simp[xq,Value.isStrOf]
theorem WK(a b:Int):decide ((Sum.inl a:Key)=Sum.inl b)=(a==b):=by
 by_cases e:a=b
 .subst e;simp
 .have h:¬(Sum.inl a:Key)=Sum.inl b:=λq=>e (Sum.inl.inj q);rw[decide_eq_false h];exact(ZM.mpr e).symm
theorem Wq(a b:Str):decide ((Sum.inr a:Key)=Sum.inr b)=decide (a=b):=by
 by_cases e:a=b
 .subst e;simp
 .have h:¬(Sum.inr a:Key)=Sum.inr b:=λq=>e (Sum.inr.inj q);rw[decide_eq_false h,decide_eq_false e]
theorem UJ(a:Int)(b:Str):decide ((Sum.inl a:Key)=Sum.inr b)=false:=decide_eq_false (λq=>nomatch q)
theorem UG(a:Str)(b:Int):decide ((Sum.inr a:Key)=Sum.inl b)=false:=decide_eq_false (λq=>nomatch q)
def lr(prog:Zpr)(w:World):PySem.KeyKind prog w Key where
 is:=xq
 hash:=keyH w
 inj:=λv a b ha hb=>by
  rcases gn ha with⟨i,t,rfl,rfl⟩|⟨x,t,rfl,rfl⟩
  .rcases gn hb with⟨j,u,rfl,e⟩|⟨y,u,rfl,e⟩
   .injection e with e1 _;rw[e1]
   .exact nomatch e
  .rcases gn hb with⟨j,u,rfl,e⟩|⟨y,u,rfl,e⟩
   .exact nomatch e
   .injection e with e1 _;rw[e1]
 byValue:=λk v h=>by
  rcases gn h with⟨i,t,rfl,rfl⟩|⟨x,t,rfl,rfl⟩<;>rfl
 pyHash:=λhv h=>by
  rcases gn hv with⟨i,t,rfl,rfl⟩|⟨x,t,rfl,rfl⟩
  .exact wpAny_pyHash_int h
  .exact wpAny_pyHash_str h
 eqBool:=λhu hv h=>by
  rcases gn hu with⟨i,t,rfl,rfl⟩|⟨x,t,rfl,rfl⟩
  .rcases gn hv with⟨j,u,rfl,rfl⟩|⟨y,u,rfl,rfl⟩
   .rw[WK]at h;exact wpAny_eqBool_int h
   .rw[UJ]at h;exact SeqAt.EqAt.int_str i t y u _ _ _ _ h
  .rcases gn hv with⟨j,u,rfl,rfl⟩|⟨y,u,rfl,rfl⟩
   .rw[UG]at h;exact SeqAt.EqAt.str_int x t j u _ _ _ _ h
   .rw[Wq]at h;exact wpAny_eqBool_str h
 «strs»:=λk x t v h=>by
  rcases gn h with⟨i,u,rfl,e⟩|⟨y,u,rfl,e⟩
  .exact nomatch e
  .injection e with e1 _
   subst e1;cases v<;>rfl
theorem Ac(prog:Zpr)(w:World)(i:Int)(t:Tok):(lr prog w).is (.inl i) (.int i t)=true:=HW i t
theorem Ce(prog:Zpr)(w:World)(x:Str)(t:Tok):(lr prog w).is (.inr x) (.str x t)=true:=Hi x t
inductive V where
 |non|bl (b:Bool)|int (i:Int)|str (x:Str)|byt (b:Array UInt8)|flt (b:UInt64)|ref (a:Addr)|ty (n:String)
 deriving DecidableEq
def cI:V->Value->Prop
 | .non,u=>u=Value.none
 | .bl b,u=>u=Value.bool b
 | .int i,u=>∃t,u=Value.int i t
 | .str x,u=>∃t,u=Value.str x t
 | .byt b,u=>∃t,u=Value.bytes b t
 | .flt b,u=>∃t,u=Value.float b t
 | .ref a,u=>u=Value.ref a
 | .ty n,u=>u=Value.type n
abbrev bM:List V->List Value->Prop:=Paired cI
theorem bM.length(r:bM xs us):xs.length=us.length:=Paired.length r
theorem bM.get:∀{xs:List V}{us:List Value}{i:Nat}{x:V},bM xs us->xs[i]? =some x->∃u,us[i]? =some u/\cI x u
 |_,_,_,_,.nil,e=>by simp at e
 |_,_,0,_,.cons r _,e=>by simp at e;subst e;exact⟨_,rfl,r⟩
 |_,_,i+1,x,.cons _ t,e=>by
  obtain⟨u,h1,h2⟩:=bM.get (i:=i) (x:=x) t (by simpa using e)
  exact⟨u,by simpa using h1,h2⟩
theorem bM.set(r:cI x u):∀{xs:List V}{us:List Value}(i:Nat),bM xs us->bM (xs.set i x) (us.set i u)
 |_,_,_,.nil=>.nil
 |_,_,0,.cons _ t=>.cons r t
 |_,_,i+1,.cons q t=>.cons q (bM.set r i t)
theorem bM.append:∀{xs ys:List V}{us ws:List Value},bM xs us->bM ys ws->bM (xs++ys) (us++ws)
 |_,_,_,_,.nil,s=>s
 |_,_,_,_,.cons r t,s=>.cons r (bM.append t s)
theorem bM.take:∀{xs:List V}{us:List Value}(n:Nat),bM xs us->bM (xs.take n) (us.take n)
 |_,_,0,_=>.nil
 |_,_,_+1,.nil=>.nil
 |_,_,n+1,.cons r t=>.cons r (bM.take n t)
theorem bM.drop:∀{xs:List V}{us:List Value}(n:Nat),bM xs us->bM (xs.drop n) (us.drop n)
 |_,_,0,r=>r
 |_,_,_+1,.nil=>.nil
 |_,_,n+1,.cons _ t=>bM.drop n t
def XQ:Option V->Option Value->Prop
 |some v,some u=>cI v u
 |none,none=>True
 |_,_=>False
def KV{κ:Type}:List (κ×V)->List (κ×Value)->Prop:=Paired λ(p:κ×V)(q:κ×Value)=>p.1=q.1/\cI p.2 q.2
def kV:Key->V
 | .inl i=>.int i
 | .inr x=>.str x
inductive HO where
 |lst (xs:List V)
 |tup (xs:List V)
 |dK (kvs:List (Key×V))|dT (kvs:List (List Key×V))
 |set (S:Int->Bool) (n:Nat)
 |ins (C dx:Addr) (fs:List (Str×V))
 |own (x:Addr)
 |xd (fs:List (Str×V))
 |met (f x:Addr)
 |rng (lo hi:Int)
 |frz (o:Obj) (u:HO)
 |tbl (ps:Array Value)
 |ext (φ:Heap->Prop)
abbrev Hp:=Addr->Option HO
def upd(H:Hp)(a:Addr)(o:HO):Hp:=λb=>if b=a then some o else H b
theorem ie:upd H a o a=some o:=by unfold upd;rw[if_pos rfl]
theorem aV(h:b≠a):upd H a o b=H b:=by unfold upd;rw[if_neg h]
theorem Gf{H:Hp}{a b:Addr}{o u:HO}(h:H a=some o)(h':H b=some u)(d:o≠u):a≠b:=by
 intro e;subst e;rw[h]at h';exact d (Option.some.inj h')
theorem dZ{H:Hp}{a b:Addr}{o:HO}(h:H a=some o)(h':H b=none):a≠b:=by
 intro e;subst e;rw[h]at h';cases h'
section
variable (P:Zpr) (w:World)
def kj(H:Hp)(h:Heap)(a:Addr):HO->Prop
 | .lst xs=>xs.length<=sizeLine/\∃(its:List Value)(n:Nat),bM xs its/\h.get? a=some { cls:=.type "list",data:=.seq its.toArray n}
 | .tup xs=>xs.length<=sizeLine/\∃its:List Value,bM xs its/\IsTup h a its.toArray
 | .dK kvs=>kvs.length<=sizeLine/\(a==sysModules)=false/\∃vs,KV kvs vs/\h.DictOf (lr P w) a vs
 | .dT kvs=>kvs.length<=sizeLine/\(a==sysModules)=false/\∃xs:List (List Key×Addr×Value),
   Paired (λ(p:List Key×V)(q:List Key×Addr×Value)=>p.1=q.1/\H q.2.1=some (.tup (p.1.map kV))/\cI p.2 q.2.2) kvs xs/\
   ∃o es ep,h.get? a=some o/\o.ExactDict/\o.data= .dict es ep/\es.toList=xs.map (entryOfKey (tupleKind (lr P w)))/\(xs.map (·.1)).Nodup
 | .set S n=>h.SetOf (intKind P w) a S n
 | .ins C dx fs=>H dx=some (.own a)/\fs.length<=1000/\dx≠a/\h.get? a=some (PySem.W.instObj C dx)/\
   ∃mA,h.Ns1 dx mA/\(∀f,XQ (fs.lookup f) (mA f))/\PySem.Within mA (fs.map (·.1))
 | .own _=>∃o,h.get? a=some o
 | .xd fs=>∃mA,h.Ns1 a mA/\∀f,XQ (fs.lookup f) (mA f)
 | .rng lo hi=>∃t u v,h.get? a=some { cls:=.type "range",data:=.fields #[.int lo t,.int hi u,.int 1 v] }
 | .frz o u=>h.get? a=some o/\kj H h a u
 | .tbl ps=>h.get? a=some { cls:=.none,data:=.fields ps}
 | .met f x=>h.get? a=some (PySem.W.methodObj (.ref f) (.ref x))
 | .ext φ=>φ h/\(∃o,h.get? a=some o)/\∀h1 h2:Heap,φ h1->(∀o,h1.get? a=some o->h2.get? a=some o)->φ h2
def HOk(H:Hp)(h:Heap):Prop:=∀a o,H a=some o->kj P w H h a o
end
section
variable {P:Zpr} {w:World} {H H':Hp} {h h':Heap} {a:Addr} {o:HO}
theorem kj.lt(x:kj P w H h a o):a<h.objs.size:=by
 cases o with
 |lst xs=>obtain⟨_,_,_,_,e⟩:=x;exact Ze e
 |tup xs=>obtain⟨_,_,_,p⟩:=x;exact p.lt
 |dK kvs=>obtain⟨_,_,_,_,o,_,_,e,_⟩:=x;exact Ze e
 |dT kvs=>obtain⟨_,_,_,_,o,_,_,e,_⟩:=x;exact Ze e
 |set S n=>obtain⟨o,_,_,_,e,_⟩:=x;exact Ze e
 |ins C dx fs=>obtain⟨_,_,_,e,_⟩:=x;exact Ze e
 |own y=>obtain⟨_,e⟩:=x;exact Ze e
 |xd fs=>obtain⟨_,⟨_,_,_,e,_⟩,_⟩:=x;exact Ze e
 |rng lo hi=>obtain⟨_,_,_,e⟩:=x;exact Ze e
 |frz ob u=>obtain⟨e,_⟩:=x;exact Ze e
 |tbl ps=>exact Ze (show h.get? a=some _ from x)
 |met f y=>exact Ze (show h.get? a=some _ from x)
 |ext φ=>obtain⟨_,⟨_,e⟩,_⟩:=x;exact Ze e
theorem Paired.mapP{α β:Type}{F G:α->β->Prop}:∀{l₁:List α}{l₂:List β},Paired F l₁ l₂->(∀a b,F a b->G a b)->Paired G l₁ l₂
 |_,_,.nil,_=>.nil
 |_,_,.cons r t,f=>.cons (f _ _ r) (Paired.mapP t f)
theorem kj.stay(x:kj P w H h a o)(k:∀b u,(b=a∨H b=some (.own a))->h.get? b=some u->h'.get? b=some u)
  (ho:∀b,H b=some (.own a)->H' b=some (.own a)) (ht:∀b xs,H b=some (.tup xs)->H' b=some (.tup xs)):kj P w H' h' a o:=by
 induction o with
 |lst xs=>obtain⟨z,its,n,r,e⟩:=x;exact⟨z,its,n,r,k _ _ (.inl rfl) e⟩
 |tup xs=>obtain⟨z,its,r,ob,e,c⟩:=x;exact⟨z,its,r,ob,k _ _ (.inl rfl) e,c⟩
 |dK kvs=>obtain⟨z,y,vs,r,ob,es,ep,e,c⟩:=x;exact⟨z,y,vs,r,ob,es,ep,k _ _ (.inl rfl) e,c⟩
 |dT kvs=>
  obtain⟨z,y,xs,r,ob,es,ep,e,c⟩:=x;exact⟨z,y,xs,Paired.mapP r λp q z=>⟨z.1,ht _ _ z.2.1,z.2.2⟩,ob,es,ep,k _ _ (.inl rfl) e,c⟩
 |set S n=>obtain⟨ob,es,ep,t,e,c⟩:=x;exact⟨ob,es,ep,t,k _ _ (.inl rfl) e,c⟩
 |ins C dx fs=>
  obtain⟨d,z,ne,e,mA,⟨od,es,ep,e2,c⟩,r⟩:=x;exact⟨ho _ d,z,ne,k _ _ (.inl rfl) e,mA,⟨od,es,ep,k _ _ (.inr d) e2,c⟩,r⟩
 |own y=>obtain⟨ob,e⟩:=x;exact⟨ob,k _ _ (.inl rfl) e⟩
 |xd fs=>obtain⟨mA,⟨od,es,ep,e,c⟩,r⟩:=x;exact⟨mA,⟨od,es,ep,k _ _ (.inl rfl) e,c⟩,r⟩
 |rng lo hi=>obtain⟨t,u,v,e⟩:=x;exact⟨t,u,v,k _ _ (.inl rfl) e⟩
 |frz ob u ih=>obtain⟨e,q⟩:=x;exact⟨k _ _ (.inl rfl) e,ih q⟩
 |tbl ps=>
  have e:h.get? a=some { cls:=.none,data:=.fields ps}:=x;show h'.get? a=some { cls:=.none,data:=.fields ps};exact k a _ (.inl rfl) e
 |met f y=>
  have e:h.get? a=some (PySem.W.methodObj (.ref f) (.ref y)):=x;show h'.get? a=some (PySem.W.methodObj (.ref f) (.ref y));exact k a _ (.inl rfl) e
 |ext φ=>obtain⟨p,⟨o,e⟩,st⟩:=x;exact⟨st _ _ p λo q=>k _ _ (.inl rfl) q,⟨o,k _ _ (.inl rfl) e⟩,st⟩
theorem HOk.lt(x:HOk P w H h)(e:H a=some o):a<h.objs.size:=(x a o e).lt
theorem HOk.fresh(x:HOk P w H h)(e:h.objs.size<=a):H a=none:=by
 cases q:H a with
 |none=>rfl
 |some u=>exact absurd (Zc (x.lt q) e) (Nat.lt_irrefl _)
theorem HOk.kept(x:HOk P w H h)(k:∀b u,h.get? b=some u->h'.get? b=some u):HOk P w H h':=λa o e=>
 (x a o e).stay (λb u _ q=>k b u q) (λ_ q=>q) λ_ _ q=>q
theorem HOk.laid(x:HOk P w H h)(k:∀b u,h.get? b=some u->h'.get? b=some u)(hp:h.objs.size<=a)(new:kj P w (upd H a o) h' a o):HOk P w (upd H a o) h':=λb u e=>by
 have hn:=x.fresh hp;by_cases hb:b=a
 .subst hb;rw[ie]at e;cases e;exact new
 .rw[aV hb]at e;exact(x b u e).stay (λc v _ q=>k c v q) (λc q=>by rw[aV (dZ q hn)];exact q) λc xs q=>by rw[aV (dZ q hn)];exact q
end
def Rd(H:Hp)(a:Addr)(u:HO):Prop:=H a=some u∨∃o,H a=some (.frz o u)
theorem Rd.ok(r:Rd H a u)(x:HOk P w H h):kj P w H h a u:=by
 rcases r with r|⟨o,r⟩
 .exact x a u r
 .obtain⟨_,q⟩:=x a _ r;exact q
def Mut:Option HO->Prop
 |some (.lst _)=>True
 |some (.dK _)=>True
 |some (.dT _)=>True
 |some (.set _ _)=>True
 |some (.ins _ _ _)=>True
 |some (.ext _)=>True
 |_=>False
section
variable {P:Zpr} {w:World} {H:Hp} {h h':Heap} {x e:Addr} {o':HO}
theorem HOk.write(ok:HOk P w H h)(mu:Mut (H x))(he:e=x∨H e=some (.own x))(k:∀b u,b≠e->h.get? b=some u->h'.get? b=some u)(heo:∃u,h'.get? e=some u)
  (new:kj P w (upd H x o') h' x o'):HOk P w (upd H x o') h':=λb u q=>by
 have nown:∀c y,H c=some (.own y)->c≠x:=λc y r z=>by subst z;rw[r]at mu;exact mu
 have ntup:∀c xs,H c=some (.tup xs)->c≠x:=λc xs r z=>by subst z;rw[r]at mu;exact mu
 by_cases hb:b=x
 .subst hb;rw[ie]at q;cases q;exact new
 .rw[aV hb]at q;by_cases hbe:b=e
  .have q':H b=some (.own x):=by
    rcases he with z|z
    .exact absurd (hbe.trans z) hb
    .rw[hbe];exact z
   rw[q]at q';cases q';obtain⟨v,hv⟩:=heo;exact⟨v,by rw[hbe];exact hv⟩
  .refine(ok b u q).stay (λc v hc r=>k c v ?_ r) (λc r=>by rw[aV (nown c b r)];exact r) λc xs r=>by rw[aV (ntup c xs r)];exact r
   rcases hc with rfl|hc
   .exact hbe
   .rintro rfl
    rcases he with z|z
    .exact nown c b hc z
    .rw[hc]at z;cases z;exact hb rfl
end
structure Un(fs ex:List Addr)(H H':Hp)(h h':Heap):Prop where
 keep:∀b o,h.get? b=some o->H b=none->b∉fs->b∉ex->h'.get? b=some o
 slot:∀b o,h.get? b=some o->H b=none->b∈fs->b∉ex->∃sl,h'.get? b=some { o with slots:=sl}
 free:∀b o,h.get? b=some o->H b=none->b∉ex->H' b=none
 there:∀b o,h.get? b=some o->b∉ex->∃o',h'.get? b=some o'
 tups:∀b xs,H b=some (.tup xs)->H' b=some (.tup xs)
 frzs:∀b o u,H b=some (.frz o u)->H' b=some (.frz o u)
 tbls:∀b ps,H b=some (.tbl ps)->∃more,H' b=some (.tbl (ps++more))
section
variable {fs fs' ex ex':List Addr} {H H1 H2:Hp} {h h1 h2 h':Heap} {a x e:Addr} {o:HO}
theorem Un.any(u:Un fs ex H H1 h h1)(q:h.get? b=some ob)(n:H b=none)(hx:b∉ex):∃sl,h1.get? b=some { ob with slots:=sl}:=by
 by_cases hb:b∈fs
 .exact u.slot b ob q n hb hx
 .exact⟨ob.slots,u.keep b ob q n hb hx⟩
theorem Un.kept(k:∀b u,h.get? b=some u->h'.get? b=some u):Un fs ex H H h h':=
 ⟨λb ob q _ _ _=>k b ob q,λb ob q _ _ _=>⟨ob.slots,k b ob q⟩,λ_ _ _ n _=>n,λb ob q _=>⟨ob,k b ob q⟩,λ_ _ q=>q,λ_ _ _ q=>q,λ_ ps q=>⟨#[],by rw[q];simp⟩⟩
theorem Un.refl:Un fs ex H H h h:=Un.kept λ_ _ q=>q
theorem Un.laid(k:∀b u,h.get? b=some u->h'.get? b=some u)(hp:h.objs.size<=a)(hn:H a=none):Un fs ex H (upd H a o) h h' where
 keep:=λb u q _ _ _=>k b u q
 slot:=λb u q _ _ _=>⟨u.slots,k b u q⟩
 free:=λb u q n _=>by rw[aV (Zk (Zc (Ze q) hp))];exact n
 there:=λb u q _=>⟨u,k b u q⟩
 tups:=λb xs q=>by rw[aV (dZ q hn)];exact q
 frzs:=λb u xs q=>by rw[aV (dZ q hn)];exact q
 tbls:=λb ps q=>⟨#[],by rw[aV (dZ q hn),q];simp⟩
theorem Un.write(mu:Mut (H x))(he:e=x∨H e=some (.own x))(k:∀b u,b≠e->h.get? b=some u->h'.get? b=some u)(heo:∃u,h'.get? e=some u):Un fs ex H (upd H x o) h h':=by
 have hx:∀b,H b=none->b≠x:=λb n z=>by subst z;rw[n]at mu;exact mu
 have hb:∀b,H b=none->b≠e:=λb n z=>by
  subst z
  rcases he with r|r
  .exact hx b n r
  .rw[n]at r;cases r
 have hm:∀b u,H b=some u->¬Mut (some u)->b≠x:=λb u q nm z=>by subst z;rw[q]at mu;exact nm mu
 refine⟨λb u q n _ _=>k b u (hb b n) q,λb u q n _ _=>⟨u.slots,k b u (hb b n) q⟩,λb u q n _=>by rw[aV (hx b n)];exact n,λb u q _=>?_,
  λb xs q=>by rw[aV (hm b _ q λz=>z)];exact q,λb u xs q=>by rw[aV (hm b _ q λz=>z)];exact q,λb ps q=>⟨#[],by rw[aV (hm b _ q λz=>z),q];simp⟩⟩
 by_cases hbe:b=e
 .subst hbe;exact heo
 .exact⟨u,k b u hbe q⟩
end
def trk(h:Heap)(H:Hp):List Addr:=(List.range h.objs.size).filter λa=>(H a).isSome
def yu(h:Heap)(H:Hp):Heap:=PySem.W.hideAll h (trk h H)
theorem Hr(h:Heap)(H:Hp):(yu h H).objs.size=h.objs.size:=PySem.W.hideAll_size _ _
theorem Oc(e:h.get? b=some o)(n:H b=none):(yu h H).get? b=some o:=
 PySem.W.hideAll_get _ e λhm=>by
  have q:(H b).isSome=true:=(List.mem_filter.mp hm).2;rw[n]at q;simp at q
theorem QG(e:(yu h H).get? b=some o):h.get? b=some o/\H b=none:=by
 have e':h.get? b=some o:=PySem.W.of_hideAll (trk h H) e;refine⟨e',?_⟩;cases q:H b with
 |none=>rfl
 |some x=>
  have hm:b∈trk h H:=List.mem_filter.mpr ⟨List.mem_range.mpr (Ze e'),by simp[q]⟩
  have z:(yu h H).get? b=none:=PySem.W.hideAll_none (trk h H) hm;rw[z]at e;cases e
def Qt(g h:Heap)(L:Addr):List (Addr×Obj):=(List.range h.objs.size).filterMap λa=>if a=L∨(g.get? a).isSome=true then none else(h.get? a).map λo=>(a,o)
def rest(g h:Heap)(L d:Addr):List (Addr×Obj):=(Qt g h L).filter λp=>decide (p.1≠d)
structure Mod(K:Zw)(mg:Str->Option Value)(base:Heap):Prop where
 kin:K.In base
 glob:base.Ns mainGlobals mg
 blt:∃mb,base.Ns builtinsNs mb/\∀x:Str,x≠"__name__"->mb x=bootBuiltins x
 nolimit:base.NoLimit
 bmain:∃bm ob,mg "__builtins__"=some (.ref bm)/\bm≠builtinsNs/\base.get? bm=some ob/\ob.cls= .type "module"/\ob.dict=some builtinsNs/\ob.data= .plain
structure Cx where
 prog:Zpr
 w:World
 K:Zw
 mg:Str->Option Value
 base:Heap
 A:Zar
 N:List Str
 s₀:Zsh
 H₀:Hp
 env:Env
 outer:List Env
 stack:List Env
 ex:List Addr
 fn:Str->Bool
 calm:Bool
 pn:List (Addr×Obj)
 xe:Value->Zsh->Prop
def frs(l:List Env):List Addr:=l.filterMap (·.frame)
abbrev Cx.fs(X:Cx):List Addr:=frs X.outer
def Vis(sc:Scope)(x:Str):Prop:=sc.names.lookup x=some .local∨sc.names.lookup x=some .cell∨sc.names.lookup x=some .free
def Loc(sc:Scope)(x:Str):Prop:=sc.names.lookup x=some .local∨sc.names.lookup x=some .cell
def Look(env:Env)(h:Heap)(m:Str->Option Value)(x:Str)(u:Value):Prop:=
 (env.kindOf x=some .local/\m x=some u)∨((env.kindOf x=some .cell∨env.kindOf x=some .free)/\∃c,env.cells.lookup x=some c/\h.IsCell c (some u))
structure Cx.Ok(X:Cx):Prop where
 mod:Mod X.K X.mg X.base
 kind:X.env.scope.kind= .function
 glob:X.env.globals=mainGlobals
 blt:X.env.builtins=builtinsNs
 above:X.s₀.heap.objs.size<=X.env.locals
 inj:∀x y c,X.env.cells.lookup x=some c->X.env.cells.lookup y=some c->x=y
 has:∀x,(X.env.kindOf x=some .cell∨X.env.kindOf x=some .free)->∃c,X.env.cells.lookup x=some c
 cab:∀x c,X.fn x=true->X.env.cells.lookup x=some c->X.s₀.heap.objs.size<=c
 hd:X.calm=true->X.A.handled=none
 frames:X.A.frames=some X.stack
 stk:X.stack=X.outer∨(X.stack=X.env::X.outer/\X.env.frame=some X.env.locals)
 exf:∀b∈X.ex,b≠X.env.locals/\∀x c,X.env.cells.lookup x=some c->c≠b
 bs:∀b o,X.base.get? b=some o->X.s₀.heap.get? b=some o/\X.H₀ b=none
 bsz:X.base.objs.size<=X.s₀.heap.objs.size
 noex:∀b o,X.base.get? b=some o->b∉X.ex
 exfs:∀b∈X.ex,b∉X.fs
 funs:X.s₀.heap.FunFrames X.base X.outer
 frf:∀b∈X.fs,X.H₀ b=none
structure GK(a b:Array GenState):Prop where
 bare:AllBare b
 kept:∀(k:Nat)(g:GenState),a[k]? =some g->b[k]? =some g
theorem GK.refl(h:AllBare a):GK a a:=⟨h,λ_ _ e=>e⟩
theorem GK.trans(x:GK a b)(y:GK b c):GK a c:=⟨y.bare,λk g e=>y.kept k g (x.kept k g e)⟩
theorem GK.again(x:GK a b):GK b b:=GK.refl x.bare
structure Inv(X:Cx)(pins:List (Addr×Obj))(σ:List (Option V))(H:Hp)(s:Zsh):Prop where
 ok:X.Ok
 os:s.os=X.s₀.os
 bare:GK X.s₀.gens s.gens
 base:Un X.fs X.ex X.H₀ H X.s₀.heap s.heap
 loc:∃m,s.heap.Ns X.env.locals m/\∀(i:Nat)(x:Str)(v:V),X.N[i]? =some x->σ[i]? =some (some v)->Vis X.env.scope x->∃u,cI v u/\Look X.env s.heap m x u
 cell:∀x c,X.env.cells.lookup x=some c->∃v,s.heap.IsCell c v
 free:H X.env.locals=none
 freeC:∀x c,X.env.cells.lookup x=some c->H c=none
 pin:∀p∈X.pn++pins,s.heap.get? p.1=some p.2/\H p.1=none/\p.1≠X.env.locals/\p.1∉X.fs/\∀v,p.2.data≠ .cell v
 hok:HOk X.prog X.w H s.heap
 len:σ.length=X.N.length
section
variable {X:Cx} {pins:List (Addr×Obj)} {σ:List (Option V)} {H H':Hp} {s:Zsh} {h':Heap}
theorem Cx.Ok.nofr(ok:X.Ok)(e:X.base.get? b=some o):b∉X.fs:=λhb=>by
 have:=(ok.funs.mem hb).1;rw[e]at this;cases this
theorem Inv.bs(I:Inv X pins σ H s):∀b o,X.base.get? b=some o->s.heap.get? b=some o/\H b=none:=λb o e=>
 ⟨I.base.keep b o (I.ok.bs b o e).1 (I.ok.bs b o e).2 (I.ok.nofr e) (I.ok.noex b o e),I.base.free b o (I.ok.bs b o e).1 (I.ok.bs b o e).2 (I.ok.noex b o e)⟩
theorem Inv.bk(I:Inv X pins σ H s):∀b o,X.base.get? b=some o->s.heap.get? b=some o:=λb o e=>(I.bs b o e).1
theorem Inv.mod(I:Inv X pins σ H s):Mod X.K X.mg X.base:=I.ok.mod
theorem Inv.kIn(I:Inv X pins σ H s):X.K.In s.heap:=I.ok.mod.kin.keeps I.bk
theorem Inv.nolimit(I:Inv X pins σ H s):s.heap.NoLimit:=I.ok.mod.nolimit.keeps I.bk
theorem Inv.fr(I:Inv X pins σ H s):∃m,Fr X.base X.env.locals s.heap m:=
 let⟨m,hn,_⟩:=I.loc
 ⟨m,hn,I.bk,Zl I.ok.bsz I.ok.above⟩
theorem Inv.lt(I:Inv X pins σ H s):X.env.locals<s.heap.objs.size:=let⟨_,hn,_⟩:=I.loc;hn.lt
theorem Inv.sz(I:Inv X pins σ H s):X.s₀.heap.objs.size<=s.heap.objs.size:=Zl I.ok.above (Nat.le_of_lt I.lt)
theorem Inv.nofs(I:Inv X pins σ H s)(h:s.heap.objs.size<=a):a∉X.fs:=λhb=>by
 obtain⟨_,o,ho,_⟩:=I.ok.funs.mem hb;exact absurd (Zc (Ze ho) (Zl I.sz h)) (Nat.lt_irrefl _)
theorem Inv.cne(I:Inv X pins σ H s):∀x c,X.env.cells.lookup x=some c->c≠X.env.locals:=λx c e z=>by
 obtain⟨v,o,ho,hd⟩:=I.cell x c e;obtain⟨m,⟨o',es,ep,ho',hd',_⟩,_⟩:=I.loc;rw[z,ho']at ho;cases ho;rw[hd']at hd;cases hd
theorem Inv.funs(I:Inv X pins σ H s):s.heap.FunFrames X.base X.outer:=by
 have all:∀(l:List Env),(∀b∈frs l,b∈X.fs)->X.s₀.heap.FunFrames X.base l->s.heap.FunFrames X.base l:=by
  intro l
  induction l with
  |nil=>intro _ _;trivial
  |cons env r ih=>
   intro hs hl;obtain⟨hk,⟨L,o,hf,hn,ho,hd⟩,hr⟩:=hl;have hL:L∈X.fs:=hs L (by unfold frs;rw[List.filterMap_cons,hf];exact List.mem_cons_self)
   obtain⟨sl,e⟩:=I.base.slot L o ho (I.ok.frf L hL) hL λz=>I.ok.exfs L z hL;exact⟨hk,⟨L,_,hf,hn,e,hd⟩,ih (λb hb=>hs b (by unfold frs;rw[List.filterMap_cons,hf];exact ZE _ hb)) hr⟩
 exact all X.outer (λ_ hb=>hb) I.ok.funs
theorem Inv.stack(I:Inv X pins σ H s):s.heap.FunFrames X.base X.stack:=by
 rcases I.ok.stk with e|⟨e,hf⟩
 .rw[e];exact I.funs
 .rw[e];obtain⟨m,hn,_⟩:=I.loc;refine .cons (by rw[I.ok.kind];decide) hf hn ?_ I.funs
  exact Heap.get?_none_of_le (Zl I.ok.bsz I.ok.above)
theorem Inv.stkSub(I:Inv X pins σ H s):∀b∈frs X.stack,b∈X.env.locals::X.fs:=λb hb=>by
 rcases I.ok.stk with e|⟨e,hf⟩
 .rw[e]at hb;exact ZE _ hb
 .rw[e]at hb;unfold frs at hb;rw[List.filterMap_cons,hf]at hb;exact hb
theorem Inv.stkFree(I:Inv X pins σ H s):∀b∈frs X.stack,H b=none:=λb hb=>by
 rcases Zi.mp (I.stkSub b hb)with e|hb
 .rw[e];exact I.free
 .obtain⟨_,o,ho,_⟩:=I.ok.funs.mem hb;exact I.base.free b o ho (I.ok.frf b hb) λz=>I.ok.exfs b z hb
theorem Inv.step{g':Array GenState}{t':Nat}{d':Drawn}{ch:List Addr}(I:Inv X pins σ H s)
  (hch:∀b∈ch,(b∈X.ex∨X.s₀.heap.objs.size<=b)/\b≠X.env.locals/\(∀x c,X.env.cells.lookup x=some c->c≠b)/\∀p∈X.pn++pins,p.1≠b)
  (keep:∀b o,b≠X.env.locals->b∉X.fs->b∉ch->s.heap.get? b=some o->H b=none->h'.get? b=some o)
  (slot:∀b o,b≠X.env.locals->b∈X.fs->b∉ch->s.heap.get? b=some o->H b=none->∃sl,h'.get? b=some { o with slots:=sl}) (free:∀b o,b∉ch->s.heap.get? b=some o->H b=none->H' b=none)
  (there:∀b o,b∉ch->s.heap.get? b=some o->∃o',h'.get? b=some o')
  (tups:∀b xs,H b=some (.tup xs)->H' b=some (.tup xs)) (frzs:∀b o u,H b=some (.frz o u)->H' b=some (.frz o u)) (tbls:∀b ps,H b=some (.tbl ps)->∃more,H' b=some (.tbl (ps++more)))
  (ns:∀m,s.heap.Ns X.env.locals m->h'.Ns X.env.locals m) (hok:HOk X.prog X.w H' h') (hg:GK s.gens g'):
  Inv X pins σ H' { s with heap:=h',gens:=g',drawn:=d',toks:=t'}:=by
 have neL:∀b o,X.s₀.heap.get? b=some o->b≠X.env.locals:=λb o e=>Zk (Zc (Ze e) I.ok.above);have neC:∀b o,X.s₀.heap.get? b=some o->b∉X.ex->b∉ch:=λb o e hx hb=>by
  rcases(hch b hb).1 with z|z
  .exact hx z
  .exact absurd (Zc (Ze e) z) (Nat.lt_irrefl _)
 have cellK:∀x c,X.env.cells.lookup x=some c->∀v,s.heap.IsCell c v->h'.IsCell c v:=λx c e v zq1=>by
  obtain⟨o,ho,hd⟩:=zq1;have nch:c∉ch:=λz=>(hch c z).2.2.1 x c e rfl;by_cases hc:c∈X.fs
  .obtain⟨sl,q⟩:=slot c o (I.cne x c e) hc nch ho (I.freeC x c e);exact⟨_,q,hd⟩
  .exact⟨o,keep c o (I.cne x c e) hc nch ho (I.freeC x c e),hd⟩
 refine⟨I.ok,I.os,I.bare.trans hg,⟨λb o e n hb hx=>?_,λb o e n hb hx=>?_,λb o e n hx=>?_,λb o e hx=>?_,λb xs e=>tups b xs (I.base.tups b xs e),λb o xs e=>frzs b o xs (I.base.frzs b o xs e),λb ps e=>?_⟩,?_,λx c e=>?_,?_,λx c e=>?_,λp hp=>?_,hok,I.len⟩
 .exact keep b o (neL b o e) hb (neC b o e hx) (I.base.keep b o e n hb hx) (I.base.free b o e n hx)
 .obtain⟨sl,e1⟩:=I.base.slot b o e n hb hx;obtain⟨sl',e2⟩:=slot b _ (neL b o e) hb (neC b o e hx) e1 (I.base.free b o e n hx);exact⟨sl',e2⟩
 .obtain⟨o',e1⟩:=I.base.there b o e hx;exact free b o' (neC b o e hx) e1 (I.base.free b o e n hx)
 .obtain⟨o',e1⟩:=I.base.there b o e hx;exact there b o' (neC b o e hx) e1
 .obtain⟨m1,e1⟩:=I.base.tbls b ps e;obtain⟨m2,e2⟩:=tbls b _ e1;exact⟨m1++m2,by rw[e2,Array.append_assoc]⟩
 .obtain⟨m,hn,hl⟩:=I.loc;refine⟨m,ns m hn,λi x v e1 e2 e3=>?_⟩;obtain⟨u,r,l⟩:=hl i x v e1 e2 e3;refine⟨u,r,?_⟩
  rcases l with l|⟨k,c,e,z⟩
  .exact .inl l
  .exact .inr ⟨k,c,e,cellK x c e _ z⟩
 .obtain⟨v,z⟩:=I.cell x c e;exact⟨v,cellK x c e v z⟩
 .obtain⟨m,⟨o,_,_,ho,_⟩,_⟩:=I.loc;exact free _ o (λz=>(hch _ z).2.1 rfl) ho I.free
 .obtain⟨v,o,ho,hd⟩:=I.cell x c e;exact free c o (λz=>(hch c z).2.2.1 x c e rfl) ho (I.freeC x c e)
 .obtain⟨e,n,ne,nf,d⟩:=I.pin p hp;have nch:p.1∉ch:=λz=>(hch p.1 z).2.2.2 p hp rfl;exact⟨keep p.1 p.2 ne nf nch e n,free p.1 p.2 nch e n,ne,nf,d⟩
theorem Inv.un{t':Nat}(I:Inv X pins σ H s)(u:Un X.fs [] H H' s.heap h')(hok:HOk X.prog X.w H' h'):Inv X pins σ H' { s with heap:=h',toks:=t'}:=by
 obtain⟨m,⟨o,es,ep,ho,r⟩,_⟩:=id I.loc;obtain⟨sl,hL⟩:=u.any ho I.free (by simp)
 exact I.step (g':=s.gens) (d':=s.drawn) (ch:=[]) (λ_ z=>nomatch z) (λb o _ hb _ e n=>u.keep b o e n hb (by simp)) (λb o _ hb _ e n=>u.slot b o e n hb (by simp)) (λb o _ e n=>u.free b o e n (by simp)) (λb o _ e=>u.there b o e (by simp)) u.tups u.frzs u.tbls (λm' hm=>by
  obtain⟨o',es',ep',ho',r'⟩:=hm;rw[ho]at ho';cases ho';exact⟨_,es',ep',hL,r'⟩) hok I.bare.again
theorem Inv.call{g':Array GenState}{t':Nat}{d':Drawn}{ch:List Addr}(I:Inv X pins σ H s)(u:Un (frs X.stack) ch H H' s.heap h')(hok:HOk X.prog X.w H' h')(hg:GK s.gens g')
  (hch:∀b∈ch,(b∈X.ex∨X.s₀.heap.objs.size<=b)/\b≠X.env.locals/\(∀x c,X.env.cells.lookup x=some c->c≠b)/\∀p∈X.pn++pins,p.1≠b):
  Inv X pins σ H' { s with heap:=h',gens:=g',drawn:=d',toks:=t'}:=by
 obtain⟨m,⟨o,es,ep,ho,r⟩,_⟩:=id I.loc;obtain⟨sl,hL⟩:=u.any ho I.free λz=>(hch _ z).2.1 rfl;exact I.step (ch:=ch) hch (λb o hL hb hc e n=>u.keep b o e n (λz=>(Zi.mp (I.stkSub b z)).elim hL hb) hc) (λb o _ _ hc e n=>u.any e n hc) (λb o hc e n=>u.free b o e n hc) (λb o hc e=>u.there b o e hc) u.tups u.frzs u.tbls (λm' hm=>by
  obtain⟨o',es',ep',ho',r'⟩:=hm;rw[ho]at ho';cases ho';exact⟨_,es',ep',hL,r'⟩) hok hg
theorem Inv.turned{t':Nat}{it:Addr}(I:Inv X pins σ H s)(k:∀b o,b≠it->s.heap.get? b=some o->h'.get? b=some o)(hn:H it=none)(hL:it≠X.env.locals)
  (h1:it∈X.ex∨X.s₀.heap.objs.size<=it) (h2:∀x c,X.env.cells.lookup x=some c->c≠it) (h3:∀p∈X.pn++pins,p.1≠it):Inv X pins σ H { s with heap:=h',toks:=t'}:=by
 have nit:∀b u,H b=some u->b≠it:=λb u e z=>by rw[z,hn]at e;cases e
 refine I.step (g':=s.gens) (d':=s.drawn) (ch:=[it]) (λb hb=>?_) (λb o _ _ hc e _=>k b o (λz=>hc (by simp[z])) e) (λb o _ _ hc e _=>⟨o.slots,k b o (λz=>hc (by simp[z])) e⟩) (λ_ _ _ _ n=>n)
  (λb o hc e=>⟨o,k b o (λz=>hc (by simp[z])) e⟩) (λ_ _ e=>e) (λ_ _ _ e=>e) (λb ps e=>⟨#[],by rw[e];simp⟩) (λm hm=>?_) (λb u e=>?_) I.bare.again
 .have e:b=it:=by simpa using hb
  subst e;exact⟨h1,hL,h2,h3⟩
 .obtain⟨o,es,ep,ho,r⟩:=hm;exact⟨o,es,ep,k _ o (Ne.symm hL) ho,r⟩
 .refine(I.hok b u e).stay (λc v hc q=>k c v ?_ q) (λ_ q=>q) λ_ _ q=>q
  rcases hc with z|z
  .rw[z];exact nit b u e
  .exact nit c _ z
theorem Inv.tok(I:Inv X pins σ H s)(t:Nat):Inv X pins σ H { s with toks:=t}:=I.un (h':=s.heap) (t':=t) Un.refl I.hok
theorem Inv.kept(I:Inv X pins σ H s)(k:∀b u,s.heap.get? b=some u->h'.get? b=some u):Inv X pins σ H { s with heap:=h',toks:=t'}:=I.un (Un.kept k) (I.hok.kept k)
theorem Inv.laid(I:Inv X pins σ H s)(k:∀b u,s.heap.get? b=some u->h'.get? b=some u)(hp:s.heap.objs.size<=a)(new:kj X.prog X.w (upd H a o) h' a o):
  Inv X pins σ (upd H a o) { s with heap:=h',toks:=t'}:=I.un (Un.laid k hp (I.hok.fresh hp)) (I.hok.laid k hp new)
theorem Inv.write(I:Inv X pins σ H s)(mu:Mut (H x))(he:e=x∨H e=some (.own x))(k:∀b u,b≠e->s.heap.get? b=some u->h'.get? b=some u)(heo:∃u,h'.get? e=some u)
  (new:kj X.prog X.w (upd H x o) h' x o):Inv X pins σ (upd H x o) { s with heap:=h',toks:=t'}:=I.un (Un.write mu he k heo) (I.hok.write mu he k heo new)
theorem Inv.weak(I:Inv X pins σ H s)(hl:σ'.length=σ.length)(w:∀(i:Nat) v,σ'[i]? =some (some v)->σ[i]? =some (some v)):Inv X pins σ' H s:=
 ⟨I.ok,I.os,I.bare,I.base,let⟨m,hn,hl'⟩:=I.loc;⟨m,hn,λi x v e1 e2 e3=>hl' i x v e1 (w i v e2) e3⟩,I.cell,I.free,I.freeC,I.pin,I.hok,hl.trans I.len⟩
theorem Inv.pins_of(I:Inv X pins σ H s)(h:∀p∈pins',s.heap.get? p.1=some p.2/\H p.1=none/\p.1≠X.env.locals/\p.1∉X.fs/\∀v,p.2.data≠ .cell v):Inv X pins' σ H s:=
 ⟨I.ok,I.os,I.bare,I.base,I.loc,I.cell,I.free,I.freeC,λp hp=>(Zm.mp hp).elim (λz=>I.pin p (List.mem_append_left _ z)) (h p),I.hok,I.len⟩
theorem CG{N:List Str}(hN:N.Nodup){i j:Nat}{x:Str}(a:N[i]? =some x)(b:N[j]? =some x):i=j:=by
 obtain⟨h1,e1⟩:=Zh.mp a;obtain⟨h2,e2⟩:=Zh.mp b;exact(List.getElem_inj hN).mp (e1.trans e2.symm)
theorem xV{M:Model}{A:Zar}{E:Value->Zsh->Prop}{i:Nat}{x:Str}{v:V}{u:Value}{Q:Unit->Zsh->Prop}(I:Inv X pins σ H s)(hN:X.N.Nodup)(hi:X.N[i]? =some x)(hx:Loc X.env.scope x)(r:cI v u)
  (h:∀s',Inv X pins (σ.set i (some v)) H s'->(∃a,Heap.SameBut a s.heap s'.heap/\(a=X.env.locals∨X.env.cells.lookup x=some a))->Q () s') (hf:X.fn x=true∨X.env.scope.names.lookup x=some .local:=by first|exact .inl rfl|exact .inr rfl|assumption):wpAny M A (storeName X.env x u) Q E s:=by
 obtain⟨m,hn,hl⟩:=id I.loc;have hcls:(X.env.scope.kind== .class||(X.env.scope.kind== .module&&X.env.locals != X.env.globals))=false:=by rw[I.ok.kind];rfl
 have hiσ:i<σ.length:=by rw[I.len];exact(Zh.mp hi).1
 have cne:=I.cne;have tracked:∀{a:Addr}{h':Heap},(∃o,s.heap.get? a=some o/\H a=none)->Heap.SameBut a s.heap h'->HOk X.prog X.w H h':=λ{a h'} ha hs b ob e=>by
  obtain⟨_,_,hfree⟩:=ha;refine(I.hok b ob e).stay (λc w' hc q=>(hs.2 c ?_).trans q) (λ_ q=>q) λ_ _ q=>q;rintro rfl
  rcases hc with rfl|hc
  .rw[hfree]at e;cases e
  .rw[hfree]at hc;cases hc
 rcases hx with hk|hk
 .refine wpAny_storeName_local hk hn (λh' hn' hs=>?_) hcls;obtain⟨oL,_,_,hoL,_⟩:=id hn;refine h _ ⟨I.ok,I.os,I.bare,⟨λb o e n hb hx=>?_,λb o e n hb hx=>?_,I.base.free,λb o e hx=>?_,I.base.tups,I.base.frzs,I.base.tbls⟩,⟨_,hn',λj y v' e1 e2 e3=>?_⟩,λy c e=>?_,I.free,I.freeC,λp hp=>?_,tracked ⟨oL,hoL,I.free⟩ hs,by simpa using I.len⟩ ⟨_,hs,.inl rfl⟩
  .exact(hs.2 b (Zk (Zc (Ze e) I.ok.above))).trans (I.base.keep b o e n hb hx)
  .obtain⟨sl,e1⟩:=I.base.slot b o e n hb hx;exact⟨sl,(hs.2 b (Zk (Zc (Ze e) I.ok.above))).trans e1⟩
  .obtain⟨o',e1⟩:=I.base.there b o e hx;exact⟨o',(hs.2 b (Zk (Zc (Ze e) I.ok.above))).trans e1⟩
  .by_cases hj:j=i
   .subst hj;rw[hi]at e1;cases e1;rw[List.getElem?_set_self hiσ]at e2;cases e2;exact⟨u,r,.inl ⟨hk,by simp⟩⟩
   .rw[List.getElem?_set_ne (Ne.symm hj)]at e2;obtain⟨u',r',q⟩:=hl j y v' e1 e2 e3;refine⟨u',r',?_⟩
    rcases q with⟨k,e⟩|⟨k,c,e,z⟩
    .refine .inl ⟨k,?_⟩;have:y≠x:=λe=>hj (CG hN e1 (e▸hi));simp[this,e]
    .exact .inr ⟨k,c,e,z.sameBut hs (cne y c e)⟩
  .obtain⟨w',z⟩:=I.cell y c e;exact⟨w',z.sameBut hs (cne y c e)⟩
  .obtain⟨e,n,ne,nf,d⟩:=I.pin p hp;exact⟨(hs.2 p.1 ne).trans e,n,ne,nf,d⟩
 .have hfn:X.fn x=true:=by
   rcases hf with z|z
   .exact z
   .rw[z]at hk;cases hk
  obtain⟨c,hc⟩:=I.ok.has x (.inl hk);obtain⟨w',z⟩:=I.cell x c hc;refine wpAny_storeName_cell I.ok.kind hk hc z (λh' hc' hs=>?_);obtain⟨oc,hoc,hocd⟩:=id z;refine h { s with heap:=h'} ⟨I.ok,I.os,I.bare,⟨λb o e n hb hx=>?_,λb o e n hb hx=>?_,I.base.free,λb o e hx=>?_,I.base.tups,I.base.frzs,I.base.tbls⟩,⟨m,hn.sameBut hs (Ne.symm (cne x c hc)),λj y v' e1 e2 e3=>?_⟩,λy c' e=>?_,I.free,I.freeC,λp hp=>?_,tracked ⟨oc,hoc,I.freeC x c hc⟩ hs,by simpa using I.len⟩ ⟨c,hs,.inr hc⟩
  .exact(hs.2 b (Zk (Zc (Ze e) (I.ok.cab x c hfn hc)))).trans (I.base.keep b o e n hb hx)
  .obtain⟨sl,e1⟩:=I.base.slot b o e n hb hx;exact⟨sl,(hs.2 b (Zk (Zc (Ze e) (I.ok.cab x c hfn hc)))).trans e1⟩
  .obtain⟨o',e1⟩:=I.base.there b o e hx;exact⟨o',(hs.2 b (Zk (Zc (Ze e) (I.ok.cab x c hfn hc)))).trans e1⟩
  .by_cases hj:j=i
   .subst hj;rw[hi]at e1;cases e1;rw[List.getElem?_set_self hiσ]at e2;cases e2;exact⟨u,r,.inr ⟨.inl hk,c,hc,hc'⟩⟩
   .rw[List.getElem?_set_ne (Ne.symm hj)]at e2;obtain⟨u',r',q⟩:=hl j y v' e1 e2 e3;refine⟨u',r',?_⟩
    rcases q with q|⟨k,c',e,z'⟩
    .exact .inl q
    .refine .inr ⟨k,c',e,z'.sameBut hs ?_⟩;rintro rfl;exact hj (CG hN e1 (I.ok.inj _ _ _ e hc▸hi))
  .by_cases hcc:c'=c
   .subst hcc;exact⟨_,hc'⟩
   .obtain⟨w2,z2⟩:=I.cell y c' e;exact⟨w2,z2.sameBut hs hcc⟩
  .obtain⟨e,n,ne,nf,d⟩:=I.pin p hp;refine⟨(hs.2 p.1 ?_).trans e,n,ne,nf,d⟩;intro q;rw[q,hoc]at e;have q':oc=p.2:=Option.some.inj e;exact d w' (by rw[<-q'];exact hocd)
theorem lA{E:Value->Zsh->Prop}{Q:Unit->Zsh->Prop}(I:Inv X pins σ H s)(hN:X.N.Nodup)(hi:X.N[i]? =some x)(hx:Loc X.env.scope x)(r:cI v u)
  (h:∀s',Inv X pins (σ.set i (some v)) H s'->Q () s') (hf:X.fn x=true∨X.env.scope.names.lookup x=some .local:=by first|exact .inl rfl|exact .inr rfl|assumption):wpAny M A (storeName X.env x u) Q E s:=
 xV I hN hi hx r (λs' I' _=>h s' I') hf
theorem Inv.call'(I:Inv X pins σ H s)(ho:s'.os=s.os)(u:Un (frs X.stack) ch H H' s.heap s'.heap)(hok:HOk X.prog X.w H' s'.heap)(hg:GK s.gens s'.gens)
  (hch:∀b∈ch,(b∈X.ex∨X.s₀.heap.objs.size<=b)/\b≠X.env.locals/\(∀x c,X.env.cells.lookup x=some c->c≠b)/\∀p∈X.pn++pins,p.1≠b):Inv X pins σ H' s':=by
 obtain⟨h',g',d',t',o'⟩:=s';have e:o'=s.os:=ho;subst e;exact I.call (g':=g') (t':=t') (d':=d') u hok hg hch
end
abbrev XK:=Value->Option Addr->Hp->Prop
abbrev St:=List (Option V)
abbrev VK:=V->Hp->Prop
abbrev TE:=St->Hp->VK->Prop
abbrev TT:=St->Hp->(Bool->Hp->Prop)->Prop
abbrev TA:=St->Hp->(List V->Hp->Prop)->Prop
structure Ends where
 nx:St->Hp->Prop
 rt:VK
 bk:St->Hp->Prop:=λ_ _=>False
 ct:St->Hp->Prop:=λ_ _=>False
abbrev TS:=Ends->St->Hp->Prop
inductive GP(X:Cx)(pins:List (Addr×Obj))(Q:St->Hp->Prop)(s':Zsh):Prop
 |mk (σ') (H'):Inv X pins σ' H' s'->Q σ' H'->GP X pins Q s'
inductive HP(X:Cx)(pins:List (Addr×Obj))(σ:St)(Q:Hp->Prop)(s':Zsh):Prop
 |mk (H'):Inv X pins σ H' s'->Q H'->HP X pins σ Q s'
inductive EP(X:Cx)(pins:List (Addr×Obj))(σ:St)(Q:VK)(u:Value)(s':Zsh):Prop
 |mk (v) (H'):Inv X pins σ H' s'->cI v u->Q v H'->EP X pins σ Q u s'
inductive TP(X:Cx)(pins:List (Addr×Obj))(σ:St)(Q:Bool->Hp->Prop)(b:Bool)(s':Zsh):Prop
 |mk (H'):Inv X pins σ H' s'->Q b H'->TP X pins σ Q b s'
inductive AP(X:Cx)(pins:List (Addr×Obj))(σ:St)(Q:List V->Hp->Prop)(us:List Value)(s':Zsh):Prop
 |mk (vs) (H'):Inv X pins σ H' s'->bM vs us->Q vs H'->AP X pins σ Q us s'
def SP(X:Cx)(pins:List (Addr×Obj))(D:Ends)(f:Flow)(s':Zsh):Prop:=
 match f with
 | .next=>GP X pins D.nx s'
 | .brk=>GP X pins D.bk s'
 | .cont=>GP X pins D.ct s'
 | .ret u=>∃v σ' H',Inv X pins σ' H' s'/\cI v u/\D.rt v H'
def PE(X:Cx)(e:Expr)(t:TE):Prop:=
 ∀(pins:List (Addr×Obj))(s:Zsh)(σ:St)(H:Hp)(Q:VK),Inv X pins σ H s->t σ H Q->wpAny (model X.prog X.w) X.A (eval e X.env) (EP X pins σ Q) X.xe s
def PT(X:Cx)(e:Expr)(t:TT):Prop:=
 ∀(pins:List (Addr×Obj))(s:Zsh)(σ:St)(H:Hp)(Q:Bool->Hp->Prop),Inv X pins σ H s->t σ H Q->wpAny (model X.prog X.w) X.A (isTrue e X.env (eval e X.env)) (TP X pins σ Q) X.xe s
def PW(X:Cx)(e:Expr)(t:TT):Prop:=
 ∀(whole:Sem Value)(pins:List (Addr×Obj))(s:Zsh)(σ:St)(H:Hp)(Q:Bool->Hp->Prop),Inv X pins σ H s->t σ H Q->wpAny (model X.prog X.w) X.A (isTrue e X.env whole) (TP X pins σ Q) X.xe s
theorem PW.pt(h:PW X e t):PT X e t:=h _
def PA(X:Cx)(es:List Expr)(t:TA):Prop:=
 ∀(pos:Pos)(pins:List (Addr×Obj))(s:Zsh)(σ:St)(H:Hp)(Q:List V->Hp->Prop),Inv X pins σ H s->t σ H Q->wpAny (model X.prog X.w) X.A (spliced (backTo pos (starEach es X.env))) (AP X pins σ Q) X.xe s
def PS(X:Cx)(st:Stmt)(t:TS):Prop:=
 ∀(pins:List (Addr×Obj))(s:Zsh)(σ:St)(H:Hp)(D:Ends),Inv X pins σ H s->t D σ H->wpAny (model X.prog X.w) X.A (exec st X.env) (SP X pins D) X.xe s
def PSs(X:Cx)(st:List Stmt)(t:TS):Prop:=
 ∀(pins:List (Addr×Obj))(s:Zsh)(σ:St)(H:Hp)(D:Ends),Inv X pins σ H s->t D σ H->wpAny (model X.prog X.w) X.A (execs st X.env) (SP X pins D) X.xe s
theorem thn{α:Type}{t:Sem α}{Q Q':α->Zsh->Prop}{M:Model}{A:Zar}{E:Value->Zsh->Prop}{s:Zsh}(h:wpAny M A t Q E s)(hQ:∀a s,Q a s->Q' a s):wpAny M A t Q' E s:=Zy h hQ λ_ _ x=>x
section
variable {X:Cx}
def tVar(i:Nat):TE:=λσ H Q=>∃v,σ[i]? =some (some v)/\Q v H
def tC(v:V):TE:=λ_ H Q=>Q v H
theorem Uk(hN:X.N[i]? =some x)(hv:Vis X.env.scope x)(hd:(x==("__debug__":Str))=false:=by decide)(hcd:(x==("__classdict__":Str))=false:=by decide):PE X (.Name x pos) (tVar i):=by
 intro pins s σ H Q I h;obtain⟨v,e,h⟩:=h;obtain⟨m,hn,hl⟩:=I.loc;obtain⟨u,r,l⟩:=hl i x v hN e hv;have fin:EP X pins σ Q u s:=⟨v,H,I,r,h⟩
 rcases l with⟨hk,hm⟩|⟨hk,c,hc,hcell⟩
 .exact wpAny_Name (wpAny_loadName_local I.ok.kind hk hn hm fin) hd
 .rcases hk with hk|hk
  .exact wpAny_Name (wpAny_loadName_cell I.ok.kind hk hc hcell fin) hd
  .exact wpAny_Name (wpAny_loadName_free I.ok.kind hk hc hcell fin hcd) hd
theorem Lh{i j pos}:PE X (.Constant (.int i) j pos) (tC (.int i)):=λ_ _ _ H _ I h=>wpAny_Constant_int ⟨.int i,H,I.tok _,⟨_,rfl⟩,h⟩
theorem Xv{b j pos}:PE X (.Constant (.bool b) j pos) (tC (.bl b)):=λ_ _ _ H _ I h=>Constant_bool ⟨.bl b,H,I,rfl,h⟩
theorem Ue{j pos}:PE X (.Constant .none j pos) (tC .non):=λ_ _ _ H _ I h=>Constant_none ⟨.non,H,I,rfl,h⟩
theorem Uv{x j pos}:PE X (.Constant (.str x) j pos) (tC (.str x)):=λ_ _ _ H _ I h=>Calls.Constant_str ⟨.str x,H,I.tok _,⟨_,rfl⟩,h⟩
def Gl(X:Cx)(x:Str):Prop:=X.env.kindOf x=some .globalImplicit
theorem Fw{E:Value->Zsh->Prop}{Q:Value->Zsh->Prop}(I:Inv X pins σ H s)(hg:Gl X x)(hm:X.mg x=some u)(h:Q u s)
  (hd:(x==("__debug__":Str))=false:=by decide):wpAny (model X.prog X.w) X.A (eval (.Name x pos) X.env) Q E s:=
 Calls.Name_function_global I.ok.kind hg (Calls.loadGlobal_global (by rw[I.ok.glob];exact I.mod.glob.keeps I.bk) hm h) hd
theorem oU{E:Value->Zsh->Prop}{Q:Value->Zsh->Prop}(I:Inv X pins σ H s)(hg:Gl X x)(hm:X.mg x=none)(hv:bootBuiltins x=some u)(h:Q u s)
  (hn:x≠"__name__":=by decide) (hd:(x==("__debug__":Str))=false:=by decide):wpAny (model X.prog X.w) X.A (eval (.Name x pos) X.env) Q E s:=by
 obtain⟨mb,h1,h2⟩:=I.mod.blt;exact Calls.Name_function_global I.ok.kind hg (Calls.loadGlobal_builtin (by rw[I.ok.glob];exact I.mod.glob.keeps I.bk) hm (by rw[I.ok.blt];exact h1.keeps I.bk) ((h2 x hn).trans hv) h) hd
theorem Te(hg:Gl X x)(hm:X.mg x=some u)(r:cI v u)(hd:(x==("__debug__":Str))=false:=by decide):PE X (.Name x pos) (tC v):=
 λ_ _ _ H _ I h=>Fw I hg hm ⟨v,H,I,r,h⟩ hd
theorem Qf(hg:Gl X x)(hm:X.mg x=none)(hv:bootBuiltins x=some u)(r:cI v u)(hn:x≠"__name__":=by decide)(hd:(x==("__debug__":Str))=false:=by decide):PE X (.Name x pos) (tC v):=
 λ_ _ _ H _ I h=>oU I hg hm hv ⟨v,H,I,r,h⟩ hn hd
variable {a b:Expr} {ta tb:TE} {pos:Pos}
theorem Ae(b:Expr)(h:op≠ .In)(h2:op≠ .NotIn):behindInMarks op b=false:=by
 have e1:(op==CmpOp.In)=false:=by cases op<;>first|rfl|exact absurd rfl h
 have e2:(op==CmpOp.NotIn)=false:=by cases op<;>first|rfl|exact absurd rfl h2
 cases b<;>simp[behindInMarks,e1,e2]
variable {tA tB':TT} {rest:List Expr}
def tAnd(t u:TT):TT:=λσ H Q=>t σ H λc H1=>if c=true then u σ H1 Q else Q false H1
def tOr(t u:TT):TT:=λσ H Q=>t σ H λc H1=>if c=true then Q true H1 else u σ H1 Q
def tNot(t:TT):TT:=λσ H Q=>t σ H λc H1=>Q (!c) H1
theorem Qm(ha:PT X a tA):PW X (.BoolOp .And [a] pos) tA:=by
 intro wh pins s σ H Q I h;refine isTrue_and (thn (ha pins s σ H Q I h) λc s1 e=>?_);cases c with
 |true=>exact isTrue_and_nil e
 |false=>exact e
theorem VD(ha:PT X a tA):PW X (.BoolOp .Or [a] pos) tA:=by
 intro wh pins s σ H Q I h;refine isTrue_or (thn (ha pins s σ H Q I h) λc s1 e=>?_);cases c with
 |false=>exact isTrue_or_nil e
 |true=>exact e
theorem VF(ha:PT X a tA)(hb:PW X (.BoolOp .And (b::rest) pos) tB'):PW X (.BoolOp .And (a::b::rest) pos) (tAnd tA tB'):=by
 intro wh pins s σ H Q I h;refine isTrue_and (thn (ha pins s σ H _ I h) λc s1 zq7=>?_);obtain⟨H1,I1,q1⟩:=zq7;cases c with
 |true=>exact hb wh pins s1 σ H1 Q I1 q1
 |false=>exact⟨H1,I1,q1⟩
theorem YX(ha:PT X a tA)(hb:PW X (.BoolOp .Or (b::rest) pos) tB'):PW X (.BoolOp .Or (a::b::rest) pos) (tOr tA tB'):=by
 intro wh pins s σ H Q I h;refine isTrue_or (thn (ha pins s σ H _ I h) λc s1 zq8=>?_);obtain⟨H1,I1,q1⟩:=zq8;cases c with
 |true=>exact⟨H1,I1,q1⟩
 |false=>exact hb wh pins s1 σ H1 Q I1 q1
theorem UT(ha:PT X a tA):PT X (.UnaryOp .Not a pos) (tNot tA):=by
 intro pins s σ H Q I h;exact isTrue_not (thn (ha pins s σ H (λc H1=>Q (!c) H1) I h) λc s1 ⟨H1,I1,q1⟩=>⟨H1,I1,q1⟩)
def Yv(ta tb:TE):TE:=λσ H Q=>ta σ H λx H1=>∃c,x= .bl c/\if c=true then tb σ H1 Q else Q (.bl false) H1
def XJ(ta:TE):TE:=λσ H Q=>ta σ H λx H1=>∃c,x= .bl c/\Q (.bl (!c)) H1
theorem Uz{op}(h:PE X a t):PE X (.BoolOp op [a] pos) t:=λpins s σ H Q I hw=>BoolOp_one (h pins s σ H Q I hw)
theorem Wg(ha:PE X a ta)(hb:PE X (.BoolOp .And (b::rest) pos) tb):PE X (.BoolOp .And (a::b::rest) pos) (Yv ta tb):=by
 intro pins s σ H Q I h;refine BoolOp_and (thn (ha pins s σ H _ I h) λv s1 zq9=>?_);obtain⟨x,H1,I1,r1,q1⟩:=zq9;obtain⟨c,rfl,q1⟩:=q1;cases r1;refine wpAny_truthy_bool ?_;cases c with
 |true=>exact hb pins s1 σ H1 Q I1 q1
 |false=>exact⟨.bl false,H1,I1,rfl,q1⟩
theorem Vq(ha:PE X a ta):PE X (.UnaryOp .Not a pos) (XJ ta):=by
 intro pins s σ H Q I h;refine UnaryOp_ (thn (ha pins s σ H _ I h) λv s1 zq11=>?_);obtain⟨x,H1,I1,r1,q1⟩:=zq11;obtain⟨c,rfl,q1⟩:=q1;cases r1;exact not_of (wpAny_truthy_bool ⟨.bl (!c),H1,I1,rfl,q1⟩)
end
def SqL(K:Zw)(H:Hp)(a:Addr)(xs:List V):Prop:=
 Rd H a (.lst xs)∨
  ∃(o:Obj)(its:Array Value)(n:Nat),K.lookup a=some o/\o.cls= .type "list"/\o.dict=none/\o.data= .seq its n/\its.size<=sizeLine/\bM xs its.toList
def SqT(K:Zw)(H:Hp)(a:Addr)(xs:List V):Prop:=
 Rd H a (.tup xs)∨
  ∃(o:Obj)(its:Array Value)(n:Nat),K.lookup a=some o/\o.cls= .type "tuple"/\o.data= .seq its n/\its.size<=sizeLine/\bM xs its.toList
def absV:Value->Option V
 | .none=>some .non
 | .bool b=>some (.bl b)
 | .int i _=>some (.int i)
 | .str x _=>some (.str x)
 | .bytes b _=>some (.byt b)
 | .float b _=>some (.flt b)
 | .ref a=>some (.ref a)
 | .type n=>some (.ty n)
 |_=>none
theorem cI.abs(r:cI x u):absV u=some x:=by
 cases x with
 |non=>cases r;rfl
 |bl _=>cases r;rfl
 |int _=>obtain⟨t,rfl⟩:=r;rfl
 |str _=>obtain⟨t,rfl⟩:=r;rfl
 |byt _=>obtain⟨t,rfl⟩:=r;rfl
 |flt _=>obtain⟨t,rfl⟩:=r;rfl
 |ref _=>cases r;rfl
 |ty _=>cases r;rfl
theorem cI.inj(r:cI x u)(q:cI y u):x=y:=Option.some.inj (r.abs.symm.trans q.abs)
theorem bM.inj:∀{xs ys:List V}{us:List Value},bM xs us->bM ys us->xs=ys
 |_,_,_,.nil,.nil=>rfl
 |_,_,_,.cons r t,.cons r' t'=>by rw[r.inj r',bM.inj t t']
section
variable {X:Cx} {pins:List (Addr×Obj)} {σ:St} {H:Hp} {s:Zsh} {a:Addr} {xs ys:List V}
theorem SqL.of{K:Zw}(h:H a=some (.lst xs)):SqL K H a xs:=.inl (.inl h)
theorem Inv.list(I:Inv X pins σ H s)(h:SqL X.K H a xs):∃its:List Value,bM xs its/\PlainL s.heap a its.toArray/\xs.length<=sizeLine:=by
 rcases h with h|⟨o,its,n,hk,hc,hd,hs,hz,r⟩
 .obtain⟨z,its,n,r,e⟩:=h.ok I.hok;exact⟨its,r,⟨_,n,e,rfl,rfl,rfl⟩,z⟩
 .refine⟨its.toList,r,⟨o,n,I.kIn a o hk,hc,hd,by simpa using hs⟩,?_⟩
  have e:=r.length;simp only[Array.length_toList]at e
  lia
theorem Inv.tuple(I:Inv X pins σ H s)(h:SqT X.K H a xs):∃its:List Value,bM xs its/\IsTup s.heap a its.toArray/\xs.length<=sizeLine:=by
 rcases h with h|⟨o,its,n,hk,hc,hs,hz,r⟩
 .obtain⟨z,its,r,p⟩:=h.ok I.hok;exact⟨its,r,p,z⟩
 .refine⟨its.toList,r,⟨o,I.kIn a o hk,hc,n,by simpa using hs⟩,?_⟩
  have e:=r.length;simp only[Array.length_toList]at e
  lia
theorem Inv.list_inj(I:Inv X pins σ H s)(h:SqL X.K H a xs)(h':SqL X.K H a ys):xs=ys:=by
 obtain⟨its,r,⟨o,n,e,_,_,d⟩,_⟩:=I.list h;obtain⟨its',r',⟨o',n',e',_,_,d'⟩,_⟩:=I.list h';rw[e]at e';cases e';rw[d]at d';injection d' with d1 _
 have:its=its':=by simpa using congrArg Array.toList d1
 subst this;exact r.inj r'
theorem Inv.tuple_inj(I:Inv X pins σ H s)(h:SqT X.K H a xs)(h':SqT X.K H a ys):xs=ys:=by
 obtain⟨its,r,⟨o,e,_,n,d⟩,_⟩:=I.tuple h;obtain⟨its',r',⟨o',e',_,n',d'⟩,_⟩:=I.tuple h';rw[e]at e';cases e';rw[d]at d';injection d' with d1 _
 have:its=its':=by simpa using congrArg Array.toList d1
 subst this;exact r.inj r'
end
abbrev Cx.wish(X:Cx)(E:Value->Zsh->Prop):Cx:={ X with xe:=E}
abbrev Cx.nox(X:Cx):Cx:=X.wish λ_ _=>False
theorem Cx.Ok.wish{X:Cx}(ok:X.Ok)(E:Value->Zsh->Prop):(X.wish E).Ok:=
 ⟨ok.mod,ok.kind,ok.glob,ok.blt,ok.above,ok.inj,ok.has,ok.cab,ok.hd,ok.frames,ok.stk,ok.exf,ok.bs,ok.bsz,ok.noex,ok.exfs,ok.funs,ok.frf⟩
theorem Cx.Ok.unwish{X:Cx}{E:Value->Zsh->Prop}(ok:(X.wish E).Ok):X.Ok:=
 ⟨ok.mod,ok.kind,ok.glob,ok.blt,ok.above,ok.inj,ok.has,ok.cab,ok.hd,ok.frames,ok.stk,ok.exf,ok.bs,ok.bsz,ok.noex,ok.exfs,ok.funs,ok.frf⟩
section
variable {X:Cx} {pins:List (Addr×Obj)} {σ:St} {H:Hp} {s:Zsh} {E:Value->Zsh->Prop}
theorem Inv.wish(I:Inv X pins σ H s)(E:Value->Zsh->Prop):Inv (X.wish E) pins σ H s:=⟨I.ok.wish E,I.os,I.bare,I.base,I.loc,I.cell,I.free,I.freeC,I.pin,I.hok,I.len⟩
theorem Inv.unwish(I:Inv (X.wish E) pins σ H s):Inv X pins σ H s:=⟨I.ok.unwish,I.os,I.bare,I.base,I.loc,I.cell,I.free,I.freeC,I.pin,I.hok,I.len⟩
theorem SP.unwish(h:SP (X.wish E) pins D f s'):SP X pins D f s':=by
 cases f with
 |next=>obtain⟨σ',H',I,q⟩:=h;exact⟨σ',H',I.unwish,q⟩
 |brk=>obtain⟨σ',H',I,q⟩:=h;exact⟨σ',H',I.unwish,q⟩
 |cont=>obtain⟨σ',H',I,q⟩:=h;exact⟨σ',H',I.unwish,q⟩
 |ret u=>obtain⟨v,σ',H',I,r,q⟩:=h;exact⟨v,σ',H',I.unwish,r,q⟩
theorem PSs.nox{st:List Stmt}{t:TS}(h:PSs X.nox st t):PSs X st t:=λpins s σ H D I hw=>
 Zy (h pins s σ H D (I.wish _) hw) (λ_ _ q=>q.unwish) λ_ _ z=>False.elim z
end
section
variable {X:Cx} {st:Stmt} {rest:List Stmt} {t u:TS} {e:Expr} {te:TE} {pos:Pos}
def Yx:TS:=λD σ H=>D.nx σ H
def tSeq(t u:TS):TS:=λD σ H=>t { D with nx:=u D} σ H
theorem Oj:PSs X [] Yx:=λ_ _ σ H _ I h=>wpAny_execs_nil ⟨σ,H,I,h⟩
theorem Kq(h1:PS X st t)(h2:PSs X rest u):PSs X (st::rest) (tSeq t u):=by
 intro pins s σ H D I h;refine wpAny_execs_cons (thn (h1 pins s σ H { D with nx:=u D} I h) λf s1 q=>?_)
 cases f with
 |next=>
  obtain⟨σ',H',I',q⟩:=q;exact h2 pins s1 σ' H' D I' q
 |ret v=>exact q
 |brk=>exact q
 |cont=>exact q
theorem Sw(h1:PS X st t):PSs X [st] t:=by
 intro pins s σ H D I h;refine wpAny_execs_cons (thn (h1 pins s σ H D I h) λf s1 q=>?_);cases f with
 |next=>exact wpAny_execs_nil q
 |ret v=>exact q
 |brk=>exact q
 |cont=>exact q
def Wn:TS:=λD σ H=>D.bk σ H
theorem Kv:PS X (.Break pos) Wn:=λ_ _ σ H _ I h=>wpAny_Break ⟨σ,H,I,h⟩
theorem Inv.quiet(I:Inv X pins σ H s):interactive X.env=false:=by simp[interactive,I.ok.kind]
def Xp(te:TE):TS:=λD σ H=>te σ H λ_ H1=>D.nx σ H1
theorem Qc(he:PE X e te)(hs:swapsWith e none pos.line X.env=pure false:=by rfl):PS X (.Expr e pos) (Xp te):=by
 intro pins s σ H D I h;exact wpAny_Expr_any (thn (he pins s σ H _ I h) λv s1 ⟨x,H1,I1,r1,q1⟩=>⟨σ,H1,I1,q1⟩) I.quiet hs
def tRet(te:TE):TS:=λD σ H=>te σ H D.rt
theorem Wj(he:PE X e te):PS X (.Return (some e) pos) (tRet te):=by
 intro pins s σ H D I h;exact wpAny_Return_some (thn (he pins s σ H _ I h) λv s1 ⟨x,H1,I1,r1,q1⟩=>⟨x,σ,H1,I1,r1,q1⟩)
def tIfS(c:TT)(t u:TS):TS:=λD σ H=>c σ H λb H1=>if b=true then t D σ H1 else u D σ H1
theorem YB{c:Expr}{a b:List Stmt}{tc:TT}(hc:PT X c tc)(ha:PSs X a t)(hb:PSs X b u):PS X (.If c a b pos) (tIfS tc t u):=by
 intro pins s σ H D I h;refine wpAny_If (thn (hc pins s σ H _ I h) λd s1 zq13=>?_);obtain⟨H1,I1,q1⟩:=zq13;cases d with
 |true=>exact ha pins s1 σ H1 D I1 q1
 |false=>exact hb pins s1 σ H1 D I1 q1
end
abbrev TG:=V->St->Hp->(St->Hp->Prop)->Prop
abbrev TGs:=List V->St->Hp->(St->Hp->Prop)->Prop
def PG(X:Cx)(target:Expr)(t:TG):Prop:=
 ∀(pins:List (Addr×Obj))(s:Zsh)(σ:St)(H:Hp)(v:V)(u:Value)(Q:St->Hp->Prop),Inv X pins σ H s->cI v u->t v σ H Q->
  wpAny (model X.prog X.w) X.A (assign target X.env u) (λ_ s'=>GP X pins Q s') X.xe s
def PGs(X:Cx)(ts:List Expr)(t:TGs):Prop:=
 ∀(pins:List (Addr×Obj))(s:Zsh)(σ:St)(H:Hp)(vs:List V)(us:List Value)(Q:St->Hp->Prop),Inv X pins σ H s->bM vs us->t vs σ H Q->
  wpAny (model X.prog X.w) X.A (assignInOrder ((assignEach ts X.env).map (·.2)) us) (λ_ s'=>GP X pins Q s') X.xe s
abbrev VB:=V->V->V->Hp->(Hp->Prop)->Prop
def XH(X:Cx)(t:VB):Prop:=
 ∀(pins:List (Addr×Obj))(s:Zsh)(σ:St)(H:Hp)(o i v:V)(ov iv u:Value)(Q:Hp->Prop),Inv X pins σ H s->cI o ov->cI i iv->cI v u->t o i v H Q->
  wpAny (model X.prog X.w) X.A (setItem ov iv u) (λ_ s'=>HP X pins σ Q s') X.xe s
abbrev TIp:=V->V->Hp->VK->Prop
def PIp(X:Cx)(op:Operator)(t:TIp):Prop:=
 ∀(pins:List (Addr×Obj))(s:Zsh)(σ:St)(H:Hp)(x y:V)(v u:Value)(Q:VK),Inv X pins σ H s->cI x v->cI y u->t x y H Q->
  wpAny (model X.prog X.w) X.A (inplaceOp op v u) (EP X pins σ Q) X.xe s
section
variable {X:Cx} {pos:Pos}
def Kc(i:Nat):TG:=λv σ H Q=>Q (σ.set i (some v)) H
theorem Td(hN:X.N.Nodup)(hi:X.N[i]? =some x)(hx:Loc X.env.scope x)(hf:X.fn x=true∨X.env.scope.names.lookup x=some .local:=by first|exact .inl rfl|exact .inr rfl|assumption):PG X (.Name x pos) (Kc i):=by
 intro pins s σ H v u Q I r h;exact wpAny_assign_Name (lA I hN hi hx r (λs' I'=>⟨_,H,I',h⟩) hf)
def gNil:TGs:=λvs σ H Q=>vs=[]/\Q σ H
def Ys(t:TG)(u:TGs):TGs:=λvs σ H Q=>∃v r,vs=v::r/\t v σ H λσ' H'=>u r σ' H' Q
theorem SJ:PGs X [] gNil:=by
 intro pins s σ H vs us Q I r h;obtain⟨e,h⟩:=h;subst e;cases r;exact assignInOrder_nil ⟨σ,H,I,h⟩
theorem JC{e:Expr}{es:List Expr}{t:TG}{u:TGs}(h1:PG X e t)(h2:PGs X es u)
  (hs:(assignEach (e::es) X.env).map (·.2)=assign e X.env::(assignEach es X.env).map (·.2):=by rfl):PGs X (e::es) (Ys t u):=by
 intro pins s σ H vs us Q I r h;obtain⟨v,vr,e1,h⟩:=h;subst e1;cases r with
 |cons r rr=>
  rw[hs];refine assignInOrder_cons (thn (h1 pins s σ H _ _ _ I r h) λ_ s1 zq14=>?_);obtain⟨σ1,H1,I1,q1⟩:=zq14;exact h2 pins s1 σ1 H1 _ _ Q I1 rr q1
def gTup(K:Zw)(n:Nat)(t:TGs):TG:=λv σ H Q=>∃a xs,v= .ref a/\SqT K H a xs/\xs.length=n/\t xs σ H Q
theorem Ww(hc:X.calm=true)(h:PGs X es t)
  (hn:(assignEach es X.env).length=n:=by rfl) (hst:(assignEach es X.env).findIdx? (·.1)=none:=by rfl):PG X (.Tuple es k pos) (gTup X.K n t):=by
 intro pins s σ H v u Q I r hw;obtain⟨a,xs,e1,hq,hl,hw⟩:=hw;subst e1;cases r;obtain⟨its,rv,ht,hz⟩:=I.tuple hq;refine assign_Tuple_tuple (I.ok.hd hc) ht (by simp[hn,<-hl,rv.length]) hst λh' hx=>?_
 have I1:Inv X pins σ H { s with heap:=h'}:=I.kept (t':=s.toks) λb o e=>hx b o (Zk (Ze e)) e
 exact h pins _ σ H xs _ Q I1 (by simpa using rv) hw
def gSub(to ti:TE)(t:VB):TG:=λv σ H Q=>to σ H λo H1=>ti σ H1 λi H2=>t o i v H2 λH3=>Q σ H3
theorem VL{o i:Expr}{to ti:TE}{t:VB}(ho:PE X o to)(hi:PE X i ti)(hs:XH X t)
  (ha:∀v,assign (.Subscript o i pos) X.env v=(do
   let ov<-holding [v] (eval o X.env)
   let iv<-holding [v,ov] (eval i X.env)
   standAt pos
   holding [v,ov,iv] (setItem ov iv v)
   release [v,ov,iv] []):=by intro _;rfl):PG X (.Subscript o i pos) (gSub to ti t):=by
 intro pins s σ H v u Q I r h;rw[ha];refine Zv (wpAny_holding (thn (ho pins s σ H _ I h) λov s1 zq15=>?_));obtain⟨x,H1,I1,r1,q1⟩:=zq15;refine Zv (wpAny_holding (thn (hi pins s1 σ H1 _ I1 q1) λiv s2 zq16=>?_));obtain⟨y,H2,I2,r2,q2⟩:=zq16;refine Zv (wpAny_standAt (Zv (wpAny_holding (thn (hs pins s2 σ H2 x y v ov iv u _ I2 r1 r2 r q2) λ_ s3 zq17=>?_))));obtain⟨H3,I3,q3⟩:=zq17;exact wpAny_release ⟨σ,H3,I3,q3⟩
def Vy(te:TE)(g:TG):TS:=λD σ H=>te σ H λx H1=>g x σ H1 D.nx
theorem KZ{tg e:Expr}{te:TE}{g:TG}(he:PE X e te)(hg:PG X tg g)(hs:swapsWithSole [tg] e pos.line X.env=pure false:=by rfl)(hw:swappedStores [tg] e X.env=pure none:=by rfl)
  (h1:(assignEach [tg] X.env).map (·.2)=[assign tg X.env]:=by rfl):PS X (.Assign [tg] e pos) (Vy te g):=by
 intro pins s σ H D I h;refine wpAny_Assign_stores (thn (he pins s σ H _ I h) λv s1 ⟨x,H1,I1,r1,q1⟩=>?_) hs hw;rw[h1];exact thn (hg pins s1 σ H1 x v _ I1 r1 q1) λ_ s2 q=>q
theorem Va{i:Nat}{x:Str}{e:Expr}{te:TE}{pos':Pos}(hN:X.N.Nodup)(hi:X.N[i]? =some x)(hx:Loc X.env.scope x)(he:PE X e te)(hs:swapsWith e (some (.Name x pos')) pos.line X.env=pure false:=by rfl)(hf:X.fn x=true∨X.env.scope.names.lookup x=some .local:=by first|exact .inl rfl|exact .inr rfl|assumption):
  PS X (.Assign [.Name x pos'] e pos) (Vy te (Kc i)):=by
 intro pins s σ H D I h;refine wpAny_Assign_Name (thn (he pins s σ H _ I h) λv s1 zq18=>?_) hs;obtain⟨y,H1,I1,r1,q1⟩:=zq18;exact lA I1 hN hi hx r1 (λs2 I2=>⟨_,H1,I2,q1⟩) hf
def tPar(i j:Nat)(ta:TA):TS:=λD σ H=>ta σ H λvs H1=>∃v w,vs=[v,w]/\D.nx ((σ.set i (some v)).set j (some w)) H1
theorem Vp{i j:Nat}{x y:Str}{a b:Expr}{ta:TA}{px py pt:Pos}{kt k2 pt2}(hc:X.calm=true)(hN:X.N.Nodup)(hi:X.N[i]? =some x)(hj:X.N[j]? =some y)(hij:i≠j)
  (hx:X.env.scope.names.lookup x=some .local) (hy:X.env.scope.names.lookup y=some .local) (ha:PA X [a,b] ta)
  (hw:swappedStores [.Tuple [.Name x px,.Name y py] kt pt] (.Tuple [a,b] k2 pt2) X.env=pure (some [x,y]))
  (hs:swapsWithSole [.Tuple [.Name x px,.Name y py] kt pt] (.Tuple [a,b] k2 pt2) pos.line X.env=pure false:=by rfl):
  PS X (.Assign [.Tuple [.Name x px,.Name y py] kt pt] (.Tuple [a,b] k2 pt2) pos) (tPar i j ta):=by
 intro pins s σ H D I h;rw[exec_Assign_arm];refine Zv (wpAny_standAt ?_);rw[hs];refine Zv (Zx ?_);rw[if_neg (by decide)]
 refine Zv (Tuple_ (thn (ha _ pins s σ H _ I h) λus s1 zq19=>?_));obtain⟨vs,H1,I1,r1,q1⟩:=zq19;obtain⟨v,w,e1,q1⟩:=q1;subst e1;obtain⟨u1,u2,rfl,rv,rw'⟩:∃u1 u2,us=[u1,u2]/\cI v u1/\cI w u2:=by
  cases r1 with
  |cons p q=>
   cases q with
   |cons p' q'=>
    cases q';exact⟨_,_,rfl,p,p'⟩
 refine Zz ?_ (by show 2<=sizeLine;decide)
 have I2:Inv X pins σ H1 { s1 with heap:=s1.heap.push { cls:=.type "tuple",data:=.seq [u1,u2].toArray} }:=I1.kept (t':=s1.toks) λb o e=>Zb _ e
 rw[hw];refine Zv (Zx ?_);show wpAny (model X.prog X.w) X.A (do rule "assign.swapped-stores";let items<-unpackItems (.ref s1.heap.objs.size) 2 none;assignInOrder [λv=>bindName X.env y v,λv=>bindName X.env x v] items.reverse;pure Flow.next) _ _ _
 refine Zv (wpAny_rule (Zv (unpackItems_tuple (items:= #[u1,u2]) (I.ok.hd hc) (IsTup.new s1.heap _) λh' hx'=>?_)));have I3:=I2.kept (h':=h') (t':=s1.toks) λb o e=>hx' b o (Zk (Ze e)) e;show wpAny _ _ (assignInOrder [λv=>bindName X.env y v,λv=>bindName X.env x v] [u2,u1] >>= λ_=>pure Flow.next) _ _ _;refine Zv (assignInOrder_cons (wpAny_bindName (lA I3 hN hj (.inl hy) rw' (λs2 I4=>?_) (.inr hy))));refine assignInOrder_cons (wpAny_bindName (lA I4 hN hi (.inl hx) rv (λs3 I5=>assignInOrder_nil (Zx ?_)) (.inr hx)));rw[List.set_comm _ _ (Ne.symm hij)]at I5;exact⟨_,H1,I5,q1⟩
def tAug(i:Nat)(te:TE)(ti:TIp):TS:=λD σ H=>∃x,σ[i]? =some (some x)/\te σ H λy H1=>ti x y H1 λz H2=>D.nx (σ.set i (some z)) H2
theorem WR{i:Nat}{x:Str}{e:Expr}{te:TE}{op:Operator}{ti:TIp}{pos':Pos}(hN:X.N.Nodup)(hi:X.N[i]? =some x)(hx:Loc X.env.scope x)(he:PE X e te)(ho:PIp X op ti)(hf:X.fn x=true∨X.env.scope.names.lookup x=some .local:=by first|exact .inl rfl|exact .inr rfl|assumption):
  PS X (.AugAssign (.Name x pos') op e pos) (tAug i te ti):=by
 intro pins s σ H D I h;obtain⟨v,e1,h⟩:=h;obtain⟨m,hn,hl⟩:=I.loc;have vis:Vis X.env.scope x:=by rcases hx with k|k;exact .inl k;exact .inr (.inl k)
 obtain⟨u,r,l⟩:=hl i x v hi e1 vis;refine wpAny_AugAssign_Name ?_;have go:wpAny (model X.prog X.w) X.A (eval e X.env) (λw s₂=>wpAny (model X.prog X.w) X.A (inplaceOp op u w) (λr s₃=>wpAny (model X.prog X.w) X.A (storeName X.env x r) (λ_=>SP X pins D .next) X.xe s₃) X.xe s₂) X.xe s:=by
  refine thn (he pins s σ H _ I h) λw s1 zq20=>?_;obtain⟨y,H1,I1,r1,q1⟩:=zq20;refine thn (ho pins s1 σ H1 v y u w _ I1 r r1 q1) λz s2 zq21=>?_;obtain⟨zv,H2,I2,r2,q2⟩:=zq21;exact lA I2 hN hi hx r2 (λs3 I3=>⟨_,H2,I3,q2⟩) hf
 rcases l with⟨hk,hm⟩|⟨hk,c,hc,hcell⟩
 .exact wpAny_loadName_local I.ok.kind hk hn hm go
 .rcases hk with hk|hk
  .exact wpAny_loadName_cell I.ok.kind hk hc hcell go
  .rcases hx with k|k
   .have:X.env.scope.names.lookup x=some .free:=hk;rw[k]at this;cases this
   .have:X.env.scope.names.lookup x=some .free:=hk;rw[k]at this;cases this
end
section
variable {X:Cx} {pos:Pos}
def WY(c:TT)(tb:TS):TS:=λD σ H=>∃W:Nat->St->Hp->Prop,(∃m,W m σ H)/\∀m σ H,W m σ H->
 c σ H λb H1=>if b=true then∃N:St->Hp->Prop,(∀σ' H',N σ' H'->∃m',m'<m/\W m' σ' H')/\tb { D with nx:=N,ct:=N,bk:=D.nx} σ H1 else D.nx σ H1
theorem Lj{c:Expr}{body:List Stmt}{tc:TT}{tb:TS}(hp:PassesOwn (model X.prog X.w) X.A X.env X.xe)(hc:PT X c tc)(hb:PSs X body tb):PS X (.While c body [] pos) (WY tc tb):=by
 intro pins s σ H D I h;obtain⟨W,⟨m0,w0⟩,turn⟩:=h;refine wpAny_While (codeAny_whileLoop (λn s'=>∃σ' H',Inv X pins σ' H' s'/\W n σ' H') ?_ m0 ⟨σ,H,I,w0⟩);rintro n s1 ⟨σ1,H1,I1,w1⟩;refine wpAny_passesOwn hp (thn (hc pins s1 σ1 H1 _ I1 (turn n σ1 H1 w1)) λb s2 zq27=>?_);obtain⟨H2,I2,q2⟩:=zq27;cases b with
 |true=>
  obtain⟨N,hN,q2⟩:=q2;rw[if_pos rfl];refine wpAny_passesOwn hp (thn (hb pins s2 σ1 H2 _ I2 q2) λf s3 q3=>?_);cases f with
  |next=>
   obtain⟨σ3,H3,I3,n3⟩:=q3;obtain⟨m',hm,w3⟩:=hN σ3 H3 n3;exact⟨m',hm,σ3,H3,I3,w3⟩
  |cont=>
   obtain⟨σ3,H3,I3,n3⟩:=q3;obtain⟨m',hm,w3⟩:=hN σ3 H3 n3;exact⟨m',hm,σ3,H3,I3,w3⟩
  |brk=>exact q3
  |ret v=>exact q3
 |false=>
  rw[if_neg Zr];exact wpAny_execs_nil ⟨σ1,H2,I2,q2⟩
end
structure It where
 go:Nat->Hp->Prop
 yld:Nat->Hp->V->Hp->Prop
 stop:Nat->Hp->Prop
def mL(X:Cx)(pins:List (Addr×Obj))(H:Hp)(b:Addr):Prop:=
 H b=none/\b≠X.env.locals/\b∉X.fs/\(b∈X.ex∨X.s₀.heap.objs.size<=b)/\(∀x c,X.env.cells.lookup x=some c->c≠b)/\∀p∈X.pn++pins,p.1≠b
theorem Inv.fpOk(I:Inv X pins σ H s)(hb:s.heap.objs.size<=b)(hn:H' b=none):mL X pins H' b:=by
 refine⟨hn,Nat.ne_of_gt (Zc I.lt hb),I.nofs hb,.inr (Zl I.sz hb),λx c e z=>?_,λp hp z=>?_⟩
 .obtain⟨v,q⟩:=I.cell x c e;exact absurd (Zc q.lt (by rw[z];exact hb)) (Nat.lt_irrefl _)
 .exact absurd (Zc (Ze (I.pin p hp).1) (by rw[z];exact hb)) (Nat.lt_irrefl _)
inductive TuI(X:Cx)(pins:List (Addr×Obj))(σ:St)(fp:List Addr)(tn:Nat->Heap->Prop)(J:It)(i:Nat)(u:Value)(H:Hp)(s2:Zsh):Prop
 |mk (x) (H'):Inv X pins σ H' s2->cI x u->J.yld i H x H'->tn (i+1) s2.heap->(∀b∈fp,H' b=none)->TuI X pins σ fp tn J i u H s2
structure sG(P:Zpr)(w:World)(K:Zw)(tg:Expr)(J:It)(fp:List Addr)(it:Addr)(tn:Nat->Heap->Prop):Prop where
 mem:it∈fp
 obj:∀i h,tn i h->∀b∈fp,∃o,h.get? b=some o/\∀v,o.data≠ .cell v
 keep:∀i h h',tn i h->(∀b∈fp,∀o,h.get? b=some o->h'.get? b=some o)->tn i h'
 item:∀(X:Cx),X.prog=P->X.w=w->X.K=K->X.calm=true->∀(i:Nat)(pins:List (Addr×Obj))(s:Zsh)(σ:St)(H:Hp)(E:Value->Zsh->Prop),Inv X pins σ H s->(∀b∈fp,mL X pins H b)->tn i s.heap->J.go i H->
  wpAny (model P w) X.A (pyNext (.ref it)) (λr s1=>∃u,r=some u/\
   wpAny (model P w) X.A (letOwnedTupleGo tg (.ref it) u) (λ_ s2=>TuI X pins σ fp tn J i u H s2) E s1) E s
 done:∀(X:Cx),X.prog=P->X.w=w->X.K=K->X.calm=true->∀(i:Nat)(pins:List (Addr×Obj))(s:Zsh)(σ:St)(H:Hp)(E:Value->Zsh->Prop),Inv X pins σ H s->(∀b∈fp,mL X pins H b)->tn i s.heap->J.stop i H->
  wpAny (model P w) X.A (pyNext (.ref it)) (λr s1=>r=none/\Inv X pins σ H s1) E s
 self:∀(A:Zar)(i:Nat)(s:Zsh)(Q:Value->Zsh->Prop)(E:Value->Zsh->Prop),tn i s.heap->Q (.ref it) s->wpAny (model P w) A (pyIter (.ref it)) Q E s
abbrev TI:=St->Hp->(It->Hp->Prop)->Prop
inductive PIE(X:Cx)(pins:List (Addr×Obj))(σ:St)(tg:Expr)(R:It->Hp->Prop)(itv:Value)(s2:Zsh):Prop
 |mk (it:Addr) (fp:List Addr) (tn:Nat->Heap->Prop) (J:It) (H':Hp):itv= .ref it->Inv X pins σ H' s2->sG X.prog X.w X.K tg J fp it tn->tn 0 s2.heap->(∀b∈fp,mL X pins H' b)->R J H'->PIE X pins σ tg R itv s2
def PI(X:Cx)(tg iter:Expr)(wi:TI):Prop:=
 ∀(pins:List (Addr×Obj))(s:Zsh)(σ:St)(H:Hp)(R:It->Hp->Prop),Inv X pins σ H s->wi σ H R->
  wpAny (model X.prog X.w) X.A (eval iter X.env) (λv s1=>wpAny (model X.prog X.w) X.A (pyIter v) (PIE X pins σ tg R) X.xe s1) X.xe s
theorem Ob{E:Value->Zsh->Prop}{Q:Unit->Zsh->Prop}(ho:s.heap.get? it=some o)(hc:o.cls= .type n)(hd:o.data= .fields vs)
  (hn:["enumerate","zip","dict_itemiterator","dict_reverseitemiterator","odict_iterator","itertools.zip_longest","itertools.pairwise"].contains n=false) (hQ:Q () s):wpAny M A (letOwnedTupleGo tg (.ref it) u) Q E s:=by
 unfold letOwnedTupleGo;cases tg<;>first
  |exact Zx hQ
  |(cases u<;>first
   |exact Zx hQ
   |(refine Zv (wpAny_load ho ?_)
     rw[hc,hd];show wpAny M A (if(["enumerate","zip","dict_itemiterator","dict_reverseitemiterator","odict_iterator","itertools.zip_longest","itertools.pairwise"].contains n&&vs[0]? ==some (rawInt _))=true then _ else _) Q E s;rw[if_neg (by intro h;rw[hn,Bool.false_and]at h;cases h)]
     exact Zx hQ))
def Itl(K:Zw)(a:Addr):It:=
 ⟨λi H=>∃xs x,SqL K H a xs/\xs[i]? =some x,λi H x H'=>H'=H/\∀xs,SqL K H a xs->xs[i]? =some x,λi H=>∃xs,SqL K H a xs/\xs.length<=i⟩
def Itt(K:Zw)(a:Addr):It:=
 ⟨λi H=>∃xs x,SqT K H a xs/\xs[i]? =some x,λi H x H'=>H'=H/\∀xs,SqT K H a xs->xs[i]? =some x,λi H=>∃xs,SqT K H a xs/\xs.length<=i⟩
def Itr(lo:Int)(n:Nat):It:=⟨λi _=>i<n,λi H x H'=>H'=H/\x= .int (lo+i),λi _=>n<=i⟩
theorem xN{P:Zpr}{w:World}{K:Zw}{tg:Expr}(a it:Addr):sG P w K tg (Itl K a) [it] it (λi h=>h.IsListIter it a i) where
 mem:=by simp
 obj:=λi h st b hb=>by
  have e:b=it:=by simpa using hb
  subst e;obtain⟨o,e,c,d⟩:=st;exact⟨o,e,λv z=>by rw[d]at z;cases z⟩
 keep:=λi h h' st k=>st.at λo e=>k it (by simp) o e
 item:=by
  intro X hP hw hK hc i pins s σ H E I hf st hg;subst hP hw hK;obtain⟨xs,x,hq,hx⟩:=hg;obtain⟨its,rv,p,hz⟩:=I.list hq;obtain⟨u,hu,ru⟩:=rv.get hx;obtain⟨f0,f1,f2,f3,f4,f5⟩:=hf it (by simp)
  refine wpAny_pyNext_list_item st p.isList (x:=u) (by simpa using hu) λh' st' sb=>?_
  have I1:Inv X pins σ H { s with heap:=h'}:=I.turned (t':=s.toks) (λb o hb e=>(sb.2 b hb).trans e) f0 f1 f3 f4 f5
  obtain⟨o,e,c,d⟩:=id st';exact⟨u,rfl,Ob (s:={ s with heap:=h'}) e c d (by decide) ⟨x,H,I1,ru,⟨rfl,λys hy=>by rw[I.list_inj hy hq];exact hx⟩,st',λb hb=>(hf b hb).1⟩⟩
 done:=by
  intro X hP hw hK hc i pins s σ H E I hf st hg;subst hP hw hK;obtain⟨xs,hq,hx⟩:=hg;obtain⟨its,rv,p,hz⟩:=I.list hq;obtain⟨f0,f1,f2,f3,f4,f5⟩:=hf it (by simp)
  have hl:=rv.length;exact wpAny_pyNext_list_end (I.ok.hd hc) st p.isList (by simp;lia) λh' eb=>⟨rfl,I.turned (t':=s.toks) (λb o hb e=>eb b o hb e) f0 f1 f3 f4 f5⟩
 self:=λ_ _ _ _ _ st h=>wpAny_pyIter_listiter st h
theorem vq{P:Zpr}{w:World}{K:Zw}{tg:Expr}(a it:Addr):sG P w K tg (Itt K a) [it] it (λi h=>h.IsTupleIter it a i) where
 mem:=by simp
 obj:=λi h st b hb=>by
  have e:b=it:=by simpa using hb
  subst e;obtain⟨o,e,c,d⟩:=st;exact⟨o,e,λv z=>by rw[d]at z;cases z⟩
 keep:=λi h h' st k=>st.at λo e=>k it (by simp) o e
 item:=by
  intro X hP hw hK hc i pins s σ H E I hf st hg;subst hP hw hK;obtain⟨xs,x,hq,hx⟩:=hg;obtain⟨its,rv,p,hz⟩:=I.tuple hq;obtain⟨u,hu,ru⟩:=rv.get hx;obtain⟨f0,f1,f2,f3,f4,f5⟩:=hf it (by simp)
  refine wpAny_pyNext_tuple_item st (show s.heap.IsTuple a its.toArray from p) (x:=u) (by simpa using hu) λh' st' sb=>?_
  have I1:Inv X pins σ H { s with heap:=h'}:=I.turned (t':=s.toks) (λb o hb e=>(sb.2 b hb).trans e) f0 f1 f3 f4 f5
  obtain⟨o,e,c,d⟩:=id st';exact⟨u,rfl,Ob (s:={ s with heap:=h'}) e c d (by decide) ⟨x,H,I1,ru,⟨rfl,λys hy=>by rw[I.tuple_inj hy hq];exact hx⟩,st',λb hb=>(hf b hb).1⟩⟩
 done:=by
  intro X hP hw hK hc i pins s σ H E I hf st hg;subst hP hw hK;obtain⟨xs,hq,hx⟩:=hg;obtain⟨its,rv,p,hz⟩:=I.tuple hq;obtain⟨f0,f1,f2,f3,f4,f5⟩:=hf it (by simp)
  have hl:=rv.length;exact wpAny_pyNext_tuple_end (I.ok.hd hc) st (show s.heap.IsTuple a its.toArray from p) (by simp;lia) λh' eb=>⟨rfl,I.turned (t':=s.toks) (λb o hb e=>eb b o hb e) f0 f1 f3 f4 f5⟩
 self:=λ_ _ _ _ _ st h=>wpAny_pyIter_tupleiter st h
theorem Ek{P:Zpr}{w:World}{K:Zw}{tg:Expr}(it:Addr)(lo:Int)(n:Nat):sG P w K tg (Itr lo n) [it] it (λi h=>IsRangeIter h it (lo+(i:Nat)*1) ((n:Int)-(i:Nat)) 1) where
 mem:=by simp
 obj:=λi h st b hb=>by
  have e:b=it:=by simpa using hb
  subst e;exact⟨_,st,λv z=>by
   have z':Data.fields _=Data.cell v:=z;cases z'⟩
 keep:=λi h h' st k=>k it (by simp) _ st
 item:=by
  intro X hP hw hK hc i pins s σ H E I hf st hg;subst hP hw hK;obtain⟨f0,f1,f2,f3,f4,f5⟩:=hf it (by simp)
  have W:=Walks.range (prog:=X.prog) (w:=X.w) (I.ok.hd hc) it lo 1 n;refine W.item i s _ _ hg st λv h' tk hv st' kk=>?_;obtain⟨t,rfl⟩:=hv;have I1:Inv X pins σ H { s with heap:=h',toks:=tk}:=I.turned (λb o hb e=>kk b o (by simpa using hb) e) f0 f1 f3 f4 f5
  refine⟨_,rfl,Ob (s:={ s with heap:=h',toks:=tk}) (n:="range_iterator") st' rfl rfl (by decide) ⟨.int (lo+i),H,I1,⟨t,?_⟩,⟨rfl,rfl⟩,st',λb hb=>(hf b hb).1⟩⟩
  rw[Int.mul_one]
 done:=by
  intro X hP hw hK hc i pins s σ H E I hf st hg;subst hP hw hK;obtain⟨f0,f1,f2,f3,f4,f5⟩:=hf it (by simp)
  exact wpAny_pyNext_range_end (I.ok.hd hc) st (by have:n<=i:=hg;lia) λh' eb=>⟨rfl,I.turned (t':=s.toks) (λb o hb e=>eb b o hb e) f0 f1 f3 f4 f5⟩
 self:=λ_ _ _ _ _ st h=>wpAny_pyIter_rangeiter st h
section
variable {X:Cx} {tg:Expr}
theorem Mr{pins:List (Addr×Obj)}{σ:St}{H:Hp}{s:Zsh}{R:It->Hp->Prop}{E:Value->Zsh->Prop}{lo hi:Int}{t u v:Tok}{tk:Nat}(I:Inv X pins σ H s)(h1: -(2 ^ 62)<=lo)(h2:lo<2 ^ 62)(h3: -(2 ^ 62)<=hi)(h4:hi<2 ^ 62)
  (q:R (Itr lo (hi-lo).toNat) H):wpAny (model X.prog X.w) X.A (pyIter (.ref s.heap.objs.size)) (PIE X pins σ tg R) E { s with heap:=s.heap.push { cls:=.type "range",data:=.fields #[.int lo t,.int hi u,.int 1 v] },toks:=tk}:=by
 refine wpAny_pyIter_range (IsRange.new ..) (small_one h1 h2 h3 h4) ?_;have I1:Inv X pins σ H { s with heap:=s.heap.push { cls:=.type "range",data:=.fields #[.int lo t,.int hi u,.int 1 v] },toks:=tk}:=I.kept λb o e=>Zb _ e
 refine⟨(s.heap.push { cls:=.type "range",data:=.fields #[.int lo t,.int hi u,.int 1 v] }).objs.size,[(s.heap.push { cls:=.type "range",data:=.fields #[.int lo t,.int hi u,.int 1 v] }).objs.size],_,_,H,rfl,
  I1.kept (t':=tk) λb o e=>Zb _ e,Ek _ lo (hi-lo).toNat,?_,λb hb=>?_,q⟩
 .have e1:lo+((0:Nat):Int)*1=lo:=by simp
  have e2:(((hi-lo).toNat:Nat):Int)-((0:Nat):Int)=Builtin.Range.rangeSize lo hi 1:=by rw[rangeSize_one];split<;>lia
  show IsRangeIter _ _ (lo+((0:Nat):Int)*1) ((((hi-lo).toNat:Nat):Int)-((0:Nat):Int)) 1;rw[e1,e2];exact Zf _ rfl
 .have e:b=(s.heap.push { cls:=.type "range",data:=.fields #[.int lo t,.int hi u,.int 1 v] }).objs.size:=by simpa using hb
  subst e;exact I1.fpOk (Zg _) (I1.hok.fresh (Zg _))
def Xr(ta:TA):TI:=λσ H R=>ta σ H λvs H1=>∃j:Int,vs=[.int j]/\ -(2 ^ 62)<=j/\j<2 ^ 62/\R (Itr 0 j.toNat) H1
theorem Ii{a:Expr}{ta:TA}{p pos:Pos}(hg:Gl X "range")(hm:X.mg "range"=none)(ha:PA X [a] ta)(hs:starEach [a] X.env=[(false,eval a X.env)]:=by rfl):PI X tg (.Call (.Name "range" p) [a] [] pos) (Xr ta):=by
 intro pins s σ H R I h;refine Call_ (oU I hg hm boot_range (PyProof.Rows.callWith_type1 (thn (ha pos pins s σ H _ I h) λus s1 ⟨vs,H1,I1,r1,q1⟩=>?_) hs rfl));obtain⟨j,e,q1,q2,q⟩:=q1;subst e;cases r1 with
 |cons r rr=>
  cases rr;obtain⟨t,rfl⟩:=r;exact call_range_1 (Mr I1 (by lia) (by lia) q1 q2 (by simpa using q))
def tFor(wi:TI)(g:TG)(tb:TS):TS:=λD σ H=>wi σ H λJ H1=>∃W:Nat->Nat->St->Hp->Prop,(∃m,W 0 m σ H1)/\∀i m σ H,W i m σ H->
 (J.stop i H/\D.nx σ H)∨(J.go i H/\∃N:St->Hp->Prop,(∀σ' H',N σ' H'->∃m',m'<m/\W (i+1) m' σ' H')/\∀x H',J.yld i H x H'->g x σ H' λσ2 H2=>tb { D with nx:=N,ct:=N,bk:=D.nx} σ2 H2)
def mD(fp:List Addr)(h:Heap):List (Addr×Obj):=fp.filterMap λb=>(h.get? b).map λo=>(b,o)
theorem dg(hb:b∈fp)(e:h.get? b=some o):(b,o)∈mD fp h:=List.mem_filterMap.mpr ⟨b,hb,by rw[e];rfl⟩
theorem xO(hp:p∈mD fp h):p.1∈fp/\h.get? p.1=some p.2:=by
 obtain⟨b,hb,e⟩:=List.mem_filterMap.mp hp;cases q:h.get? b with
 |none=>rw[q]at e;cases e
 |some o=>
  rw[q]at e;have e':(b,o)=p:=Option.some.inj e;subst e';exact⟨hb,q⟩
theorem Inv.pinned(I:Inv X pins σ H s)(hf:∀b∈fp,mL X pins H b)(ho:∀b∈fp,∃o,s.heap.get? b=some o/\∀v,o.data≠ .cell v):Inv X (pins++mD fp s.heap) σ H s:=
 I.pins_of λp hp=>(Zm.mp hp).elim (λz=>I.pin p (Zn _ z)) λz=>by
  obtain⟨hb,e⟩:=xO z;obtain⟨f0,f1,f2,_⟩:=hf p.1 hb;obtain⟨o,e',d⟩:=ho p.1 hb;rw[e]at e';cases e';exact⟨e,f0,f1,f2,d⟩
theorem Inv.unpinned(I:Inv X (pins++pl) σ H s):Inv X pins σ H s:=I.pins_of λp hp=>I.pin p (Zn _ (List.mem_append_left _ hp))
theorem Wt{iter:Expr}{body:List Stmt}{wi:TI}{g:TG}{tb:TS}{pos:Pos}(hp:PassesOwn (model X.prog X.w) X.A X.env X.xe)(hc:X.calm=true)(hi:PI X tg iter wi)(hg:PG X tg g)(hb:PSs X body tb)
  (hs:∀x,foldedSetIterable iter X.env x=pure x:=by intro _;rfl):PS X (.For tg iter body [] pos) (tFor wi g tb):=by
 intro pins s σ H D I h;refine wpAny_For (thn (hi pins s σ H _ I h) λv s1 h1=>thn h1 λitv s2 h2=>?_) hs;obtain⟨it,fp,tn,J,H2,e,I2,T,st2,f2,W,⟨m0,w0⟩,turn⟩:=h2;subst e;have stat:∀{H':Hp},(∀b∈fp,H' b=none)->∀b∈fp,mL X pins H' b:=λhn b hb=>⟨hn b hb,(f2 b hb).2⟩;refine codeAny_forLoop_any (λn s'=>∃i σ' H',Inv X pins σ' H' s'/\tn i s'.heap/\(∀b∈fp,H' b=none)/\W i n σ' H') ?_ m0 ⟨0,σ,H2,I2,st2,λb hb=>(f2 b hb).1,w0⟩;rintro n s3 ⟨i,σ3,H3,I3,st3,fr3,w3⟩
 rcases turn i n σ3 H3 w3 with⟨stop,qn⟩|⟨go,N,hN,step⟩
 .refine wpAny_passesOwn hp (thn (T.done X rfl rfl rfl hc i pins s3 σ3 H3 X.xe I3 (stat fr3) st3 stop) λr s4 zq30=>?_);obtain⟨hr,I4⟩:=zq30;subst hr;exact wpAny_execs_nil ⟨σ3,H3,I4,qn⟩
 .refine wpAny_passesOwn hp (thn (T.item X rfl rfl rfl hc i pins s3 σ3 H3 X.xe I3 (stat fr3) st3 go) λr s4 zq31=>?_);obtain⟨u,hr,h4⟩:=zq31;subst hr;refine wpAny_passesOwn hp (thn h4 λ_ s5 zq32=>?_);obtain⟨x,H5,I5,r5,y5,st5,fr5⟩:=zq32;have I5':=I5.pinned (stat fr5) (T.obj _ _ st5);refine wpAny_passesOwn hp (thn (hg _ s5 σ3 H5 x u _ I5' r5 (step x H5 y5)) λ_ s6 zq33=>?_);obtain⟨σ6,H6,I6,q6⟩:=zq33;refine wpAny_passesOwn hp (thn (hb _ s6 σ6 H6 _ I6 q6) λf s7 q7=>?_);have again:∀{σ7:St}{H7:Hp},Inv X (pins++mD fp s5.heap) σ7 H7 s7->N σ7 H7->∃m,m<n/\∃i σ' H',Inv X pins σ' H' s7/\tn i s7.heap/\(∀b∈fp,H' b=none)/\W i m σ' H':=λ{σ7 H7} I7 n7=>by
   obtain⟨m',hm,w7⟩:=hN σ7 H7 n7;refine⟨m',hm,i+1,σ7,H7,I7.unpinned,T.keep _ _ _ st5 λb hb o e=>(I7.pin (b,o) (Zn _ (Zn _ (dg hb e)))).1,λb hb=>?_,w7⟩;obtain⟨o,e,d⟩:=T.obj _ _ st5 b hb;exact(I7.pin (b,o) (Zn _ (Zn _ (dg hb e)))).2.1
  cases f with
  |next=>obtain⟨σ7,H7,I7,n7⟩:=q7;exact again I7 n7
  |cont=>obtain⟨σ7,H7,I7,n7⟩:=q7;exact again I7 n7
  |brk=>obtain⟨σ7,H7,I7,q7⟩:=q7;exact⟨σ7,H7,I7.unpinned,q7⟩
  |ret v=>obtain⟨x7,σ7,H7,I7,r7,q7⟩:=q7;exact⟨x7,σ7,H7,I7.unpinned,r7,q7⟩
end
abbrev R2:=V->V->Hp->VK->Prop
def OpR(X:Cx)(f:Value->Value->Sem Value)(r:R2):Prop:=
 ∀(pins:List (Addr×Obj))(s:Zsh)(σ:St)(H:Hp)(x y:V)(v u:Value)(Q:VK),Inv X pins σ H s->cI x v->cI y u->r x y H Q->
  wpAny (model X.prog X.w) X.A (f v u) (EP X pins σ Q) X.xe s
def UnR(X:Cx)(f:Value->Sem Value)(r:V->Hp->VK->Prop):Prop:=
 ∀(pins:List (Addr×Obj))(s:Zsh)(σ:St)(H:Hp)(x:V)(v:Value)(Q:VK),Inv X pins σ H s->cI x v->r x H Q->
  wpAny (model X.prog X.w) X.A (f v) (EP X pins σ Q) X.xe s
def lO(X:Cx)(f:Value)(r:List V->Hp->VK->Prop):Prop:=
 ∀(pins:List (Addr×Obj))(s:Zsh)(σ:St)(H:Hp)(xs:List V)(us:List Value)(Q:VK),Inv X pins σ H s->bM xs us->r xs H Q->
  wpAny (model X.prog X.w) X.A (call f us) (EP X pins σ Q) X.xe s
def TruR(X:Cx)(r:V->Hp->(Bool->Hp->Prop)->Prop):Prop:=
 ∀(pins:List (Addr×Obj))(s:Zsh)(σ:St)(H:Hp)(x:V)(v:Value)(Q:Bool->Hp->Prop),Inv X pins σ H s->cI x v->r x H Q->
  wpAny (model X.prog X.w) X.A (truthy v) (TP X pins σ Q) X.xe s
def tOp(r:R2)(ta tb:TE):TE:=λσ H Q=>ta σ H λx H1=>tb σ H1 λy H2=>r x y H2 Q
def tUn(r:V->Hp->VK->Prop)(ta:TE):TE:=λσ H Q=>ta σ H λx H1=>r x H1 Q
def rI(C:Int->Int->Prop)(g:Int->Int->V):R2:=λx y H Q=>∃i j,x= .int i/\y= .int j/\C i j/\Q (g i j) H
def rI0(g:Int->Int->V):R2:=λx y H Q=>∃i j,x= .int i/\y= .int j/\Q (g i j) H
def rU(g:Int->V):V->Hp->VK->Prop:=λx H Q=>∃i,x= .int i/\Q (g i) H
section
variable {X:Cx} {a b c:Expr} {ta tb tc:TE} {pos:Pos}
theorem Xb(ha:PE X a ta)(hb:PE X b tb){pins:List (Addr×Obj)}{s:Zsh}{σ:St}{H:Hp}{R:V->V->Hp->Prop}(I:Inv X pins σ H s)
  (h:ta σ H λx H1=>tb σ H1 λy H2=>R x y H2) {Q:Value->Zsh->Prop} {f:Value->Value->Sem Value}
  (hf:∀v u s2 x y H2,Inv X pins σ H2 s2->cI x v->cI y u->R x y H2->wpAny (model X.prog X.w) X.A (f v u) Q X.xe s2):
  wpAny (model X.prog X.w) X.A (eval a X.env) (λv s₁=>wpAny (model X.prog X.w) X.A (eval b X.env) (λu s₂=>wpAny (model X.prog X.w) X.A (f v u) Q X.xe s₂) X.xe s₁) X.xe s:=by
 refine thn (ha pins s σ H _ I h) λv s1 zq34=>?_;obtain⟨x,H1,I1,r1,q1⟩:=zq34;refine thn (hb pins s1 σ H1 _ I1 q1) λu s2 zq35=>?_;obtain⟨y,H2,I2,r2,q2⟩:=zq35;exact hf v u s2 x y H2 I2 r1 r2 q2
theorem Ju(ho:OpR X (binaryOp op) r)(ha:PE X a ta)(hb:PE X b tb):PE X (.BinOp a op b pos) (tOp r ta tb):=by
 intro pins s σ H Q I h;exact wpAny_BinOp (Xb ha hb I h λv u s2 x y H2 I2 rx ry q=>ho pins s2 σ H2 x y v u Q I2 rx ry q)
theorem YL{r:V->Hp->VK->Prop}(ho:UnR X (unaryOp op) r)(ha:PE X a ta):PE X (.UnaryOp op a pos) (tUn r ta):=by
 intro pins s σ H Q I h;exact UnaryOp_ (thn (ha pins s σ H _ I h) λv s1 ⟨x,H1,I1,r1,q1⟩=>ho pins s1 σ H1 x v Q I1 r1 q1)
theorem opI{f:Value->Value->Sem Value}{C:Int->Int->Prop}{g:Int->Int->Int}
  (rule:∀(i j:Int)(t u:Tok)(s:Zsh)(Q:Value->Zsh->Prop)(E:Value->Zsh->Prop),C i j->Q (.int (g i j) s.toks) { s with toks:=s.toks+1}->wpAny (model X.prog X.w) X.A (f (.int i t) (.int j u)) Q E s):
  OpR X f (rI C λi j=>.int (g i j)):=by
 intro pins s σ H x y v u Q I rx ry h;obtain⟨i,j,rfl,rfl,hc,q⟩:=h;obtain⟨t,rfl⟩:=rx;obtain⟨t',rfl⟩:=ry;exact rule i j t t' s _ _ hc ⟨.int (g i j),H,I.tok _,⟨_,rfl⟩,q⟩
theorem XF{f:Value->Value->Sem Value}{g:Int->Int->Int}
  (rule:∀(i j:Int)(t u:Tok)(s:Zsh)(Q:Value->Zsh->Prop)(E:Value->Zsh->Prop),Q (.int (g i j) s.toks) { s with toks:=s.toks+1}->wpAny (model X.prog X.w) X.A (f (.int i t) (.int j u)) Q E s):
  OpR X f (rI0 λi j=>.int (g i j)):=by
 intro pins s σ H x y v u Q I rx ry h;obtain⟨i,j,rfl,rfl,q⟩:=h;obtain⟨t,rfl⟩:=rx;obtain⟨t',rfl⟩:=ry;exact rule i j t t' s _ _ ⟨.int (g i j),H,I.tok _,⟨_,rfl⟩,q⟩
theorem Qh{f:Value->Value->Sem Value}{g:Int->Int->Bool}
  (rule:∀(i j:Int)(t u:Tok)(s:Zsh)(Q:Value->Zsh->Prop)(E:Value->Zsh->Prop),Q (.bool (g i j)) s->wpAny (model X.prog X.w) X.A (f (.int i t) (.int j u)) Q E s):
  OpR X f (rI0 λi j=>.bl (g i j)):=by
 intro pins s σ H x y v u Q I rx ry h;obtain⟨i,j,rfl,rfl,q⟩:=h;obtain⟨t,rfl⟩:=rx;obtain⟨t',rfl⟩:=ry;exact rule i j t t' s _ _ ⟨.bl (g i j),H,I,rfl,q⟩
theorem Wk:OpR X (binaryOp .Add) (rI0 λi j=>.int (i+j)):=XF λ_ _ _ _ _ _ _ q=>add_int q
theorem Uj:OpR X (binaryOp .Sub) (rI0 λi j=>.int (i-j)):=XF λ_ _ _ _ _ _ _ q=>sub_int q
theorem Qx:OpR X (binaryOp .Mod) (rI (λ_ j=>j≠0) λi j=>.int (i.fmod j)):=opI λ_ _ _ _ _ _ _ hc q=>mod_int' hc q
theorem unI{f:Value->Sem Value}{g:Int->Int}
  (rule:∀(i:Int)(t:Tok)(s:Zsh)(Q:Value->Zsh->Prop)(E:Value->Zsh->Prop),Q (.int (g i) s.toks) { s with toks:=s.toks+1}->wpAny (model X.prog X.w) X.A (f (.int i t)) Q E s):
  UnR X f (rU λi=>.int (g i)):=by
 intro pins s σ H x v Q I rx h;obtain⟨i,rfl,q⟩:=h;obtain⟨t,rfl⟩:=rx;exact rule i t s _ _ ⟨.int (g i),H,I.tok _,⟨_,rfl⟩,q⟩
theorem Vc:UnR X (unaryOp .USub) (rU λi=>.int (-i)):=unI λ_ _ _ _ _ q=>neg_int q
end
section
variable {X:Cx} {a b c:Expr} {ta tb tc:TE} {pos:Pos}
theorem YH:OpR X (compareOp .Lt) (rI0 λi j=>.bl (decide (i<j))):=Qh λ_ _ _ _ _ _ _ q=>lt_int q
theorem YG:OpR X (compareOp .LtE) (rI0 λi j=>.bl (decide (i<=j))):=Qh λ_ _ _ _ _ _ _ q=>le_int q
theorem ZX:OpR X (compareOp .Gt) (rI0 λi j=>.bl (decide (j<i))):=Qh λ_ _ _ _ _ _ _ q=>gt_int q
theorem aab:OpR X (compareOp .GtE) (rI0 λi j=>.bl (decide (j<=i))):=Qh λ_ _ _ _ _ _ _ q=>ge_int q
theorem OpR.or(h:OpR X f r)(h':OpR X f r'):OpR X f (λx y H Q=>r x y H Q∨r' x y H Q):=by
 intro pins s σ H x y v u Q I rx ry q
 rcases q with q|q
 .exact h pins s σ H x y v u Q I rx ry q
 .exact h' pins s σ H x y v u Q I rx ry q
theorem PJ(ho:OpR X (compareOp op) r)(ha:PE X a ta)(hb:PE X b tb)(hm:behindInMarks op b=false):PE X (.Compare a [op] [b] pos) (tOp r ta tb):=by
 intro pins s σ H Q I h;exact wpAny_Compare1 (Xb ha hb I h λv u s2 x y H2 I2 rx ry q=>ho pins s2 σ H2 x y v u Q I2 rx ry q) hm
def TV(t:TE):TT:=λσ H Q=>t σ H λx H'=>∃k,x= .bl k/\Q k H'
theorem Pr(ho:OpR X (compareOp op) r)(ha:PE X a ta)(hb:PE X b tb)(hm:behindInMarks op b=false):PT X (.Compare a [op] [b] pos) (TV (tOp r ta tb)):=by
 intro pins s σ H Q I h;refine wpAny_isTrue_Compare1 (thn (ha pins s σ H _ I h) λv s1 ⟨x,H1,I1,r1,q1⟩=>thn (hb pins s1 σ H1 _ I1 q1) λu s2 ⟨y,H2,I2,r2,q2⟩=>
  thn (ho pins s2 σ H2 x y v u _ I2 r1 r2 q2) λc s3 ⟨z,H3,I3,r3,k,e,q3⟩=>?_) hm
 subst e;cases r3;exact wpAny_truthy_bool ⟨H3,I3,q3⟩
def Dj(r r':R2)(ta tb tc:TE):TE:=λσ H Q=>ta σ H λx H1=>tb σ H1 λy H2=>r x y H2 λz H3=>∃k,z= .bl k/\
 (if k=true then tc σ H3 λw' H4=>r' y w' H4 Q else Q (.bl false) H3)
theorem Lf(ho:OpR X (compareOp op) r)(ho':OpR X (compareOp op') r')(ha:PE X a ta)(hb:PE X b tb)(hc:PE X c tc)
  (hm:lastMarks [op,op'] [b,c]=false:=by with_unfolding_all rfl):PE X (.Compare a [op,op'] [b,c] pos) (Dj r r' ta tb tc):=by
 intro pins s σ H Q I h;refine Compare_chain (thn (ha pins s σ H _ I h) λv s1 ⟨x,H1,I1,r1,q1⟩=>chain_link (thn (hb pins s1 σ H1 _ I1 q1) λu s2 ⟨y,H2,I2,r2,q2⟩=>
  thn (ho pins s2 σ H2 x y v u _ I2 r1 r2 q2) λd s3 ⟨z,H3,I3,r3,k,e,q3⟩=>?_)) hm
 subst e;cases r3;refine wpAny_truthy_bool ?_;cases k with
 |false=>exact ite_ff ⟨.bl false,H3,I3,rfl,q3⟩
 |true=>exact ite_tt (chain_last (thn (hc pins s3 σ H3 _ I3 q3) λw' s4 ⟨z',H4,I4,r4,q4⟩=>ho' pins s4 σ H4 y z' u w' Q I4 r2 r4 q4))
theorem Mg(ho:OpR X (compareOp op) r)(ho':OpR X (compareOp op') r')(ha:PE X a ta)(hb:PE X b tb)(hc:PE X c tc)
  (hm:lastMarks [op,op'] [b,c]=false:=by with_unfolding_all rfl):PT X (.Compare a [op,op'] [b,c] pos) (TV (Dj r r' ta tb tc)):=by
 intro pins s σ H Q I h;refine isTrue_chain (thn (ha pins s σ H _ I h) λv s1 ⟨x,H1,I1,r1,q1⟩=>test_link (thn (hb pins s1 σ H1 _ I1 q1) λu s2 ⟨y,H2,I2,r2,q2⟩=>
  thn (ho pins s2 σ H2 x y v u _ I2 r1 r2 q2) λd s3 ⟨z,H3,I3,r3,k,e,q3⟩=>?_)) hm
 subst e;cases r3;refine wpAny_truthy_bool ?_;cases k with
 |false=>
  obtain⟨k',e',q'⟩:=q3;cases e';exact ite_ff ⟨H3,I3,q'⟩
 |true=>
  refine ite_tt (test_last (thn (hc pins s3 σ H3 _ I3 q3) λw' s4 ⟨z',H4,I4,r4,q4⟩=>thn (ho' pins s4 σ H4 y z' u w' _ I4 r2 r4 q4) λd' s5 zq39=>?_));obtain⟨z2,H5,I5,r5,k2,e2,q5⟩:=zq39;subst e2;cases r5;exact wpAny_truthy_bool ⟨H5,I5,q5⟩
def Vf(K:Zw)(x:V)(H:Hp)(k:Bool):Prop:=
 match x with
 | .non=>k=false
 | .bl b=>k=b
 | .int i=>k=(i != 0)
 | .str y=>y.length<=sizeLine/\k=((y.length:Int) != 0)
 | .byt y=>y.size<=sizeLine/\k=((y.size:Int) != 0)
 | .ref p=>(∃xs,SqL K H p xs/\k= !xs.isEmpty)∨(∃xs,SqT K H p xs/\k= !xs.isEmpty)∨∃kvs,H p=some (.dK kvs)/\k= !kvs.isEmpty
 |_=>False
theorem Dh{κ:Type}{kvs:List (κ×V)}{vs:List (κ×Value)}(r:KV kvs vs):(!vs.isEmpty)= !kvs.isEmpty:=by
 cases r<;>rfl
theorem wy{xs:List V}{its:List Value}(r:bM xs its):(!its.toArray.isEmpty)= !xs.isEmpty:=by
 cases r<;>simp
theorem rH:(sizeLine:Nat)<2 ^ 63:=by rw[sizeLine_eq];decide
theorem Ut:TruR X (λx H Q=>∃k,Vf X.K x H k/\Q k H):=by
 intro pins s σ H x v Q I rx h;obtain⟨k,e,q⟩:=h;have hl:=rH;have hs:sizeLine=16777216:=sizeLine_eq;cases x with
 |non=>
  cases (rx);have e':k=false:=e;subst e';exact truthy_none ⟨H,I,q⟩
 |bl b=>
  cases (rx);have e':k=b:=e;subst e';exact wpAny_truthy_bool ⟨H,I,q⟩
 |int i=>
  obtain⟨t,rfl⟩:=rx;have e':k=(i != 0):=e;subst e';exact PySem.P.truthy_int ⟨H,I,q⟩
 |str y=>
  obtain⟨t,rfl⟩:=rx;obtain⟨hy,e'⟩:y.length<=sizeLine/\k=((y.length:Int) != 0):=e;subst e';exact PySem.P.truthy_str (by omega +splitMinMax) ⟨H,I.tok _,q⟩
 |byt y=>
  obtain⟨t,rfl⟩:=rx;obtain⟨hy,e'⟩:y.size<=sizeLine/\k=((y.size:Int) != 0):=e;subst e';exact PySem.W.truthy_bytes (by omega +splitMinMax) ⟨H,I.tok _,q⟩
 |ref p=>
  cases (rx);have e':(∃xs,SqL X.K H p xs/\k= !xs.isEmpty)∨(∃xs,SqT X.K H p xs/\k= !xs.isEmpty)∨∃kvs,H p=some (.dK kvs)/\k= !kvs.isEmpty:=e
  rcases e' with⟨xs,hx,e'⟩|⟨xs,hx,e'⟩|⟨kvs,hx,e'⟩
  .subst e';obtain⟨its,r,pl,hz⟩:=I.list hx;have hlen:=r.length;exact wpAny_truthy_list pl.isList (by simp only[Zd];omega +splitMinMax) ⟨H,I.tok _,by rw[wy r];exact q⟩
  .subst e';obtain⟨its,r,pl,hz⟩:=I.tuple hx;have hlen:=r.length;exact truthy_tuple pl (by simp only[Zd];omega +splitMinMax) ⟨H,I.tok _,by rw[wy r];exact q⟩
  .subst e';obtain⟨hz,hS,vs,r,m⟩:kvs.length<=sizeLine/\(p==sysModules)=false/\∃vs,KV kvs vs/\s.heap.DictOf (lr X.prog X.w) p vs:=I.hok p _ hx;have hlen:kvs.length=vs.length:=Paired.length r;exact wpAny_truthy_dict hS m (by omega +splitMinMax) ⟨H,I.tok _,by rw[Dh r];exact q⟩
 |_=>exact(show False from e).elim
theorem Km(ha:PE X a ta)(he:∀whole,isTrue a X.env whole=(do let v<-whole;standAt a.pos;holding [v] (truthy v))):
  PT X a (λσ H Q=>ta σ H λx H'=>∃k,Vf X.K x H' k/\Q k H'):=by
 intro pins s σ H Q I h;exact isTrue_plain (thn (ha pins s σ H _ I h) λv s1 ⟨x,H1,I1,r1,q1⟩=>Ut pins s1 σ H1 x v Q I1 r1 q1) (he _)
theorem Dw:OpR X (binaryOp .Add) (λx y H Q=>∃i j,x= .str i/\y= .str j/\i.length+j.length<=sizeLine/\Q (.str (i++j)) H):=by
 intro pins s σ H x y v u Q I rx ry h;obtain⟨i,j,rfl,rfl,hz,q⟩:=h;obtain⟨t,rfl⟩:=rx;obtain⟨t',rfl⟩:=ry;exact add_str (λt' tk=>⟨.str (i++j),H,I.tok _,⟨_,rfl⟩,q⟩) hz
theorem vals1(r:bM [x] us):∃u,us=[u]/\cI x u:=by
 cases r with
 |cons r1 r2=>cases r2;exact⟨_,rfl,r1⟩
theorem vals2(r:bM [x,y] us):∃u w',us=[u,w']/\cI x u/\cI y w':=by
 cases r with
 |cons r1 r2=>
  cases r2 with
  |cons r3 r4=>cases r4;exact⟨_,_,rfl,r1,r3⟩
theorem Nh:lO X (.builtin "abs") (λxs H Q=>∃i,xs=[.int i]/\Q (.int (if i<0 then -i else i)) H):=by
 intro pins s σ H xs us Q I r h;obtain⟨i,rfl,q⟩:=h;obtain⟨u,rfl,t,rfl⟩:=vals1 r;exact call_abs_int λu tk=>⟨.int (if i<0 then -i else i),H,I.tok _,⟨_,rfl⟩,q⟩
theorem Ho(hc:X.calm=true):lO X (.builtin "max") (λxs H Q=>∃i j,xs=[.int i,.int j]/\Q (.int (if j>i then j else i)) H):=by
 intro pins s σ H xs us Q I r h;obtain⟨i,j,rfl,q⟩:=h;obtain⟨u,w',rfl,⟨t,rfl⟩,⟨t',rfl⟩⟩:=vals2 r;refine max_two_ints (I.ok.hd hc) λh' tk k=>⟨_,H,I.kept k,?_,q⟩;by_cases hj:j>i
 .rw[if_pos hj,if_pos hj];exact⟨_,rfl⟩
 .rw[if_neg hj,if_neg hj];exact⟨_,rfl⟩
theorem Hw(hc:X.calm=true):lO X (.builtin "min") (λxs H Q=>∃i j,xs=[.int i,.int j]/\Q (.int (if j<i then j else i)) H):=by
 intro pins s σ H xs us Q I r h;obtain⟨i,j,rfl,q⟩:=h;obtain⟨u,w',rfl,⟨t,rfl⟩,⟨t',rfl⟩⟩:=vals2 r;refine min_two_ints (I.ok.hd hc) λh' tk k=>⟨_,H,I.kept k,?_,q⟩;by_cases hj:j<i
 .rw[if_pos hj,if_pos hj];exact⟨_,rfl⟩
 .rw[if_neg hj,if_neg hj];exact⟨_,rfl⟩
end
def Hj(f:Str)(v:V):List (Str×V)->List (Str×V)
 | []=>[(f,v)]
 |(g,x)::r=>if g=f then(g,v)::r else(g,x)::Hj f v r
structure dH(k:Nat)(A:Zar):Prop where
 hd:A.handled=none
 dp:A.depth+3*k+5<recursionLimit
 un:A.units+16*k+200<cLine
theorem dH.mono(r:dH k A)(h:j<=k):dH j A:=⟨r.hd,by have:=r.dp;lia,by have:=r.un;lia⟩
theorem dH.deeper(r:dH (k+1) A)(env:Env):dH k (A.deeper env):=
 ⟨r.hd,by have:=r.dp;show A.depth+1+3*k+5<_;lia,by have:=r.un;show A.units+3+16*k+200<_;lia⟩
theorem dH.depth(r:dH k A):A.depth<recursionLimit:=by have:=r.dp;lia
def tNil:TA:=λ_ H Q=>Q [] H
def YJ(ta:TE)(tr:TA):TA:=λσ H Q=>ta σ H λx H1=>tr σ H1 λxs H2=>Q (x::xs) H2
section
variable {X:Cx} {e:Expr} {es:List Expr} {te:TE} {t:TA} {pos:Pos}
theorem yp:PA X [] tNil:=λ_ _ _ _ H Q I h=>Calls.spliced_nil ⟨[],H,I,.nil,h⟩
theorem sH(ha:PE X e te)(hr:PA X es t)(hs:starEach (e::es) X.env=(false,eval e X.env)::starEach es X.env:=by rfl):PA X (e::es) (YJ te t):=by
 intro pos pins s σ H Q I h;rw[hs];show wpAny _ _ (spliced ((false,eval e X.env)::backTo pos (starEach es X.env))) _ _ s;refine Calls.spliced_cons (thn (ha pins s σ H _ I h) λu s1 zq46=>?_);obtain⟨x,H1,I1,r1,q1⟩:=zq46;exact thn (hr pos pins s1 σ H1 _ I1 q1) λus s2 ⟨xs,H2,I2,r2,q2⟩=>⟨x::xs,H2,I2,.cons r1 r2,q2⟩
def tTup(t:TA):TE:=λσ H Q=>t σ H λxs H1=>xs.length<=sizeLine/\∀p,H1 p=none->Q (.ref p) (upd H1 p (.tup xs))
def tLst(t:TA):TE:=λσ H Q=>t σ H λxs H1=>xs.length<=sizeLine/\∀p,H1 p=none->Q (.ref p) (upd H1 p (.lst xs))
theorem Uc{x1}(h:PA X es t):PE X (.Tuple es x1 pos) (tTup t):=by
 intro pins s σ H Q I hq;refine wpAny_Tuple_spliced (thn (h pos pins s σ H _ I hq) λus s1 ⟨xs,H1,I1,r,z,q⟩=>⟨by rw[<-r.length];exact z,?_⟩)
 have hf:H1 s1.heap.objs.size=none:=I1.hok.fresh (Zg _);refine⟨.ref s1.heap.objs.size,upd H1 s1.heap.objs.size (.tup xs),I1.laid (t':=s1.toks) (λb u e=>Zb _ e) (Zg _) ?_,rfl,q _ hf⟩;exact⟨z,us,r,⟨_,Zf _ rfl,rfl,_,rfl⟩⟩
theorem MN(h:PA X es t):PE X (.List es pos) (tLst t):=by
 intro pins s σ H Q I hq;refine wpAny_List_spliced (thn (h pos pins s σ H _ I hq) λus s1 ⟨xs,H1,I1,r,z,q⟩=>⟨by rw[<-r.length];exact z,?_⟩)
 have hf:H1 s1.heap.objs.size=none:=I1.hok.fresh (Zg _);refine⟨.ref s1.heap.objs.size,upd H1 s1.heap.objs.size (.lst xs),I1.laid (t':=s1.toks) (λb u e=>Zb _ e) (Zg _) ?_,rfl,q _ hf⟩;exact⟨z,us,0,r,Zf _ rfl⟩
end
abbrev Sp:=List V->Hp->VK->XK->Prop
abbrev CXT:=List Env->Hp->Zsh->XK->Value->Zsh->Prop
structure Qe(P:Zpr)(w:World)(K:Zw)(mg:Str->Option Value)(base:Heap)(A:Zar)(outer:List Env)(s:Zsh)(H:Hp):Prop where
 frames:A.frames=some outer
 mod:Mod K mg base
 bs:∀b o,base.get? b=some o->s.heap.get? b=some o/\H b=none
 bsz:base.objs.size<=s.heap.objs.size
 funs:s.heap.FunFrames base outer
 frf:∀b∈frs outer,H b=none
 hok:HOk P w H s.heap
 bare:AllBare s.gens
def CE(outer:List Env)(P:Zpr)(w:World)(H:Hp)(s:Zsh)(Q:VK)(u:Value)(s':Zsh):Prop:=
 ∃v H',s'.os=s.os/\GK s.gens s'.gens/\Un (frs outer) [] H H' s.heap s'.heap/\HOk P w H' s'.heap/\cI v u/\Q v H'
def CR(CX:CXT)(outer:List Env)(P:Zpr)(w:World)(H:Hp)(s:Zsh)(Q:VK)(E:XK)(r:Result)(s':Zsh):Prop:=
 match r with
 | .ok (.ret u)=>CE outer P w H s Q u s'
 | .ok _=>False
 | .error e=>CX outer H s E e s'
structure tB(P:Zpr)(w:World)(K:Zw)(mg:Str->Option Value)(base:Heap)(CX:CXT)(k:Nat)(f:Addr)(fd:FuncData)(ps:List Str)(sp:Sp):Prop where
 len:∀vs H Q E,sp vs H Q E->vs.length=ps.length
 run:∀(A:Zar)(outer:List Env)(s:Zsh)(H:Hp)(args:Args)(us:List Value)(vs:List V)(Q:VK)(E:XK),dH k A->Qe P w K mg base A outer s H->BindsTo s fd args (ps.zip us)->bM vs us->sp vs H Q E->
  codeAny (model P w) A (.call (.ref f) args) (CR CX outer P w H s Q E) s
theorem tB.imp{P:Zpr}{w:World}{K:Zw}{mg:Str->Option Value}{base:Heap}{CX:CXT}{k:Nat}{f:Addr}{fd:FuncData}{ps:List Str}{sp sp':Sp}(F:tB P w K mg base CX k f fd ps sp)
  (h:∀vs H Q E,sp' vs H Q E->sp vs H Q E):tB P w K mg base CX k f fd ps sp':=
 ⟨λvs H Q E q=>F.len vs H Q E (h _ _ _ _ q),λA outer s H args us vs Q E hr he hb hv hs=>F.run A outer s H args us vs Q E hr he hb hv (h _ _ _ _ hs)⟩
section
variable {X:Cx} {pins:List (Addr×Obj)} {σ:St} {H:Hp} {s s':Zsh}
theorem Inv.env0(I:Inv X pins σ H s):Qe X.prog X.w X.K X.mg X.base X.A X.stack s H:=
 ⟨I.ok.frames,I.ok.mod,I.bs,Zl I.ok.bsz I.sz,I.stack,I.stkFree,I.hok,I.bare.bare⟩
theorem Inv.after(I:Inv X pins σ H s)(h:CE X.stack X.prog X.w H s Q u s'):EP X pins σ Q u s':=by
 obtain⟨v,H',os,bare,un,hok,r,q⟩:=h;obtain⟨hh,g,d,t,os'⟩:=s';obtain rfl:os'=s.os:=os;exact⟨v,H',I.call (h':=hh) (g':=g) (d':=d) (t':=t) (ch:=[]) un hok bare (λb z=>absurd z (by simp)),r,q⟩
end
def Xm(sp:Sp)(dvs:List V)(E:XK)(t:TA):TE:=λσ H Q=>t σ H λvs H1=>sp (vs++dvs) H1 Q E
def Binds(K:Zw)(fd:FuncData)(ps:List Str)(ds:List Value):Prop:=
 ∀(s:Zsh)(us:List Value),K.In s.heap->(us++ds).length=ps.length->BindsTo s fd ⟨us,[]⟩ (ps.zip (us++ds))
theorem Binds.all{K:Zw}{fd:FuncData}{ps:List Str}(h:∀us:List Value,us.length=ps.length->bindArgs fd ⟨us,[]⟩=pure (ps.zip us)):Binds K fd ps []:=λs us _ hl=>by
 rw[List.append_nil]at hl ⊢;exact .of_eq (h us hl)
def CW(CX:CXT)(X:Cx)(E:XK):Prop:=∀(pins:List (Addr×Obj))(σ:St)(H:Hp)(s:Zsh)(e:Value)(s':Zsh),Inv X pins σ H s->CX X.stack H s E e s'->X.xe e s'
section
variable {X:Cx} {CX:CXT} {k:Nat} {f C:Addr} {fd:FuncData} {ps:List Str} {sp:Sp} {dvs:List V} {ds:List Value} {E:XK} {x m:Str} {p pos apos:Pos} {e o:Expr} {es:List Expr} {ta:TE} {t:TA}
theorem Vn(F:tB X.prog X.w X.K X.mg X.base CX k f fd ps sp)(hr:dH k X.A)(hb:Binds X.K fd ps ds)(hd:bM dvs ds)(hx:CW CX X E)
  (I:Inv X pins σ H s) (r:bM vs us) (h:sp (vs++dvs) H Q E):wpAny (model X.prog X.w) X.A (call (.ref f) us) (EP X pins σ Q) X.xe s:=by
 have r2:bM (vs++dvs) (us++ds):=r.append hd;have hl:(us++ds).length=ps.length:=by rw[<-r2.length];exact F.len _ _ _ _ h
 refine wpAny_call (codeAny_mono (F.run X.A X.stack s H ⟨us,[]⟩ (us++ds) (vs++dvs) Q E hr I.env0 (hb s us I.kIn hl) r2 h) λr s' hq=>?_);cases r with
 |error e=>exact hx pins σ H s e s' I hq
 |ok fl=>
  cases fl with
  |ret u=>exact I.after hq
  |next=>exact False.elim hq
  |brk=>exact False.elim hq
  |cont=>exact False.elim hq
theorem Pa(F:tB X.prog X.w X.K X.mg X.base CX k f fd ps sp)(hr:dH k X.A)(hg:Gl X x)(hm:X.mg x=some (.ref f))(hk:PySem.W.keepIn X.K (.ref f)=true)(hb:Binds X.K fd ps ds)(hd:bM dvs ds)(hx:CW CX X E)
  (ha:PA X (e::es) t) (hdb:(x==("__debug__":Str))=false:=by decide) (he:starEach (e::es) X.env=(false,eval e X.env)::starEach es X.env:=by rfl) (hpl:(backTo pos (starEach es X.env)).any (·.1)=false:=by rfl):
  PE X (.Call (.Name x p) (e::es) [] pos) (Xm sp dvs E t):=by
 intro pins s σ H Q I h;refine wpAny_Call_Name_kw (Fw I hg hm ?_ hdb);refine PySem.W.callWith_K (h₀:=X.base) I.ok.mod.kin hk (thn (ha pos pins s σ H _ I h) λus s1 ⟨vs,H1,I1,r,q⟩=>⟨I1.kIn,?_⟩) he hpl;exact Vn F hr hb hd hx I1 r q
end
structure qH(N P:List Str)(sc:Scope):Prop where
 kind:sc.kind= .function
 co:sc.isCoroutine=false
 gen:sc.isGenerator=false
 nd:N.Nodup
 pre:N.take P.length=P
 par:∀x∈P,sc.names.lookup x=some .local∨sc.names.lookup x=some .cell
 nofree:∀y∈sc.names,y.2≠ .free
theorem xg{kindOf:Str->Option NameKind}{x:Str}:∀{binds:List (Str×Value)}{m:Str->Option Value},(∀v,(x,v)∉binds)->bindL kindOf binds m x=m x
 | [],_,_=>rfl
 |(n,v)::r,m,h=>by
  unfold bindL;rw[xg λw hw=>h w (ZE _ hw)];split
  .have:x≠n:=by rintro rfl;exact h v List.mem_cons_self
   simp[this]
  .rfl
theorem wY{kindOf:Str->Option NameKind}{x:Str}:∀{binds:List (Str×Value)}{m:Str->Option Value},(∀v,(x,v)∉binds)->bindC kindOf binds m x=m x
 | [],_,_=>rfl
 |(n,v)::r,m,h=>by
  unfold bindC;rw[wY λw hw=>h w (ZE _ hw)];split
  .rfl
  .have:x≠n:=by rintro rfl;exact h v List.mem_cons_self
   simp[this]
theorem xG{kindOf:Str->Option NameKind}{x:Str}{v:Value}:∀{P:List Str}{vs:List Value}{i:Nat}{m:Str->Option Value},P.Nodup->P[i]? =some x->vs[i]? =some v->kindOf x=some .local->
  bindL kindOf (P.zip vs) m x=some v
 | [],_,_,_,_,h,_,_=>by simp at h
 |_::_,[],_,_,_,_,h,_=>by simp at h
 |p::P,w::vs,0,m,nd,h1,h2,hk=>by
  simp at h1 h2;subst h1;subst h2;show bindL kindOf ((p,w)::P.zip vs) m p=_;unfold bindL;rw[xg λv hv=>(List.nodup_cons.mp nd).1 (List.of_mem_zip hv).1,if_pos hk];simp
 |p::P,w::vs,i+1,m,nd,h1,h2,hk=>by
  show bindL kindOf ((p,w)::P.zip vs) m x=_;unfold bindL;exact xG (i:=i) (List.nodup_cons.mp nd).2 (by simpa using h1) (by simpa using h2) hk
theorem xP{kindOf:Str->Option NameKind}{x:Str}{v:Value}:∀{P:List Str}{vs:List Value}{i:Nat}{m:Str->Option Value},P.Nodup->P[i]? =some x->vs[i]? =some v->kindOf x≠some .local->
  bindC kindOf (P.zip vs) m x=some v
 | [],_,_,_,_,h,_,_=>by simp at h
 |_::_,[],_,_,_,_,h,_=>by simp at h
 |p::P,w::vs,0,m,nd,h1,h2,hk=>by
  simp at h1 h2;subst h1;subst h2;show bindC kindOf ((p,w)::P.zip vs) m p=_;unfold bindC;rw[wY λv hv=>(List.nodup_cons.mp nd).1 (List.of_mem_zip hv).1,if_neg hk];simp
 |p::P,w::vs,i+1,m,nd,h1,h2,hk=>by
  show bindC kindOf ((p,w)::P.zip vs) m x=_;unfold bindC;exact xP (i:=i) (List.nodup_cons.mp nd).2 (by simpa using h1) (by simpa using h2) hk
def start(N:List Str)(vs:List V):St:=vs.map some++List.replicate (N.length-vs.length) none
def Ax(CX:CXT)(P:Zpr)(w:World)(K:Zw)(mg:Str->Option Value)(base:Heap)(N:List Str)(qual:Str)(scope:Scope)(f:Addr)(cd:Value)(A:Zar)(outer:List Env)(s:Zsh)(H:Hp)(E:XK):Cx where
 prog:=P
 w:=w
 K:=K
 mg:=mg
 base:=base
 A:=A.deeper (envOfC qual scope s.heap.objs.size f cd)
 N:=N
 s₀:=s
 H₀:=H
 env:=envOfC qual scope s.heap.objs.size f cd
 outer:=outer
 stack:=envOfC qual scope s.heap.objs.size f cd::outer
 ex:=[]
 calm:=true
 fn:=λ_=>true
 pn:=[]
 xe:=λe s'=>wpAny (model P w) (A.deeper (envOfC qual scope s.heap.objs.size f cd)) (leaving (envOfC qual scope s.heap.objs.size f cd) e) (λ_ s''=>CX outer H s E e s'') (λe' s''=>CX outer H s E e' s'') s'
theorem Ah{sc:Scope}{n:Nat}{x:Str}(h:sc.names.lookup x=some .cell):∃c,(cellsFrom n sc.names []).lookup x=some c:=by
 have q:=PySem.W.cellsFrom_some sc.names n [] (.inl h);exact Option.isSome_iff_exists.mp q
theorem IW{CX:CXT}{P:Zpr}{w:World}{K:Zw}{mg:Str->Option Value}{base:Heap}{N ps:List Str}{qual:Str}{scope:Scope}{f:Addr}{cd:Value}{A:Zar}{outer:List Env}{s s1:Zsh}{H:Hp}{E:XK}{us:List Value}{vs:List V}
  (S:qH N ps scope) (hd:A.handled=none) (e0:Qe P w K mg base A outer s H) (hl:vs.length=ps.length) (r:bM vs us)
  (x:InCallC s s.heap.objs.size (bindL (envOfC qual scope s.heap.objs.size f cd).kindOf (ps.zip us) λ_=>none) (cellsFrom (s.heap.objs.size+1) scope.names []) (bindC (envOfC qual scope s.heap.objs.size f cd).kindOf (ps.zip us) λ_=>none) s1):
  Inv (Ax CX P w K mg base N qual scope f cd A outer s H E) [] (start N vs) H s1:=by
 have hpl:ps.length<=N.length:=by have:=congrArg List.length S.pre;rw[List.length_take]at this;lia
 obtain⟨h1,tk,rfl,hk⟩:=x.done;have noA:∀b:Addr,b∉(Ax CX P w K mg base N qual scope f cd A outer s H E).ex:=λb z=>absurd (show b∈([]:List Addr)from z) (by simp)
 refine⟨⟨e0.mod,S.kind,rfl,rfl,Zg _,λy z c h1 h2=>?_,λy hy=>?_,λy c _ h=>?_,λ_=>hd,Around.frames_deeper e0.frames,.inr ⟨rfl,rfl⟩,λb z=>absurd z (noA b),e0.bs,e0.bsz,λb _ _=>noA b,λb z=>absurd z (noA b),e0.funs,e0.frf⟩,
  rfl,GK.refl e0.bare,Un.kept hk,⟨_,x.toInCall.ns,λi y v h1 h2 h3=>?_⟩,λy c h=>⟨_,x.cell y c h⟩,e0.hok.fresh (Zg _),λy c h=>?_,λp hp=>absurd (show p∈([]:List (Addr×Obj))from hp) (by simp),e0.hok.kept hk,?_⟩
 .exact name_of_addr x.apart (Zt h1) (Zt h2)
 .have hy:scope.names.lookup y=some .cell∨scope.names.lookup y=some .free:=hy
  rcases hy with hy|hy
  .exact Ah hy
  .exact absurd rfl (S.nofree _ (Zt hy))
 .exact Nat.le_of_lt (x.above y c (Zt h))
 .have hi:i<vs.length:=by
   unfold start at h2;by_cases hi:i<vs.length
   .exact hi
   .rw[List.getElem?_append_right (by simpa using hi)]at h2
    rw[List.getElem?_replicate]at h2;split at h2<;>cases h2
  have ha:vs[i]? =some v:=by
   unfold start at h2;rw[Zs (by simpa using hi),List.getElem?_map]at h2
   cases e:vs[i]? with
   |none=>rw[e]at h2;cases h2
   |some a=>rw[e]at h2;cases h2;rfl
  obtain⟨u,hu,rv⟩:=r.get ha;have hp:ps[i]? =some y:=by
   rw[<-S.pre,List.getElem?_take_of_lt (by lia)];exact h1
  have ndP:ps.Nodup:=by rw[<-S.pre];exact S.nd.sublist (List.take_sublist _ _)
  refine⟨u,rv,?_⟩
  rcases S.par y (List.mem_of_getElem? hp)with k|k
  .exact .inl ⟨k,xG ndP hp hu k⟩
  .obtain⟨c,e⟩:=Ah (n:=s.heap.objs.size+1) k;refine .inr ⟨.inl k,c,e,?_⟩;have q:=x.cell y c e;rw[xP ndP hp hu (by show scope.names.lookup y≠_;rw[k];decide)]at q
   exact q
 .exact e0.hok.fresh (Nat.le_of_lt (x.above y c (Zt h)))
 .unfold start;show _=N.length;rw[ZG,Zu,List.length_replicate]
  lia
theorem TX{CX:CXT}{P:Zpr}{w:World}{K:Zw}{mg:Str->Option Value}{base:Heap}{k:Nat}{f:Addr}{name qual:Str}{params:Arguments}{body:List Stmt}{scope:Scope}{dV kV doc pm cdv ct oc:Value}{an od:Option Addr}
  {osl:Array (Option Value)} {N ps:List Str} {sp:Sp} (lk:K.lookup f=some ⟨oc,od,.func (PySem.W.fnOf name qual params body scope dV kV doc pm an cdv ct),osl⟩) (hcd:PySem.W.codeIn K cdv qual=true) (S:qH N ps scope)
  (len:∀vs H Q E,sp vs H Q E->vs.length=ps.length)
  (hbody:∀(A:Zar)(outer:List Env)(s:Zsh)(H:Hp)(vs:List V)(Q:VK)(E:XK),dH k (A.deeper (envOfC qual scope s.heap.objs.size f cdv))->sp vs H Q E->
   ∃t,PSs (Ax CX P w K mg base N qual scope f cdv A outer s H E) body t/\t { nx:=λ_ H'=>Q .non H',rt:=Q} (start N vs) H):
  tB P w K mg base CX (k+1) f (PySem.W.fnOf name qual params body scope dV kV doc pm an cdv ct) ps sp:=by
 refine⟨len,λA outer s H args us vs Q E hr e0 hb r hsp=>?_⟩;have hl:=len _ _ _ _ hsp;have KX:K.In s.heap:=e0.mod.kin.keeps λb o e=>(e0.bs b o e).1;have lim:s.heap.NoLimit:=e0.mod.nolimit.keeps λb o e=>(e0.bs b o e).1;have hkind:∀y∈ps.zip us,scope.names.lookup y.1=some .local∨(scope.names.lookup y.1=some .cell/\((cellsFrom (s.heap.objs.size+1) scope.names []).lookup y.1).isSome=true):=λzq49 hy=>by
  obtain⟨n,v⟩:=zq49
  rcases S.par n (List.of_mem_zip hy).1 with q|q
  .exact .inl q
  .exact .inr ⟨q,PySem.W.cellsFrom_some _ _ _ (.inl q)⟩
 refine codeAny_call_function hr.depth (KX _ _ lk) rfl S.co S.gen rfl (PySem.W.codeRec_of KX hcd) (hb _ _ _ _ ?_);refine wpAny_newFunctionEnv_cells S.kind hkind λenv he s1 x=>?_;subst he;refine⟨lim.keeps x.toInCall.keep,codeAny_func ?_⟩;obtain⟨t,ht,hq⟩:=hbody A outer s H vs Q E (hr.deeper _) hsp;have I:Inv (Ax CX P w K mg base N qual scope f cdv A outer s H E) [] (start N vs) H s1:=IW S hr.hd e0 hl r x;refine Zy (ht [] s1 (start N vs) H _ I hq) (λfl s' hs=>?_) λe s' hs=>hs;have fin:∀{σ':St}{H':Hp}{v:V}{u:Value},Inv (Ax CX P w K mg base N qual scope f cdv A outer s H E) [] σ' H' s'->cI v u->Q v H'->CE outer P w H s Q u s':=
  λ{σ' H' v u} J rv q=>⟨v,H',J.os,J.bare,J.base,J.hok,rv,q⟩
 cases fl with
 |ret u=>
  obtain⟨v,σ',H',J,rv,q⟩:=hs;exact fin J rv q
 |next=>
  obtain⟨σ',H',J,q⟩:=hs;exact fin (v:=V.non) (u:=Value.none) J rfl q
 |brk=>
  obtain⟨_,_,_,q⟩:=hs;exact False.elim q
 |cont=>
  obtain⟨_,_,_,q⟩:=hs;exact False.elim q
section
variable {X:Cx} {x:Str} {p pos:Pos} {e:Expr} {es:List Expr} {t:TA} {id T:String} {r:List V->Hp->VK->Prop}
def tCB(r:List V->Hp->VK->Prop)(t:TA):TE:=λσ H Q=>t σ H λvs H1=>r vs H1 Q
theorem nZ(hc:lO X (.builtin id) r)(hg:Gl X x)(hm:X.mg x=none)(hv:bootBuiltins x=some (.builtin id))(ha:PA X (e::es) t)(hn:x≠"__name__":=by decide)(hdb:(x==("__debug__":Str))=false:=by decide)
  (he:starEach (e::es) X.env=(false,eval e X.env)::starEach es X.env:=by rfl) (hpl:(backTo pos (starEach es X.env)).any (·.1)=false:=by rfl):PE X (.Call (.Name x p) (e::es) [] pos) (tCB r t):=by
 intro pins s σ H Q I h;refine wpAny_Call_Name_kw (oU I hg hm hv ?_ hn hdb);exact PyProof.Rows.callWith_builtin1 (thn (ha pos pins s σ H _ I h) λus s1 ⟨vs,H1,I1,r1,q1⟩=>hc pins s1 σ H1 vs us Q I1 r1 q1) he hpl
theorem tK(hc:lO X (.type T) r)(hg:Gl X x)(hm:X.mg x=none)(hv:bootBuiltins x=some (.type T))(ha:PA X (e::es) t)(hn:x≠"__name__":=by decide)(hdb:(x==("__debug__":Str))=false:=by decide)
  (he:starEach (e::es) X.env=(false,eval e X.env)::starEach es X.env:=by rfl) (hpl:(backTo pos (starEach es X.env)).any (·.1)=false:=by rfl):PE X (.Call (.Name x p) (e::es) [] pos) (tCB r t):=by
 intro pins s σ H Q I h;refine wpAny_Call_Name_kw (oU I hg hm hv ?_ hn hdb);exact PyProof.Rows.callWith_type1 (thn (ha pos pins s σ H _ I h) λus s1 ⟨vs,H1,I1,r1,q1⟩=>hc pins s1 σ H1 vs us Q I1 r1 q1) he hpl
end
end L2
namespace HT
open PySem PyProof.Rows
section
variable {prog:Zpr} {w:World} {A:Zar} {E:Value->Zsh->Prop} {s:Zsh}
theorem cat_tup{Q:Value->Zsh->Prop}(ht:IsTup s.heap t vs.toArray)(hb:IsTup s.heap b ws.toArray)(hv:vs≠[])
  (h1:ws=[]->Q (.ref t) s) (h2:ws≠[]->Q (.ref s.heap.objs.size) { s with heap:=s.heap.push { cls:=.type "tuple",data:=.seq (vs++ws).toArray} })
  (hsz:vs.length+ws.length<=sizeLine):wpAny (model prog w) A (binaryOp .Add (.ref t) (.ref b)) Q E s:=by
 obtain⟨⟨cls,dd,data,sl⟩,ho,hc,n,hd⟩:=id ht;obtain⟨⟨cls2,dd2,data2,sl2⟩,ho2,hc2,n2,hd2⟩:=id hb;simp only at hc hd hc2 hd2;subst hc hd hc2 hd2;have e:vs.toArray++ws.toArray=(vs++ws).toArray:=by simp
 by_cases hw:ws=[]
 .exact concat_meets ⟨_,ho,rfl⟩ ⟨_,ho2,rfl⟩ noFill_tuple_add seq_tuple_add PySem.F.slot_tuple_add PySem.F.entry_tuple_add (PySem.F.args_tuple_add_2 _ _)
   (tuple_addW1 t b vs.toArray ws.toArray n n2 dd dd2 sl sl2 (by simpa using hv) (by simp[hw])) ⟨ho,ho2,h1 hw⟩
 .refine concat_meets ⟨_,ho,rfl⟩ ⟨_,ho2,rfl⟩ noFill_tuple_add seq_tuple_add PySem.F.slot_tuple_add PySem.F.entry_tuple_add (PySem.F.args_tuple_add_2 _ _)
   (tuple_addW2 t b vs.toArray ws.toArray n n2 dd dd2 sl sl2 (by simpa using hv) (by simpa using hw) (by rw[Zd,Zd];exact hsz)) ⟨ho,ho2,?_⟩
  rw[e];exact h2 hw
def sIx(n d:Nat):Option Int->Nat
 |none=>d
 |some v=>if v<0 then(v+(n:Int)).toNat else min v.toNat n
theorem WQ(n d:Nat)(hd:d<=n)(o:Option Int):sIx n d o<=n:=by
 cases o with
 |none=>exact hd
 |some v=>
  show(if v<0 then(v+(n:Int)).toNat else min v.toNat n)<=n;by_cases hv:v<0
  .rw[if_pos hv];lia
  .rw[if_neg hv];exact Nat.min_le_right _ _
theorem Fb(v:Int)(n d:Nat):(if v<0 then max (v+(n:Int)) 0 else min v (n:Int))=((sIx n d (some v):Nat):Int):=by
 show(if v<0 then max (v+(n:Int)) 0 else min v (n:Int))=(((if v<0 then(v+(n:Int)).toNat else min v.toNat n):Nat):Int);by_cases hv:v<0
 .simp only[if_pos hv];lia
 .simp only[if_neg hv];lia
theorem DG(lo hi:Option Int)(n:Nat):Builtin.Slice.sliceAdjust lo hi 1 (n:Int)=(((sIx n 0 lo:Nat):Int),((sIx n n hi:Nat):Int)):=by
 have h1:¬((1:Int)<0):=by lia
 unfold Builtin.Slice.sliceAdjust;simp only[h1,if_false];refine Prod.ext ?_ ?_
 .cases lo with
  |none=>rfl
  |some v=>exact Fb v n 0
 .cases hi with
  |none=>rfl
  |some v=>exact Fb v n n
theorem Eg(i j:Nat):Builtin.Slice.slicePlaces (i:Int) (j:Int) 1=j-i:=by
 unfold Builtin.Slice.slicePlaces;have h1:(1:Int)>0:=by lia
 simp only[h1,if_true,Int.ediv_one];split<;>lia
theorem uP{Q:Option Int->Zsh->Prop}(p:IsPart v o)(h:Q o s):wpAny (model prog w) A (Builtin.Slice.slicePartIndex v) Q E s:=by
 cases p with
 |none=>exact slicePart_none h
 |int i t=>exact slicePart_int h
theorem oF{sl:Addr}{vl vu:Value}{lo hi:Option Int}{n:Nat}{Q:Int×Int×Nat->Zsh->Prop}(hs:s.heap.IsSliceOf sl vl vu .none)(pl:IsPart vl lo)(pu:IsPart vu hi)
  (h:Q (((sIx n 0 lo:Nat):Int),1,sIx n n hi-sIx n 0 lo) s):wpAny (model prog w) A (Builtin.Slice.sliceApplied (.ref sl) (pure (n:Int))) Q E s:=by
 obtain⟨os,hos,hcs,hds⟩:=id hs;unfold Builtin.Slice.sliceApplied Builtin.Slice.sliceFields;refine Zv (Zv (wpAny_field hos hds (x:=vl) rfl (Zv (wpAny_field hos hds (x:=vu) rfl (Zv (wpAny_field hos hds (x:=.none) rfl (Zx ?_)))))));refine Zv (slicePart_none ?_);show wpAny _ _ (if((1:Int)==0)=true then _ else _) _ _ s;rw[if_neg (by decide)]
 refine Zv (uP pl (Zv (uP pu (Zv (Zx ?_)))));show wpAny _ _ (match Builtin.Slice.sliceAdjust lo hi 1 (n:Int)with|(lo,hi)=>pure (lo,(1:Int),Builtin.Slice.slicePlaces lo hi 1)) _ _ s
 rw[DG lo hi n];show wpAny _ _ (pure (((sIx n 0 lo:Nat):Int),(1:Int),Builtin.Slice.slicePlaces ((sIx n 0 lo:Nat):Int) ((sIx n n hi:Nat):Int) 1)) _ _ s;rw[Eg];exact Zx h
theorem KJ(xs:Array Value)(i k:Nat):((List.range k).filterMap λ(m:Nat)=>xs[((i:Int)+(m:Int)*1).toNat]?).toArray=((xs.toList.drop i).take k).toArray:=by
 have e:(λ(m:Nat)=>xs[((i:Int)+(m:Int)*1).toNat]?)=λm=>xs[i+m]? :=by
  funext m
  have:((i:Int)+(m:Int)*1).toNat=i+m:=by lia
  rw[this]
 rw[e];have:=pick_run xs i k;rw[List.filterMap_map]at this;have e2:((λx=>xs[x]?)∘λx=>i+x)=λm=>xs[i+m]? :=rfl;rw[e2]at this;rw[this]
theorem getItem_tuple_cut{t sl:Addr}{items:Array Value}{vl vu:Value}{lo hi:Option Int}{Q:Value->Zsh->Prop}(ht:IsTup s.heap t items)(hs:s.heap.IsSliceOf sl vl vu .none)(pl:IsPart vl lo)(pu:IsPart vu hi)
  (hw:¬(sIx items.size 0 lo=0/\sIx items.size items.size hi=items.size))
  (h:Q (.ref s.heap.objs.size) { s with heap:=s.heap.push { cls:=.type "tuple",data:=.seq ((items.toList.drop (sIx items.size 0 lo)).take (sIx items.size items.size hi-sIx items.size 0 lo)).toArray} })
  (hsz:items.size<=sizeLine):wpAny (model prog w) A (getItem (.ref t) (.ref sl)) Q E s:=by
 have htake:sizeOk (.seq ((items.toList.drop (sIx items.size 0 lo)).take (sIx items.size items.size hi-sIx items.size 0 lo)).toArray):=by
  show((items.toList.drop (sIx items.size 0 lo)).take (sIx items.size items.size hi-sIx items.size 0 lo)).toArray.size<=sizeLine;rw[Zd,List.length_take,List.length_drop,Array.length_toList]
  lia
 have hj:sIx items.size items.size hi<=items.size:=WQ _ _ (Zg _) hi;obtain⟨os,hos,hcs,hds⟩:=id hs;have hTs:s.TypeIs (.ref sl) "slice":=⟨os,hos,hcs⟩;unfold getItem
 try with_reducible refine wpAny_holding ?_
 first|refine Zv (Zx ?_)|skip
 refine Zv (wpAny_sequenceKey ht.typeIs (by decide) ?_)
 refine Zv (wpAny_callSpecial?_slot (name:=Str.ofString "__getitem__") ht.typeIs PyProof.Rows.slot_tuple_getitem
  (wpAny_call_entry PyProof.Rows.slot_tuple_getitem ht.typeIs entry_tuple_getitem ?_ (args_tuple_getitem _ _)))
 show wpAny _ _ (Builtin.Tuple.tupleItemsOf (.ref t) >>= _) _ _ s;refine Zv (tupleItemsOf_ ht ?_);refine Zv (wpAny_typeOf hTs ?_);rw[if_pos (by decide)]
 refine Zv (oF hs pl pu ?_);have hno:¬((((sIx items.size 0 lo:Nat):Int)==0&&(1:Int)==1&&(sIx items.size items.size hi-sIx items.size 0 lo)==items.size)=true):=by
  intro q;rw[Zo,Zo]at q;have q1:((sIx items.size 0 lo:Nat):Int)=0:=eq_of_beq q.1.1;have q2:sIx items.size items.size hi-sIx items.size 0 lo=items.size:=eq_of_beq q.2;exact hw ⟨by lia,by lia⟩
 show wpAny _ _ (if(((sIx items.size 0 lo:Nat):Int)==0&&(1:Int)==1&&(sIx items.size items.size hi-sIx items.size 0 lo)==items.size)=true then _ else _) _ _ s;rw[if_neg hno,KJ]
 first
  |exact Zv (m:=Builtin.Tuple.tupleExact _) (Zz (Zx ⟨_,rfl,Zx h⟩) htake)
  |exact Zv (m:=Builtin.Tuple.tupleExact _) (Zz (Zv (Zx (Zx ⟨_,rfl,Zx h⟩))) htake)
  |exact Zv (Zv (m:=Builtin.Tuple.tupleExact _) (Zz (Zx (Zx ⟨_,rfl,Zx h⟩)) htake))
  |exact Zv (Zv (m:=Builtin.Tuple.tupleExact _) (Zz (Zx ⟨_,rfl,Zx h⟩) htake))
end
end HT
namespace L2
open PySem PySem.Spec PyProof.Rows
abbrev TO:=St->Hp->(Option Int->Hp->Prop)->Prop
def PO(X:Cx)(e:Option Expr)(t:TO):Prop:=
 ∀(pins:List (Addr×Obj))(s:Zsh)(σ:St)(H:Hp)(Q:Option Int->Hp->Prop),Inv X pins σ H s->t σ H Q->
  wpAny (model X.prog X.w) X.A (evalPart e X.env) (λu s'=>∃o H',Inv X pins σ H' s'/\IsPart u o/\Q o H') X.xe s
def RK:TO:=λ_ H Q=>Q none H
def Yj(t:TE):TO:=λσ H Q=>t σ H λx H1=>∃i,x= .int i/\Q (some i) H1
section
variable {X:Cx} {e:Expr} {te:TE} {lo hi:Option Expr} {tl th:TO} {pos p2:Pos}
theorem PK:PO X none RK:=by
 intro pins s σ H Q I h;rw[evalPart_none];exact Zx ⟨none,H,I,.none,h⟩
theorem Pj(h:PE X e te):PO X (some e) (Yj te):=by
 intro pins s σ H Q I hw;rw[evalPart_some];refine thn (h pins s σ H _ I hw) λu s1 zq50=>?_;obtain⟨x,H1,I1,r1,q1⟩:=zq50;obtain⟨i,rfl,q⟩:=q1;obtain⟨t,rfl⟩:=r1;exact⟨some i,H1,I1,.int i t,q⟩
def SlR(X:Cx)(r:V->Option Int->Option Int->Hp->VK->Prop):Prop:=
 ∀(pins:List (Addr×Obj))(s:Zsh)(σ:St)(H:Hp)(x:V)(v vl vu:Value)(lo hi:Option Int)(sl:Addr)(Q:VK),Inv X pins σ H s->cI x v->s.heap.IsSliceOf sl vl vu .none->IsPart vl lo->IsPart vu hi->r x lo hi H Q->
  ∃T id,typeLookup (.type T) "__getitem__"=pure (some (.builtin id))/\s.TypeIs v T/\wpAny (model X.prog X.w) X.A (getItem v (.ref sl)) (EP X pins σ Q) X.xe s
theorem SlR.or{r r':V->Option Int->Option Int->Hp->VK->Prop}(h:SlR X r)(h':SlR X r'):SlR X (λx lo hi H Q=>r x lo hi H Q∨r' x lo hi H Q):=by
 intro pins s σ H x v vl vu lo hi sl Q I rx hs pl pu q
 rcases q with q|q
 .exact h pins s σ H x v vl vu lo hi sl Q I rx hs pl pu q
 .exact h' pins s σ H x v vl vu lo hi sl Q I rx hs pl pu q
def tSl(r:V->Option Int->Option Int->Hp->VK->Prop)(te:TE)(tl th:TO):TE:=λσ H Q=>te σ H λx H1=>tl σ H1 λl H2=>th σ H2 λu H3=>r x l u H3 Q
theorem Kh{r:V->Option Int->Option Int->Hp->VK->Prop}(hr:SlR X r)(he:PE X e te)(hl:PO X lo tl)(hu:PO X hi th):PE X (.Subscript e (.Slice lo hi none p2) pos) (tSl r te tl th):=by
 intro pins s σ H Q I h;refine Subscript_ (thn (he pins s σ H _ I h) λv s1 zq51=>?_);obtain⟨x,H1,I1,r1,q1⟩:=zq51;refine wpAny_Slice (thn (hl pins s1 σ H1 _ I1 q1) λvl s2 ⟨l,H2,I2,pl,q2⟩=>thn (hu pins s2 σ H2 _ I2 q2) λvu s3 zq52=>?_);obtain⟨u,H3,I3,pu,q3⟩:=zq52;rw[evalPart_none];refine Zx ?_;have I4:Inv X pins σ H3 { s3 with heap:=s3.heap.push { cls:=.type "slice",data:=.fields #[vl,vu,.none] } }:=I3.kept (t':=s3.toks) λb ob q=>Zb _ q
 obtain⟨T,id,hT,ht,hg⟩:=hr pins { s3 with heap:=s3.heap.push { cls:=.type "slice",data:=.fields #[vl,vu,.none] } } σ H3 x v vl vu l u s3.heap.objs.size Q I4 r1 (Heap.IsSliceOf.new ..) pl pu q3
 show wpAny (model X.prog X.w) X.A (subscriptTail e (.Slice lo hi none p2) v (.ref s3.heap.objs.size)) (EP X pins σ Q) X.xe { s3 with heap:=s3.heap.push { cls:=.type "slice",data:=.fields #[vl,vu,.none] } }
 exact tail_any (ops:=[.ref s3.heap.objs.size,v]) ht hT hg (by with_unfolding_all rfl)
def Al(xs:List V)(lo hi:Option Int):List V:=(xs.drop (HT.sIx xs.length 0 lo)).take (HT.sIx xs.length xs.length hi-HT.sIx xs.length 0 lo)
theorem ud(xs:List V)(lo hi:Option Int):(Al xs lo hi).length<=xs.length:=by
 unfold Al;rw[List.length_take,List.length_drop]
 lia
def rSlT(K:Zw):V->Option Int->Option Int->Hp->VK->Prop:=λx lo hi H Q=>∃a xs,x= .ref a/\SqT K H a xs/\
 ¬(HT.sIx xs.length 0 lo=0/\HT.sIx xs.length xs.length hi=xs.length)/\∀p,H p=none->Q (.ref p) (upd H p (.tup (Al xs lo hi)))
theorem Wi:SlR X (rSlT X.K):=by
 intro pins s σ H x v vl vu lo hi sl Q I rx hs pl pu h;obtain⟨a,xs,rfl,hx,hw,q⟩:=h;cases rx;obtain⟨its,r,ht,hz⟩:=I.tuple hx;have hlen:its.toArray.size=xs.length:=by rw[Zd];exact r.length.symm
 refine⟨"tuple",_,PyProof.Rows.slot_tuple_getitem.lookup,ht.typeIs,?_⟩;refine HT.getItem_tuple_cut ht hs pl pu (by rw[hlen];exact hw) ?_ (by rw[hlen];exact hz)
 rw[hlen];refine⟨.ref s.heap.objs.size,_,I.laid (t':=s.toks) (o:=.tup (Al xs lo hi)) (λb ob q=>Zb _ q) (Zg _) ?_,rfl,q _ (I.hok.fresh (Zg _))⟩;exact⟨Zl (ud xs lo hi) hz,_,(r.drop (HT.sIx xs.length 0 lo)).take (HT.sIx xs.length xs.length hi-HT.sIx xs.length 0 lo),IsTup.new _ _⟩
def XN(K:Zw):R2:=λx y H Q=>∃a b xs ys,x= .ref a/\y= .ref b/\SqT K H a xs/\SqT K H b ys/\xs≠[]/\xs.length+ys.length<=sizeLine/\
 (ys=[]->Q (.ref a) H)/\(ys≠[]->∀p,H p=none->Q (.ref p) (upd H p (.tup (xs++ys))))
theorem bM.pG(r:bM xs us):us=[]↔xs=[]:=by
 cases r with
 |nil=>simp
 |cons _ _=>simp
theorem Qu:OpR X (binaryOp .Add) (XN X.K):=by
 intro pins s σ H x y v u Q I rx ry h;obtain⟨a,b,xs,ys,rfl,rfl,ha,hb,hx,hz,q1,q2⟩:=h;cases rx;cases ry;obtain⟨its,r1,p1,_⟩:=I.tuple ha;obtain⟨its2,r2,p2,_⟩:=I.tuple hb;refine HT.cat_tup p1 p2 (λz=>hx (r1.pG.mp z)) (λz=>⟨.ref a,H,I,rfl,q1 (r2.pG.mp z)⟩) (λz=>?_) (by rw[<-r1.length,<-r2.length];exact hz)
 refine⟨.ref s.heap.objs.size,_,I.laid (t':=s.toks) (o:=.tup (xs++ys)) (λb ob q=>Zb _ q) (Zg _) ?_,rfl,q2 (λw=>z (r2.pG.mpr w)) _ (I.hok.fresh (Zg _))⟩;exact⟨by rw[ZG];exact hz,_,r1.append r2,IsTup.new _ _⟩
end
def ixN(n:Nat)(i:Int):Option Nat:=if 0<=i then(if i<n then some i.toNat else none)else if -(n:Int)<=i then some (i+n).toNat else none
def atI{α:Type}(xs:List α)(i:Int):Option α:=(ixN xs.length i).bind λj=>xs[j]?
theorem Gz(h:ixN n i=some j):seqIndex? i n=some j/\j<n/\ -(n:Int)<=i/\i<n:=by
 unfold ixN at h;by_cases h0:0<=i
 .rw[if_pos h0]at h;by_cases h1:i<n
  .rw[if_pos h1]at h;have e:i.toNat=j:=Option.some.inj h;exact⟨by rw[seqIndex_of h0 h1,e],by lia,by lia,h1⟩
  .rw[if_neg h1]at h;cases h
 .rw[if_neg h0]at h;by_cases h1: -(n:Int)<=i
  .rw[if_pos h1]at h;have e:(i+n).toNat=j:=Option.some.inj h;exact⟨by rw[seqIndex_neg (by lia) h1,e],by lia,h1,by lia⟩
  .rw[if_neg h1]at h;cases h
theorem uJ{α:Type}{xs:List α}{i:Int}{v:α}(h:atI xs i=some v):∃j,seqIndex? i xs.length=some j/\xs[j]? =some v/\j<xs.length/\ -(xs.length:Int)<=i/\i<xs.length:=by
 unfold atI at h;cases e:ixN xs.length i with
 |none=>rw[e]at h;cases h
 |some j=>
  rw[e]at h;obtain⟨h1,h2,h3,h4⟩:=Gz e;exact⟨j,h1,h,h2,h3,h4⟩
theorem Tf{α:Type}{xs:List α}{j:Nat}{v:α}(h:xs[j]? =some v):atI xs (j:Int)=some v:=by
 have hj:j<xs.length:=(Zh.mp h).1;have e:ixN xs.length (j:Int)=some j:=by
  unfold ixN;rw[if_pos (by lia),if_pos (by lia)];simp
 unfold atI;rw[e];exact h
theorem vX{α:Type}(xs:List α)(v:α):atI (xs++[v]) (-1)=some v:=by
 have hl:(xs++[v]).length=xs.length+1:=by simp
 have e:ixN (xs++[v]).length (-1)=some xs.length:=by
  unfold ixN;rw[hl,if_neg (by decide),if_pos (by lia)]
  congr 1
  lia
 unfold atI;rw[e];show(xs++[v])[xs.length]? =some v;simp
def Gx(b:Expr):Prop:=∀o i,subscripted b false o i=operate [o,i] (getItem o i)
def IxR(X:Cx)(r:R2):Prop:=
 ∀(value slice:Expr)(pins:List (Addr×Obj))(s:Zsh)(σ:St)(H:Hp)(x y:V)(v u:Value)(Q:VK),Inv X pins σ H s->cI x v->cI y u->r x y H Q->
  subscripted slice false v u=operate [v,u] (getItem v u)->wpAny (model X.prog X.w) X.A (subscriptTail value slice v u) (EP X pins σ Q) X.xe s
def MtR(X:Cx)(id:String)(r:V->List V->Hp->VK->Prop):Prop:=
 ∀(pins:List (Addr×Obj))(s:Zsh)(σ:St)(H:Hp)(x:V)(xs:List V)(v:Value)(us:List Value)(Q:VK),Inv X pins σ H s->cI x v->bM xs us->r x xs H Q->
  wpAny (model X.prog X.w) X.A (call (.builtin id) (v::us)) (EP X pins σ Q) X.xe s
section
variable {X:Cx} {a b:Expr} {ta tb:TE} {pos:Pos}
theorem IxR.or(h:IxR X r)(h':IxR X r'):IxR X (λx y H Q=>r x y H Q∨r' x y H Q):=by
 intro value slice pins s σ H x y v u Q I rx ry q hs
 rcases q with q|q
 .exact h value slice pins s σ H x y v u Q I rx ry q hs
 .exact h' value slice pins s σ H x y v u Q I rx ry q hs
theorem Yu(hr:IxR X r)(ha:PE X a ta)(hb:PE X b tb)(hs:Gx b):PE X (.Subscript a b pos) (tOp r ta tb):=by
 intro pins s σ H Q I h;exact Subscript_ (Xb ha hb I h λv u s2 x y H2 I2 rx ry q=>hr a b pins s2 σ H2 x y v u Q I2 rx ry q (hs _ _))
def aac(K:Zw):R2:=λx y H Q=>∃p xs i v,x= .ref p/\y= .int i/\SqL K H p xs/\atI xs i=some v/\Q v H
def YF(K:Zw):R2:=λx y H Q=>∃p xs i v,x= .ref p/\y= .int i/\SqT K H p xs/\atI xs i=some v/\Q v H
def Yl:R2:=λx y H Q=>∃z i c,x= .str z/\y= .int i/\z.length<=sizeLine/\atI z.cps.toList i=some c/\Q (.str ⟨#[c]⟩) H
theorem Ph:IxR X (aac X.K):=by
 intro value slice pins s σ H x y v u Q I rx ry h hs;obtain⟨p,xs,i,z,rfl,rfl,hq,he,q⟩:=h;cases rx;obtain⟨t,rfl⟩:=ry;obtain⟨its,r,pl,hz⟩:=I.list hq;obtain⟨j,h1,h2,h3,h4,h5⟩:=uJ he;obtain⟨w,ew,rw'⟩:=r.get h2;have hl:=r.length;have hn:=rH;have fin:EP X pins σ Q w s:=⟨z,H,I,rw',q⟩;by_cases h0:0<=i
 .have hj:i.toNat=j:=by
   rw[seqIndex_of h0 h5]at h1;exact Option.some.inj h1
  exact item_listR pl.isList h0 (by lia) (by rw[hj];simpa using ew) fin hs
 .have hj:(i+(its.toArray.size:Int)).toNat=j:=by
   rw[seqIndex_neg (by lia) h4]at h1
   rw[Zd,<-hl];exact Option.some.inj h1
  exact subscriptTail_builtinR (x:=w) pl.isList.typeIs slot_list_getitem.lookup
   (wpAny_getItem_list_neg (Q:=λr s'=>r=w/\EP X pins σ Q r s') pl.isList (by lia) (by rw[Zd]<;>lia) (by lia) (by rw[hj];simpa using ew) ⟨rfl,fin⟩) hs
theorem Wu:IxR X (YF X.K):=by
 intro value slice pins s σ H x y v u Q I rx ry h hs;obtain⟨p,xs,i,z,rfl,rfl,hq,he,q⟩:=h;cases rx;obtain⟨t,rfl⟩:=ry;obtain⟨its,r,pl,hz⟩:=I.tuple hq;obtain⟨j,h1,h2,h3,h4,h5⟩:=uJ he;obtain⟨w,ew,rw'⟩:=r.get h2;have hl:=r.length;have hn:=rH;have fin:EP X pins σ Q w s:=⟨z,H,I,rw',q⟩;exact subscriptTail_builtinR (x:=w) pl.typeIs slot_tuple_getitem.lookup
  (getItem_tuple (j:=j) (Q:=λr s'=>r=w/\EP X pins σ Q r s') pl (by lia) (by lia) (by rw[Zd,<-hl];exact h1) (by simpa using ew) ⟨rfl,fin⟩) hs
theorem Wv:IxR X Yl:=by
 intro value slice pins s σ H x y v u Q I rx ry h hs;obtain⟨z,i,c,rfl,rfl,hz,he,q⟩:=h;obtain⟨t,rfl⟩:=rx;obtain⟨t',rfl⟩:=ry;obtain⟨j,h1,h2,h3,h4,h5⟩:=uJ he;have hl:z.cps.toList.length=z.length:=by simp[Str.length]
 rw[hl]at h1 h4 h5;have hn:=rH;exact tail_any (typeIs_str s z t) slot_str_getitem.lookup (getItem_str (c:=c) (by
  have e1:decide (i< -(2 ^ 63:Int))=false:=decide_eq_false (by lia)
  have e2:decide (i>=2 ^ 63)=false:=decide_eq_false (by lia)
  rw[e1,e2,Bool.or_false]) (by rw[h1];simpa using h2) ⟨.str ⟨#[c]⟩,H,I.tok _,⟨_,rfl⟩,q⟩) hs
def rIx(K:Zw):R2:=λx y H Q=>aac K x y H Q∨YF K x y H Q∨Yl x y H Q
theorem Ux:IxR X (rIx X.K):=Ph.or (Wu.or Wv)
theorem Ej(its:List Value)(n j:Nat)(u:Value):Obj.mapSeq (·.setIfInBounds j u) { cls:=.type "list",data:=.seq its.toArray n}={ cls:=.type "list",data:=.seq (its.set j u).toArray n}:=by
 simp[Obj.mapSeq]
theorem Inv.lst(I:Inv X pins σ H s)(h:H p=some (.lst xs)):
  ∃(its:List Value)(n:Nat),bM xs its/\s.heap.get? p=some { cls:=.type "list",data:=.seq its.toArray n}/\xs.length<=sizeLine:=by
 obtain⟨z,its,n,r,e⟩:=I.hok p _ h;exact⟨its,n,r,e,z⟩
theorem Inv.lstUpd{pins:List (Addr×Obj)}{σ:St}{H:Hp}{s:Zsh}{p:Addr}{xs ys:List V}{its its':List Value}{n n':Nat}{f:Obj->Obj}(I:Inv X pins σ H s)(h:H p=some (.lst xs))
  (ho:s.heap.get? p=some { cls:=.type "list",data:=.seq its.toArray n}) (hf:f { cls:=.type "list",data:=.seq its.toArray n}={ cls:=.type "list",data:=.seq its'.toArray n'}) (r:bM ys its') (hz:ys.length<=sizeLine) (t:Nat):
  Inv X pins σ (upd H p (.lst ys)) { s with heap:=s.heap.update p f,toks:=t}:=by
 have e:(s.heap.update p f).get? p=some { cls:=.type "list",data:=.seq its'.toArray n'}:=by
  rw[Heap.get?_update_self f ho (by rw[hf]<;>rfl),hf]
 refine I.write (x:=p) (e:=p) (by rw[h];trivial) (.inl rfl) (λb u hb q=>(Heap.get?_update_other _ _ (Ne.symm hb)).trans q) ⟨_,e⟩ ?_
 exact⟨hz,its',n',r,e⟩
def YD:V->V->V->Hp->(Hp->Prop)->Prop:=λo i v H Q=>∃p xs k j,o= .ref p/\i= .int k/\H p=some (.lst xs)/\ixN xs.length k=some j/\Q (upd H p (.lst (xs.set j v)))
theorem set_list:XH X YD:=by
 intro pins s σ H o i v ov iv u Q I ro ri rv h;obtain⟨p,xs,k,j,rfl,rfl,hp,hj,q⟩:=h;cases ro;obtain⟨t,rfl⟩:=ri;obtain⟨its,n,r,ho,hz⟩:=I.lst hp;obtain⟨h1,h2,h3,h4⟩:=Gz hj;have hl:=r.length;have hn:=rH;have I':Inv X pins σ (upd H p (.lst (xs.set j v))) { s with heap:=s.heap.update p (Obj.mapSeq (·.setIfInBounds j u)) }:=
  I.lstUpd hp ho (Ej its n j u) (r.set rv j) (by rw[List.length_set];exact hz) s.toks
 by_cases h0:0<=k
 .have hk:k.toNat=j:=by
   rw[seqIndex_of h0 h4]at h1;exact Option.some.inj h1
  exact PySem.W.ki_setAt ho h0 (by lia) (by rw[Zd,<-hl];exact h4) (by rw[hk];exact⟨_,I',q⟩)
 .have hk:(k+(its.toArray.size:Int)).toNat=j:=by
   rw[seqIndex_neg (by lia) h3]at h1
   rw[Zd,<-hl];exact Option.some.inj h1
  exact PySem.W.ki_setBack ho (by lia) (by rw[Zd,<-hl];exact h3) (by lia) (by rw[hk];exact⟨_,I',q⟩)
theorem yW(lo hi:Option Int)(n:Nat):(sliceBounds lo hi none n).1=((HT.sIx n 0 lo:Nat):Int)/\(sliceBounds lo hi none n).2.1=((HT.sIx n n hi:Nat):Int)/\(sliceBounds lo hi none n).2.2=1:=by
 refine⟨?_,?_,rfl⟩
 .cases lo with
  |none=>simp[sliceBounds,HT.sIx]
  |some i=>
   simp only[sliceBounds,HT.sIx,Option.getD_none,show(1:Int)>0 by decide,if_true]
   by_cases h:i<0
   .simp only[h,if_true]<;>lia
   .simp only[h,if_false]<;>lia
 .cases hi with
  |none=>simp[sliceBounds,HT.sIx]
  |some i=>
   simp only[sliceBounds,HT.sIx,Option.getD_none,show(1:Int)>0 by decide,if_true]
   by_cases h:i<0
   .simp only[h,if_true]<;>lia
   .simp only[h,if_false]<;>lia
theorem wM(its:List Value)(lo hi:Option Int):slicePick its.toArray lo hi none=((its.drop (HT.sIx its.length 0 lo)).take (HT.sIx its.length its.length hi-HT.sIx its.length 0 lo)).toArray:=by
 obtain⟨h1,h2,h3⟩:=yW lo hi its.toArray.size;unfold slicePick;rw[h1,h2,h3];simp only[sliceRange_one,pick_run,Zd]<;>rfl
def rSlL(K:Zw):V->Option Int->Option Int->Hp->VK->Prop:=λx lo hi H Q=>∃a xs,x= .ref a/\SqL K H a xs/\∀p,H p=none->Q (.ref p) (upd H p (.lst (Al xs lo hi)))
theorem Pu:SlR X (rSlL X.K):=by
 intro pins s σ H x v vl vu lo hi sl Q I rx hs pl pu h;obtain⟨a,xs,rfl,hx,q⟩:=h;cases rx;obtain⟨its,r,ht,hz⟩:=I.list hx;have hlen:=r.length;refine⟨"list",_,slot_list_getitem.lookup,ht.isList.typeIs,?_⟩;refine wpAny_getItem_list_slice ht.isList hs pl pu .none (by simp) ?_ (by rw[Zd]<;>lia)
 rw[wM,<-hlen];refine⟨.ref s.heap.objs.size,_,I.laid (t':=s.toks) (o:=.lst (Al xs lo hi)) (λb ob q=>Zb _ q) (Zg _) ?_,rfl,q _ (I.hok.fresh (Zg _))⟩;exact⟨Zl (ud xs lo hi) hz,_,0,(r.drop (HT.sIx xs.length 0 lo)).take (HT.sIx xs.length xs.length hi-HT.sIx xs.length 0 lo),Zf _ rfl⟩
def qT:V->Bool
 | .non=>true
 | .bl _=>true
 | .int _=>true
 | .str _=>true
 |_=>false
def eqV:V->V->Bool
 | .non,.non=>true
 | .bl a,.bl b=>a==b
 | .bl a,.int b=>(if a then 1 else 0)==b
 | .int a,.bl b=>a==(if b then 1 else 0)
 | .int a,.int b=>a==b
 | .str a,.str b=>a==b
 |_,_=>false
theorem WN(ry:cI y u)(rx:cI x v)(fy:qT y=true)(fx:qT x=true):SeqAt.EqAt A s u v (eqV y x):=by
 cases y with
 |non=>
  cases ry;cases x with
  |non=>cases rx;exact SeqAt.EqAt.same _
  |bl b=>cases rx;exact SeqAt.EqAt.none_bool b
  |int b=>obtain⟨t,rfl⟩:=rx;exact SeqAt.EqAt.none_int b t
  |str b=>obtain⟨t,rfl⟩:=rx;exact SeqAt.EqAt.none_str b t
  |_=>exact absurd (show false=true from fx) Zr
 |bl a=>
  cases ry;cases x with
  |non=>cases rx;exact SeqAt.EqAt.bool_none a
  |bl b=>cases rx;exact SeqAt.EqAt.bool_bool a b
  |int b=>obtain⟨t,rfl⟩:=rx;exact SeqAt.EqAt.bool_int a b t
  |str b=>obtain⟨t,rfl⟩:=rx;exact SeqAt.EqAt.bool_str a b t
  |_=>exact absurd (show false=true from fx) Zr
 |int a=>
  obtain⟨t',rfl⟩:=ry;cases x with
  |non=>cases rx;exact SeqAt.EqAt.int_none a t'
  |bl b=>cases rx;exact SeqAt.EqAt.int_bool a t' b
  |int b=>obtain⟨t,rfl⟩:=rx;exact SeqAt.EqAt.int_int a t' b t
  |str b=>obtain⟨t,rfl⟩:=rx;exact SeqAt.EqAt.int_str a t' b t
  |_=>exact absurd (show false=true from fx) Zr
 |str a=>
  obtain⟨t',rfl⟩:=ry;cases x with
  |non=>cases rx;exact SeqAt.EqAt.str_none a t'
  |bl b=>cases rx;exact SeqAt.EqAt.str_bool a t' b
  |int b=>obtain⟨t,rfl⟩:=rx;exact SeqAt.EqAt.str_int a t' b t
  |str b=>obtain⟨t,rfl⟩:=rx;exact SeqAt.EqAt.str_str a t' b t
  |_=>exact absurd (show false=true from fx) Zr
 |_=>exact absurd (show false=true from fy) Zr
def eqU(x:V)(u:Value):Bool:=match u with
 | .none=>eqV .non x
 | .bool b=>eqV (.bl b) x
 | .int i _=>eqV (.int i) x
 | .str z _=>eqV (.str z) x
 |_=>false
theorem JK(r:cI y u)(f:qT y=true):eqU x u=eqV y x:=by
 cases y with
 |non=>cases r;rfl
 |bl b=>cases r;rfl
 |int i=>obtain⟨t,rfl⟩:=r;rfl
 |str z=>obtain⟨t,rfl⟩:=r;rfl
 |_=>exact absurd (show false=true from f) Zr
theorem rO:∀{xs:List V}{us:List Value},bM xs us->xs.all qT=true->us.any (eqU x)=xs.any λy=>eqV y x
 |_,_,.nil,_=>rfl
 |y::xs,u::us,.cons r t,f=>by
  rw[List.all_cons,Zo]at f;rw[List.any_cons,List.any_cons,JK r f.1,rO t f.2]
theorem pW(rx:cI x v)(fx:qT x=true):∀{xs:List V}{us:List Value},bM xs us->xs.all qT=true->∀u∈us,SeqAt.EqAt A s u v (eqU x u)
 |_,_,.nil,_=>λu hu=>by cases hu
 |y::xs,u::us,.cons r t,f=>λu' hu=>by
  rw[List.all_cons,Zo]at f
  rcases Zi.mp hu with rfl|hu
  .rw[JK r f.1];exact WN r rx f.1 fx
  .exact pW rx fx t f.2 u' hu
def inV(x:V)(xs:List V):Bool:=xs.any λy=>eqV y x
def rIn(K:Zw)(neg:Bool):R2:=λx y H Q=>∃p xs,y= .ref p/\(SqL K H p xs∨SqT K H p xs)/\qT x=true/\xs.all qT=true/\Q (.bl (if neg then !inV x xs else inV x xs)) H
theorem Iu:OpR X (compareOp .In) (rIn X.K false):=by
 intro pins s σ H x y v u Q I rx ry h;obtain⟨p,xs,rfl,hq,fx,fs,q⟩:=h;cases ry
 rcases hq with hq|hq
 .obtain⟨its,r,pl,hz⟩:=I.list hq;refine SeqAt.in_listAt (eqU x) pl.isList (λw hw=>pW rx fx r fs w (by simpa using hw)) ⟨.bl _,H,I,rfl,?_⟩
  rw[show its.toArray.any (eqU x)=its.any (eqU x) by simp,rO r fs]
  exact q
 .obtain⟨its,r,pl,hz⟩:=I.tuple hq;refine SeqAt.in_tupleAt (eqU x) pl (λw hw=>pW rx fx r fs w (by simpa using hw)) ⟨.bl _,H,I,rfl,?_⟩
  rw[show its.toArray.any (eqU x)=its.any (eqU x) by simp,rO r fs]
  exact q
theorem yO:OpR X (compareOp .NotIn) (rIn X.K true):=by
 intro pins s σ H x y v u Q I rx ry h;obtain⟨p,xs,rfl,hq,fx,fs,q⟩:=h;cases ry
 rcases hq with hq|hq
 .obtain⟨its,r,pl,hz⟩:=I.list hq;refine SeqAt.notIn_listAt (eqU x) pl.isList (λw hw=>pW rx fx r fs w (by simpa using hw)) ⟨.bl _,H,I,rfl,?_⟩
  rw[show its.toArray.any (eqU x)=its.any (eqU x) by simp,rO r fs]
  exact q
 .obtain⟨its,r,pl,hz⟩:=I.tuple hq;refine SeqAt.notIn_tupleAt (eqU x) pl (λw hw=>pW rx fx r fs w (by simpa using hw)) ⟨.bl _,H,I,rfl,?_⟩
  rw[show its.toArray.any (eqU x)=its.any (eqU x) by simp,rO r fs]
  exact q
theorem yz:lO X (.builtin "len") (λxs H Q=>∃p ys,xs=[.ref p]/\(SqL X.K H p ys∨SqT X.K H p ys)/\Q (.int ys.length) H):=by
 intro pins s σ H xs us Q I r h;obtain⟨p,ys,rfl,hq,q⟩:=h;obtain⟨u,rfl,rx⟩:=vals1 r;cases (rx);have hn:=rH
 rcases hq with hq|hq
 .obtain⟨its,r',pl,hz⟩:=I.list hq;have hlen:=r'.length;exact Calls.call_len_list pl.isList (by simp only[Zd]<;>omega +splitMinMax) ⟨.int ys.length,H,I.tok _,⟨s.toks+1,by rw[Zd,hlen]⟩,q⟩
 .obtain⟨its,r',pl,hz⟩:=I.tuple hq;have hlen:=r'.length;exact len_tuple pl (by simp only[Zd]<;>omega +splitMinMax) ⟨.int ys.length,H,I.tok _,⟨s.toks+1,by rw[Zd,hlen]⟩,q⟩
theorem yI:lO X (.builtin "len") (λxs H Q=>∃z,xs=[.str z]/\z.length<=sizeLine/\Q (.int z.length) H):=by
 intro pins s σ H xs us Q I r h;obtain⟨z,rfl,hz,q⟩:=h;obtain⟨u,rfl,t,rfl⟩:=vals1 r;have hn:=rH;exact len_str (by lia) ⟨.int z.length,H,I.tok _,⟨_,rfl⟩,q⟩
theorem lO.or{r r':List V->Hp->VK->Prop}(h:lO X f r)(h':lO X f r'):lO X f (λxs H Q=>r xs H Q∨r' xs H Q):=by
 intro pins s σ H xs us Q I rs q
 rcases q with q|q
 .exact h pins s σ H xs us Q I rs q
 .exact h' pins s σ H xs us Q I rs q
theorem wR:lO X (.type "tuple") (λxs H Q=>∃p ys,xs=[.ref p]/\((SqL X.K H p ys/\∀l,H l=none->Q (.ref l) (upd H l (.tup ys)))∨(SqT X.K H p ys/\Q (.ref p) H))):=by
 intro pins s σ H xs us Q I r h;obtain⟨p,ys,rfl,h⟩:=h;obtain⟨u,rfl,rx⟩:=vals1 r;cases rx
 rcases h with⟨hq,q⟩|⟨hq,q⟩
 .obtain⟨its,r',pl,hz⟩:=I.list hq;have hlen:=r'.length;refine call_tuple_list pl.isList (λh' kp=>?_) (by simp only[Zd]<;>lia)
  have I1:Inv X pins σ H { s with heap:=h'}:=I.kept (t':=s.toks) kp
  have I2:Inv X pins σ (upd H h'.objs.size (.tup ys)) { s with heap:=h'.push { cls:=.type "tuple",data:=.seq its.toArray} }:=
   I1.laid (t':=s.toks) (λb o e=>Zb _ e) (Zg _) (show kj X.prog X.w _ _ _ (.tup ys)from⟨hz,its,r',IsTup.new _ _⟩)
  exact⟨.ref h'.objs.size,_,I2,rfl,q _ (I1.hok.fresh (Zg _))⟩
 .obtain⟨its,r',pl,hz⟩:=I.tuple hq;exact call_tuple_same pl ⟨.ref p,H,I,rfl,q⟩
def tyV(K:Zw)(T:String)(x:V)(H:Hp):Prop:=match x with
 | .str _=>T="str"
 | .int _=>T="int"
 | .ref p=>(T="list"/\∃xs,SqL K H p xs)∨(T="tuple"/\∃o,K.lookup p=some o/\o.cls= .type "tuple"/\o.dict=none)∨
   (T="dict"/\((∃kvs,H p=some (.dK kvs))∨∃kvs,H p=some (.dT kvs)))∨(T="set"/\∃S n,H p=some (.set S n))
 |_=>False
theorem Vd(I:Inv X pins σ H s)(r:cI x v)(ty:tyV X.K T x H):
  s.TypeIs v T/\∀a,v= .ref a->∃ob,s.heap.get? a=some ob/\ob.dict=none:=by
 cases x with
 |str z=>
  obtain⟨t,rfl⟩:=r;cases (show T="str" from ty);exact⟨typeIs_str s z t,λ_ e=>nomatch e⟩
 |int i=>
  obtain⟨t,rfl⟩:=r;cases (show T="int" from ty);exact⟨typeIs_int s i t,λ_ e=>nomatch e⟩
 |ref p=>
  cases r
  rcases ty with⟨rfl,xs,hq⟩|⟨rfl,o,hk,hc,hd⟩|⟨rfl,hk⟩|⟨rfl,S,n,hk⟩
  .obtain⟨its,_,pl,_⟩:=I.list hq;refine⟨pl.isList.typeIs,λa e=>?_⟩;cases e;obtain⟨o,n,e,c,hd,_⟩:=pl;exact⟨o,e,hd⟩
  .refine⟨⟨o,I.kIn p o hk,hc⟩,λa e=>?_⟩;cases e;exact⟨o,I.kIn _ o hk,hd⟩
  .have z:∃o,s.heap.get? p=some o/\o.ExactDict:=by
    rcases hk with⟨kvs,hk⟩|⟨kvs,hk⟩
    .obtain⟨_,_,_,_,o,_,_,e,ex,_⟩:=I.hok p _ hk;exact⟨o,e,ex⟩
    .obtain⟨_,_,_,_,o,_,_,e,ex,_⟩:=I.hok p _ hk;exact⟨o,e,ex⟩
   obtain⟨o,e,ex⟩:=z;refine⟨⟨o,e,ex.1⟩,λa e2=>?_⟩;cases e2;exact⟨o,e,ex.2.1⟩
  .obtain⟨o,_,_,_,e,ex,_⟩:=I.hok p _ hk;refine⟨⟨o,e,ex.1⟩,λa e2=>?_⟩;cases e2;exact⟨o,e,ex.2.1⟩
 |_=>exact False.elim ty
def tBM(K:Zw)(T:String)(r:V->List V->Hp->VK->Prop)(to:TE)(t:TA):TE:=λσ H Q=>to σ H λx H1=>tyV K T x H1/\t σ H1 λxs H2=>r x xs H2 Q
variable {o e:Expr} {es:List Expr} {to:TE} {t:TA} {name:Str} {apos cpos:Pos} {T id:String} {r:V->List V->Hp->VK->Prop}
theorem Tz(pa:PlainAttrs T)(slot:Slot T name id)(hty:typeOf (.builtin id)=pure (.type "method_descriptor"))(hm:MtR X id r)(ho:PE X o to)(ha:PA X (e::es) t)
  (hbase:attributeBase o name X.env (eval o X.env)=eval o X.env:=by rfl)
  (hfew:((backTo cpos (starEach (e::es) X.env)).all (λx=>!x.1)&&(backToKw cpos (keywordEach [] X.env)).all (λx=>x.1.isSome)
   &&decide ((e::es).length+([]:List Keyword).length+(if([]:List Keyword).isEmpty then 0 else 1)<30))=true:=by rfl)
  (hline:(apos.endLine==cpos.line)=true:=by rfl) (hs:starEach (e::es) X.env=(false,eval e X.env)::starEach es X.env:=by rfl) (hplain:(backTo cpos (starEach es X.env)).any (·.1)=false:=by rfl):
  PE X (.Call (.Attribute o name apos) (e::es) [] cpos) (tBM X.K T r to t):=by
 intro pins s σ H Q I h;refine wpAny_Call_method_late hbase hfew hline rfl (thn (ho pins s σ H _ I h) λv s1 zq54=>?_);obtain⟨x,H1,I1,r1,ty,q1⟩:=zq54;obtain⟨h1,h2⟩:=Vd I1 r1 ty;refine⟨T,id,pa,slot,hty,h1,h2,?_⟩;have hA:=ha cpos pins s1 σ H1 _ I1 q1;rw[hs]at hA ⊢;refine Calls.callWith_builtin (by show(false||(backTo cpos (starEach es X.env)).any (·.1))=false;rw[hplain]<;>rfl) (Calls.evalArgs_plain ?_)
 exact thn hA λus s2 ⟨vs,H2,I2,r2,q2⟩=>hm pins s2 σ H2 x vs v us Q I2 r1 r2 q2
end
def MtM(X:Cx)(id:String)(r:V->List V->Hp->VK->Prop):Prop:=
 ∀(pins:List (Addr×Obj))(s:Zsh)(σ:St)(H:Hp)(x:V)(xs:List V)(v:Value)(us:List Value)(Q:VK),Inv X pins σ H s->cI x v->bM xs us->r x xs H Q->
  wpAny (model X.prog X.w) X.A (call (.builtin id) (v::us)) (EP X pins σ Q) X.xe s
theorem bM.one:∀{x:V}{us:List Value},bM [x] us->∃u,us=[u]/\cI x u
 |_,_,.cons r .nil=>⟨_,rfl,r⟩
theorem bM.eraseIdx:∀{xs:List V}{us:List Value}(i:Nat),bM xs us->bM (xs.eraseIdx i) (us.eraseIdx i)
 |_,_,_,.nil=>.nil
 |_,_,0,.cons _ t=>t
 |_,_,i+1,.cons r t=>.cons r (bM.eraseIdx i t)
theorem bM.rep(h:bM xs us):∀k:Nat,bM (List.replicate k xs).flatten (List.replicate k us).flatten
 |0=>.nil
 |k+1=>by
  rw[List.replicate_succ,List.replicate_succ,List.flatten_cons,List.flatten_cons];exact bM.append h (bM.rep h k)
theorem xT{α:Type}:∀(l:List α)(i:Nat),(l.eraseIdx i).length<=l.length
 | [],_=>Zg _
 |_::_,0=>Nat.le_succ _
 |_::r,i+1=>Nat.succ_le_succ (xT r i)
theorem foldl_rep(its:List Value):∀(k:Nat)(acc:List Value),
  List.foldl (λx1 x2=>x1++x2) acc.toArray (List.replicate k its.toArray)=(acc++(List.replicate k its).flatten).toArray
 |0,acc=>by simp
 |k+1,acc=>by
  have e:acc.toArray++its.toArray=(acc++its).toArray:=by simp
  have e2:(acc++its)++(List.replicate k its).flatten=acc++(List.replicate (k+1) its).flatten:=by
   rw[List.replicate_succ,List.flatten_cons,List.append_assoc]
  rw[<-e2,<-foldl_rep its k (acc++its),<-e,List.replicate_succ,List.foldl_cons]
section
variable {X:Cx} {pins:List (Addr×Obj)} {σ:St} {H:Hp} {s:Zsh} {l b:Addr} {xs ys zs:List V}
theorem Inv.lset{its its':List Value}{n:Nat}{f:Array Value->Array Value}{t':Nat}(I:Inv X pins σ H s)(hH:H l=some (.lst xs))
  (e:s.heap.get? l=some { cls:=.type "list",data:=.seq its.toArray n}) (hf:f its.toArray=its'.toArray) (hv:bM ys its') (hz:ys.length<=sizeLine):
  Inv X pins σ (upd H l (.lst ys)) { s with heap:=s.heap.update l (Obj.mapSeq f),toks:=t'}:=by
 have q:=PySem.IsL.update e f;rw[hf]at q;refine I.write (x:=l) (e:=l) (by rw[hH];exact trivial) (.inl rfl) (λb' u hb hu=>(Heap.get?_update_other s.heap (Obj.mapSeq f) (Ne.symm hb)).trans hu) ⟨_,q⟩ ?_
 exact⟨hz,its',_,hv,q⟩
theorem Inv.lnew(I:Inv X pins σ H s)(hv:bM ys its)(hz:ys.length<=sizeLine):
  Inv X pins σ (upd H s.heap.objs.size (.lst ys)) { s with heap:=s.heap.push { cls:=.type "list",data:=.seq its.toArray},toks:=t'}:=
 I.laid (λ_ _ q=>Zb _ q) (Zg _) ⟨hz,its,0,hv,Zf _ rfl⟩
theorem Inv.fresh(I:Inv X pins σ H s):H s.heap.objs.size=none:=I.hok.fresh (Zg _)
theorem Inv.lstM(I:Inv X pins σ H s)(hH:H l=some (.lst xs)):xs.length<=sizeLine/\∃(its:List Value)(n:Nat),bM xs its/\xs.length=its.length/\s.heap.get? l=some { cls:=.type "list",data:=.seq its.toArray n}:=by
 obtain⟨z,its,n,r,e⟩:=I.hok l _ hH;exact⟨z,its,n,r,r.length,e⟩
theorem Aw(h:n<=sizeLine):Builtin.List.listTooLong n=false:=by
 unfold Builtin.List.listTooLong;exact decide_eq_false (by lia)
end
section
variable {X:Cx}
def Qy:V->List V->Hp->VK->Prop:=λx vs H Q=>∃l xs y,x= .ref l/\vs=[y]/\H l=some (.lst xs)/\xs.length<sizeLine/\Q .non (upd H l (.lst (xs++[y])))
theorem IV:MtM X "list.append" Qy:=by
 intro pins s σ H x vs v us Q I rx rv h;obtain⟨l,xs,y,rfl,rfl,hH,hz,q⟩:=h;cases rx;obtain⟨u,rfl,ru⟩:=rv.one;obtain⟨z,its,n,r,hl,e⟩:=I.lstM hH;refine call_meets F.slot_list_append ⟨_,e,rfl⟩ F.entry_list_append (F.args_list_append_2 _ _) (PySem.list_append l its.toArray n u (by rw[Zd];lia)) ⟨e,?_⟩
 refine⟨.non,_,I.lset (its':=its++[u]) hH e (by simp) (r.append (.cons ru .nil)) ?_,rfl,q⟩
 rw[ZG,List.length_singleton]
 lia
def QW:V->List V->Hp->VK->Prop:=λx vs H Q=>∃l b xs zs,x= .ref l/\vs=[.ref b]/\H l=some (.lst xs)/\H b=some (.lst zs)/\xs.length+zs.length<=sizeLine/\Q .non (upd H l (.lst (xs++zs)))
theorem Xf:MtM X "list.extend" QW:=by
 intro pins s σ H x vs v us Q I rx rv h;obtain⟨l,b,xs,zs,rfl,rfl,hH,hB,hz,q⟩:=h;cases rx;obtain⟨u,rfl,ru⟩:=rv.one;cases ru;obtain⟨z,its,n,r,hl,e⟩:=I.lstM hH;obtain⟨z2,its2,n2,r2,hl2,e2⟩:=I.lstM hB;have hsz:its.toArray.size+its2.toArray.size<=sizeLine:=by rw[Zd,Zd];lia
 have hlong:¬(!its.toArray.isEmpty&&Builtin.List.listTooLong (its.toArray.size+its2.toArray.size))=true:=by
  rw[Aw hsz,Bool.and_false];exact Zr
 refine call_meets F.slot_list_extend ⟨_,e,rfl⟩ F.entry_list_extend (F.args_list_extend_2 _ _)
  (AutoSeq1.list_extend_list_list_0 l its.toArray n b its2.toArray n2 hlong (by rw[Zd];lia) (by lia)) ⟨e,e2,?_⟩
 refine⟨.non,_,I.lset (its':=its++its2) hH e (by simp) (r.append r2) ?_,rfl,q⟩
 rw[ZG]
 lia
def Wy:V->List V->Hp->VK->Prop:=λx vs H Q=>∃l xs i k y,x= .ref l/\vs=[.int i]/\H l=some (.lst xs)/\ -(2 ^ 63)<=i/\i<2 ^ 63/\seqIndex? i xs.length=some k/\xs[k]? =some y/\Q y (upd H l (.lst (xs.eraseIdx k)))
theorem Ny:MtM X "list.pop" Wy:=by
 intro pins s σ H x vs v us Q I rx rv h;obtain⟨l,xs,i,k,y,rfl,rfl,hH,h1,h2,hk,hy,q⟩:=h;cases rx;obtain⟨u,rfl,ru⟩:=rv.one;obtain⟨t,rfl⟩:=ru;obtain⟨z,its,n,r,hl,e⟩:=I.lstM hH;obtain⟨w,hw,rw'⟩:=r.get hy;refine call_meets F.slot_list_pop ⟨_,e,rfl⟩ F.entry_list_pop (F.args_list_pop_2 _ _)
  (MeetsSeq.list_pop_at l its.toArray n i t k w (fitsIndex_both h1 h2) (by rw[Zd,<-hl];exact hk) (by rw[<-Array.getElem?_toList];exact hw) (by rw[Zd];lia)) ⟨e,?_⟩
 refine⟨y,_,I.lset (its':=its.eraseIdx k) hH e ?_ (r.eraseIdx k) ?_,rw',q⟩
 .show its.toArray.eraseIdxIfInBounds k=(its.eraseIdx k).toArray;rw[List.eraseIdxIfInBounds_toArray]
 .have:=xT xs k
  lia
def rCat:R2:=λx y H Q=>∃l b xs zs,x= .ref l/\y= .ref b/\H l=some (.lst xs)/\H b=some (.lst zs)/\xs.length+zs.length<=sizeLine/\∀p,H p=none->Q (.ref p) (upd H p (.lst (xs++zs)))
theorem JS:OpR X (binaryOp .Add) rCat:=by
 intro pins s σ H x y v u Q I rx ry h;obtain⟨l,b,xs,zs,rfl,rfl,hH,hB,hz,q⟩:=h;cases rx;cases ry;obtain⟨z,its,n,r,hl,e⟩:=I.lstM hH;obtain⟨z2,its2,n2,r2,hl2,e2⟩:=I.lstM hB;refine PySem.P.add_list e e2 ?_ (by rw[Zd,Zd];lia)
 have ea:its.toArray++its2.toArray=(its++its2).toArray:=by simp
 rw[ea];exact⟨.ref _,_,I.lnew (t':=s.toks) (r.append r2) (by rw[ZG];lia),rfl,q _ I.fresh⟩
def rRep:R2:=λx y H Q=>∃l k xs,x= .ref l/\y= .int k/\H l=some (.lst xs)/\ -(2 ^ 63)<=k/\k<2 ^ 63/\xs.length*k.toNat<=sizeLine/\
 ∀p,H p=none->Q (.ref p) (upd H p (.lst (List.replicate k.toNat xs).flatten))
theorem len_rep{α:Type}(xs:List α)(k:Nat):(List.replicate k xs).flatten.length=k*xs.length:=by
 induction k with
 |zero=>simp
 |succ k ih=>rw[List.replicate_succ,List.flatten_cons,ZG,ih,Nat.succ_mul,Nat.add_comm]
theorem Kp:OpR X (binaryOp .Mult) rRep:=by
 intro pins s σ H x y v u Q I rx ry h;obtain⟨l,k,xs,rfl,rfl,hH,h1,h2,hz,q⟩:=h;cases rx;obtain⟨t,rfl⟩:=ry;obtain⟨z,its,n,r,hl,e⟩:=I.lstM hH;have hlen:its.toArray.size*k.toNat<=sizeLine:=by rw[Zd,<-hl];exact hz
 have hcap:¬its.toArray.size*k.toNat>(2 ^ 63-1) / 8:=by
  have:(sizeLine:Nat)<=(2 ^ 63-1) / 8:=by decide
  lia
 have hfit:¬(!Builtin.List.listFitsIndex k)=true:=by
  rw[fitsIndex_both h1 h2];exact Zr
 have hlong:¬Builtin.List.listTooLong (its.toArray.size*k.toNat)=true:=by
  rw[Aw hlen];exact Zr
 have hnew:List.foldl (λx1 x2=>x1++x2) #[] (List.replicate (if its.toArray.isEmpty=true then 0 else k.toNat) its.toArray)=(List.replicate k.toNat its).flatten.toArray:=by
  have f0:∀m:Nat,List.foldl (λx1 x2=>x1++x2) #[] (List.replicate m its.toArray)=(List.replicate m its).flatten.toArray:=λm=>by
   have:=foldl_rep its m [];rw[List.nil_append]at this;exact this
  rw[f0];cases its with
  |nil=>simp
  |cons a r'=>rw[if_neg (by simp)]
 refine wpAny_binaryOp_repeat_ref (T:="list") (U:="int") (by decide) ⟨_,e,rfl⟩ (λs'=>typeIs_int s' k t) noFill_list_mul F.fills_int_mul F.slot_int_rmul repeat_list F.slot_int_index.lookup
  (call_meets F.slot_int_rmul (typeIs_int s k t) F.entry_int_rmul (F.args_int_rmul_2 _ _) (int___rmul___int_list k t l its.toArray n)
   ⟨e,rfl,⟨_,e,rfl⟩,call_meets F.slot_list_mul ⟨_,e,rfl⟩ F.entry_list_mul (F.args_list_mul_2 _ _) (AutoListH.list___mul___list_int_3 l its.toArray n k t hfit hcap hlong) ⟨e,?_⟩⟩)
 rw[hnew];exact⟨.ref _,_,I.lnew (t':=s.toks) (r.rep k.toNat) (by rw[len_rep,Nat.mul_comm];exact hz),rfl,q _ I.fresh⟩
end
end L2
namespace Att
open PySem PySem.W PySem.Calls PyProof.Rows
theorem uo:∀(ns:List Int)(vs:List Value),WellAll P h vs (ns.map WData.int)->IntsAre vs ns:=by
 intro ns
 induction ns with
 |nil=>
  intro vs w;rw[List.map_nil]at w;cases w;exact .nil
 |cons n ns ih=>
  intro vs w;rw[Zj]at w;cases w with
  |cons a b=>
   cases a;exact .cons _ _ (ih _ b)
theorem Ja{l:OpenLaw}{n:Nat}(hn:l.most=some n){P:Params}{h:Heap}{args:List WData}{vals:List Value}
  (hpre:l.row.toRowW.claim.pre args=true) (hwl:WellAll P h vals args):
  ∃a vs ns,vals=[Value.ref a]/\args=[WData.list (ns.map WData.int)]/\h.get? a=some { cls:=.type "list",data:=.seq vs.toArray}/\IntsAre vs ns/\ns.length<=n:=by
 have hsh:WShape.hasAll [] args [.list .int]=true:=(pre_splitW hpre).1;have hc:l.pre.holds [] { args:=args}=true:=(pre_splitW hpre).2;obtain⟨d,r,rfl,h1,h2⟩:=hasAllW_cons hsh;obtain rfl:=hasAllW_nil h2;obtain⟨xs,rfl,h3⟩:=hasW_list h1;obtain⟨ns,rfl⟩:=items_int h3;have hlen:ns.length<=n:=by
  unfold OpenLaw.pre at hc;have h4:(WTm.not (.lt (.lit (.int (n:Int))) (.len (.arg 0)))).holds [] { args:=[.list (ns.map .int)] }=true:=by
   have h4:=(holds_andW hc).1;rw[hn]at h4;exact h4
  have h5:=condW_of h4 (w_not (w_lt w_lit (w_len_list (w_arg rfl))));rw[Zu]at h5;refine Nat.le_of_not_lt λq=>?_;have q':(n:Int)<((ns.length:Nat):Int):=by lia
  first
   |(rw[decide_eq_true q']at h5;exact absurd h5 (by decide))
   |(simp at h5;lia)
 cases hwl with
 |cons w1 w2=>
  cases w2;cases w1 with
  |list ho hall=>exact⟨_,_,ns,rfl,rfl,ho,uo ns _ hall,hlen⟩
theorem Hv(l:OpenLaw)(args:List WData):l.row.toRowW.claim.post args (.bool true) args=true:=
 postW_of (r:=l.row.toRowW) (X:=(true==true))
  (show WShape.has [] (.bool true) .bool=true by first|rfl|decide|simp[WShape.has,WShape.arms,WShape.armsAll])
  (show(WTm.eq .res (.lit (.bool true))).value [] { args:=args,res:=some (.bool true),after:=args}=some (.bool (true==true))from w_eq_bool (w_res rfl) w_lit) rfl
theorem attach_call{l:OpenLaw}{n:Nat}{q:Zpr}{loose:List Str}{XP:(Str->Option Value)->Heap->Prop}{YP:World->Heap->Prop}{d:DefRec}
  (hn:l.most=some n) (hdf:d.params.defaults=[])
  (call:∀(w:World)(s₀ s₁:Zsh)(mg mb:Str->Option Value)(fa:Addr)(o:Obj)(pm cd doc:Value)(a:Addr)(vs:List Value)(ns:List Int),
   Ground q loose [] XP w s₀ mg mb s₁.heap->YP w s₁.heap->
   s₁.heap.get? fa=some o->o.data= .func (docDef d.name d.params d.body d.scope pm cd doc)->s₁.heap.CodeRec cd d.name->mg d.name=some (.ref fa)->
   s₁.heap.get? a=some { cls:=.type "list",data:=.seq vs.toArray}->IntsAre vs ns->ns.length<=n->s₁.gens= #[]->
   codeAny (model l.prog w) callerA (.call (.ref fa) ⟨[.ref a],[]⟩) (λr s'=>r= .ok (.ret (.bool true))/\OldK s₁.heap s'.heap/\s'.os=s₁.os/\AllBare s'.gens) s₁):
  WalkO q loose XP YP l.row.toRowW d [] (λf vs=>PySem.call f vs):=by
 intro w s₀ s₁ mg mb G Y fa o pm cd doc dV kV ho hd hcd hD hmg hg args vals as hpre hlay hrd hwl hlo;obtain rfl:dV= .none:=Dflts.none hD hdf;obtain rfl:kV= .none:=Dflts.noKw hD;obtain⟨a,vs,ns,rfl,rfl,hobj,hints,hlen⟩:=Ja hn hpre hwl;refine enter_call (codeAny_mono (call w s₀ s₁ mg mb fa o pm cd doc a vs ns G Y ho (fd_plain hd) hcd hmg hobj hints hlen hg) λr s' hq=>?_);obtain⟨rfl,h2,h3,h4⟩:=hq;exact⟨.inl ⟨.bool true,.bool true,[],rfl,λ_=>rfl,.bool true,Hv l _,λ_=>⟨List.Pairwise.nil,λ_ hm=>(nomatch hm)⟩⟩,h2,h3,h4⟩
end Att
namespace L2
open PySem PySem.Spec PyProof.Rows
theorem yf:∀{vs:List Value}{ns:List Int},IntsAre vs ns->bM (ns.map V.int) vs
 |_,_,.nil=>.nil
 |_,_,.cons n t h=>.cons ⟨t,rfl⟩ (yf h)
def nq(s:Stmt):Arguments:=match s with
 | .FunctionDef _ a _ _ _ _ _ _ _ _=>a
 |_=>{ posonlyargs:=[],args:=[],vararg:=none,kwonlyargs:=[],kw_defaults:=[],kwarg:=none,defaults:=[] }
def jA(s:Stmt):List Stmt:=match s with
 | .FunctionDef _ _ b _ _ _ _ _ _ _=>b
 |_=>[]
def dF(s:Stmt):Scope:=match s with
 | .FunctionDef _ _ _ _ _ _ sc _ _ _=>sc
 |_=>{ kind:=.function,names:=[],isGenerator:=false,isCoroutine:=false}
abbrev CX0:CXT:=λ_ _ _ _ _ _=>False
abbrev E0:XK:=λ_ _ _=>False
theorem Yn:CW CX0 X E0:=λ_ _ _ _ _ _ _ h=>h.elim
def pK(H H':Hp):Prop:=∀b o,H b=some o->H' b=some o
theorem pK.refl(H:Hp):pK H H:=λ_ _ h=>h
theorem pK.trans(a:pK H H1)(b:pK H1 H2):pK H H2:=λc o h=>b c o (a c o h)
def Bf(X:Cx):List Nat->List Str->Prop
 | [],[]=>True
 |i::is,x::xs=>(X.N[i]? =some x/\(X.env.kindOf x=some .cell∨X.env.kindOf x=some .free))/\Bf X is xs
 |_,_=>False
theorem Bf.length:∀{is:List Nat}{xs:List Str},Bf X is xs->is.length=xs.length
 | [],[],_=>rfl
 |_::_,_::_,h=>by rw[ZH,ZH,Bf.length h.2]
theorem Bf.get:∀{is:List Nat}{xs:List Str}{j i:Nat},Bf X is xs->is[j]? =some i->∃x,xs[j]? =some x/\X.N[i]? =some x/\(X.env.kindOf x=some .cell∨X.env.kindOf x=some .free)
 | [],[],_,_,_,e=>by simp at e
 |i::is,x::xs,0,k,h,e=>by
  simp at e;subst e;exact⟨x,rfl,h.1⟩
 |i::is,x::xs,j+1,k,h,e=>by
  obtain⟨y,e1,e2⟩:=Bf.get (j:=j) (i:=k) h.2 (by simpa using e)
  exact⟨y,by simpa using e1,e2⟩
def vo(σ:St)(is:List Nat):St:=is.map λi=>(σ[i]?).join
theorem wZ{σ:St}{is:List Nat}{j:Nat}{v:V}(e:(vo σ is)[j]? =some (some v)):∃i,is[j]? =some i/\σ[i]? =some (some v):=by
 unfold vo at e;rw[List.getElem?_map]at e;cases q:is[j]? with
 |none=>rw[q]at e;cases e
 |some i=>
  rw[q]at e;have e1:(σ[i]?).join=some v:=by simpa using e
  cases q2:σ[i]? with
  |none=>rw[q2]at e1;cases e1
  |some o=>
   rw[q2]at e1;have e2:o=some v:=e1;subst e2;exact⟨i,rfl,q2⟩
def dM(env:Env):List (Str×NameKind)->List (Str×Addr)->List (Str×Addr)
 | [],acc=>acc
 |(n,k)::r,acc=>dM env r (if k== .free then(match env.cells.lookup n with|some c=>(n,c)::acc|none=>acc)else acc)
theorem Bl:∀(names:List (Str×NameKind))(acc:List (Str×Addr)),(∀y∈names,y.2= .free->∃c,env.cells.lookup y.1=some c)->
  (forIn names acc λ(p:Str×NameKind)(r:List (Str×Addr))=>if p.2== .free then(do let c<-cellOf env p.1;pure (ForInStep.yield ((p.1,c)::r)))else pure (ForInStep.yield r):Sem (List (Str×Addr)))=pure (dM env names acc)
 | [],acc,_=>rfl
 |(n,k)::r,acc,h=>by
  have hr:=Bl (env:=env) r;rw[List.forIn_cons];unfold dM;by_cases hk:(k==NameKind.free)=true
  .obtain⟨c,hc⟩:=h (n,k) List.mem_cons_self (by simpa using hk)
   simp only[hk,if_true];unfold cellOf;simp only at hc;rw[hc];simp only[pure_bind];exact hr _ λy hy=>h y (ZE _ hy)
  .simp only[hk];simp only[pure_bind,Bool.false_eq_true,if_false];exact hr _ λy hy=>h y (ZE _ hy)
theorem kZ(h:∀y∈scope.names,y.2= .free->∃c,env.cells.lookup y.1=some c):closureFor scope env=pure (dM env scope.names []):=by
 have e:=Bl (env:=env) scope.names [] h;rw[<-e];unfold closureFor;simp only[bind_pure]
theorem oJ:∀{names:List (Str×NameKind)}{acc:List (Str×Addr)}{p:Str×Addr},p∈dM env names acc->p∈acc∨env.cells.lookup p.1=some p.2
 | [],acc,p,h=>.inl h
 |(n,k)::r,acc,p,h=>by
  unfold dM at h
  rcases oJ h with h|h
  .split at h
   .split at h
    .rename_i c hc
     rcases Zi.mp h with e|h
     .subst e;exact .inr hc
     .exact .inl h
    .exact .inl h
   .exact .inl h
  .exact .inr h
theorem sZ:∀{names:List (Str×NameKind)}{acc:List (Str×Addr)},(∀k,(x,k)∈names->k≠ .free)->(dM env names acc).lookup x=acc.lookup x
 | [],acc,_=>rfl
 |(n,k)::r,acc,h=>by
  unfold dM;rw[sZ λk hk=>h k (ZE _ hk)];by_cases hk:(k==NameKind.free)=true
  .rw[if_pos hk];have hne:x≠n:=by
    rintro rfl;exact h k List.mem_cons_self (by simpa using hk)
   split
   .rw[List.lookup_cons];have:(x==n)=false:=by simpa using hne
    rw[this]
   .rfl
  .rw[if_neg hk]
theorem pP(hc:env.cells.lookup x=some c):∀{names:List (Str×NameKind)}{acc:List (Str×Addr)},(x,NameKind.free)∈names∨acc.lookup x=some c->(dM env names acc).lookup x=some c
 | [],acc,h=>by
  rcases h with h|h
  .simp at h
  .exact h
 |(n,k)::r,acc,h=>by
  unfold dM;apply pP hc;by_cases hr:(x,NameKind.free)∈r
  .exact .inl hr
  .right
   by_cases hx:x=n
   .subst hx;by_cases hk:(k==NameKind.free)=true
    .rw[if_pos hk,hc];simp
    .rw[if_neg hk]
     rcases h with h|h
     .rcases Zi.mp h with e|h
      .exfalso;apply hk
       cases e;rfl
      .exact absurd h hr
     .exact h
   .have h':acc.lookup x=some c:=by
     rcases h with h|h
     .rcases Zi.mp h with e|h
      .cases e;exact absurd rfl hx
      .exact absurd h hr
     .exact h
    have hxn:(x==n)=false:=by simpa using hx
    split
    .split
     .rw[List.lookup_cons,hxn];exact h'
     .exact h'
    .exact h'
structure CO(lo:Nat)(h:Heap)(acc:List (Str×Addr)):Prop where
 lt:∀p∈acc,p.2<h.objs.size
 em:∀p∈acc,lo<=p.2->h.IsCell p.2 none
 ap:∀p∈acc,∀q∈acc,p.2=q.2->lo<=p.2->p.1=q.1
theorem CO.go{lo:Nat}:∀(names:List (Str×NameKind))(h:Heap)(acc:List (Str×Addr)),CO lo h acc->lo<=h.objs.size->CO lo (pushCells h names) (cellsFrom h.objs.size names acc)
 | [],h,acc,x,_=>x
 |(n,k)::r,h,acc,x,hl=>by
  unfold pushCells cellsFrom;by_cases hk:(k==NameKind.cell)=true
  .rw[if_pos hk,if_pos hk];have:=CO.go (lo:=lo) r (h.push { cls:=.type "cell",data:=.cell none}) ((n,h.objs.size)::acc) ⟨λp hp=>?_,λp hp hlo=>?_,λp hp q hq e hlo=>?_⟩ (by rw[Heap.size_push];lia)
   .rwa[Heap.size_push]at this
   .rw[Heap.size_push]
    rcases Zi.mp hp with e|hp
    .subst e;exact Nat.lt_succ_self _
    .exact Nat.lt_succ_of_lt (x.lt p hp)
   .rcases Zi.mp hp with e|hp
    .subst e;exact⟨_,Zf _ rfl,rfl⟩
    .exact(x.em p hp hlo).keeps λb o e=>Zb _ e
   .rcases Zi.mp hp with e1|hp<;>rcases Zi.mp hq with e2|hq
    .subst e1;subst e2;rfl
    .subst e1;have e':h.objs.size=q.2:=e;exact absurd (x.lt q hq) (by rw[<-e'];exact Nat.lt_irrefl _)
    .subst e2;have e':p.2=h.objs.size:=e;exact absurd (x.lt p hp) (by rw[e'];exact Nat.lt_irrefl _)
    .exact x.ap p hp q hq e hlo
  .rw[if_neg hk,if_neg hk];exact CO.go r h acc x hl
theorem yP:∀{names:List (Str×NameKind)}{m:Nat}{acc:List (Str×Addr)}{p:Str×Addr},p∈cellsFrom m names acc->p∈acc∨m<=p.2
 | [],m,acc,p,h=>.inl h
 |(n,k)::r,m,acc,p,h=>by
  unfold cellsFrom at h;by_cases hk:(k==NameKind.cell)=true
  .rw[if_pos hk]at h
   rcases yP h with h|h
   .rcases Zi.mp h with e|h
    .subst e;exact .inr (Zg _)
    .exact .inl h
   .exact .inr (by lia)
  .rw[if_neg hk]at h;exact yP h
theorem Eb:∀{names:List (Str×NameKind)}{m:Nat}{acc:List (Str×Addr)},(∀k,(x,k)∈names->k≠ .cell)->(cellsFrom m names acc).lookup x=acc.lookup x
 | [],m,acc,_=>rfl
 |(n,k)::r,m,acc,h=>by
  unfold cellsFrom;by_cases hk:(k==NameKind.cell)=true
  .rw[if_pos hk,Eb λk hk=>h k (ZE _ hk),List.lookup_cons];have hne:x≠n:=by
    rintro rfl;exact h k List.mem_cons_self (by simpa using hk)
   have:(x==n)=false:=by simpa using hne
   rw[this]
  .rw[if_neg hk];exact Eb λk hk=>h k (ZE _ hk)
section
variable {M:Model} {A:Zar} {E:Value->Zsh->Prop} {s:Zsh}
theorem qU{scope:Scope}{globals:Addr}{closure:List (Str×Addr)}{qual:Str}{func:Option Addr}{code:Value}{around:Option Env}{builtins:Addr}{Q:Env->Zsh->Prop}
  (h:Q (newEnv scope s.heap.objs.size globals (cellsFrom (s.heap.objs.size+1) scope.names closure) qual func code around builtins)
   { s with heap:=pushCells (s.heap.push { cls:=.type (if around.isSome then "dict" else "frame"),data:=.dict #[] }) scope.names}):
  wpAny M A (newFunctionEnv scope globals closure [] qual func code around builtins) Q E s:=by
 simp only[newFunctionEnv];refine Zv (wpAny_alloc ?_);refine Zv (wpAny_layCells _ (λname kind cells=>by cases hkc:kind==NameKind.cell<;>simp[hkc]) _ _ _ _ ?_)
 rw[List.forIn_nil];refine Zv (Zx (Zx ?_));have e:(s.heap.push ({ cls:=.type (if around.isSome then "dict" else "frame"),data:=.dict #[] }:Obj)).objs.size=s.heap.objs.size+1:=Heap.size_push ..;rw[<-e]at h;cases around<;>exact h
end
structure fV(X:Cx)(own cap:List Str)(capI:List Nat)(scope:Scope):Prop where
 kind:scope.kind= .function
 nd:(scope.names.map (·.1)).Nodup
 caps:Bf X capI cap
 fre:∀y∈scope.names,y.2= .free->y.1∈cap
 cfr:∀x∈cap,(x,NameKind.free)∈scope.names
theorem vp:∀{names:List (Str×NameKind)},(names.map (·.1)).Nodup->(x,k)∈names->(x,k')∈names->k=k'
 | [],_,h,_=>by simp at h
 |p::r,nd,h1,h2=>by
  rw[Zj,List.nodup_cons]at nd
  rcases Zi.mp h1 with e1|h1<;>rcases Zi.mp h2 with e2|h2
  .rw[<-e2]at e1;exact(Prod.mk.inj e1).2
  .exact absurd (by rw[<-e1];exact Zq.mpr ⟨_,h2,rfl⟩) nd.1
  .exact absurd (by rw[<-e2];exact Zq.mpr ⟨_,h1,rfl⟩) nd.1
  .exact vp nd.2 h1 h2
theorem gC{α:Type}{x:Str}{k:α}:∀{names:List (Str×α)},(names.map (·.1)).Nodup->(x,k)∈names->names.lookup x=some k
 | [],_,h=>by simp at h
 |(n,k')::r,nd,h=>by
  rw[Zj,List.nodup_cons]at nd;rw[List.lookup_cons]
  rcases Zi.mp h with e|hr
  .cases e;simp
  .have hne:x≠n:=by
    intro e;subst e;exact nd.1 (Zq.mpr ⟨_,hr,rfl⟩)
   have:(x==n)=false:=by simpa using hne
   rw[this];exact gC nd.2 hr
theorem ue(h:(x,k)∈(relabel scope env).names):(x,k)∈scope.names∨(k= .cell/\(x,NameKind.free)∈scope.names):=by
 unfold relabel at h;obtain⟨⟨n,k'⟩,hm,e⟩:=Zq.mp h;dsimp only at e;split at e
 .rename_i hc;cases e;have hk:k'=NameKind.free:=by
   simp only[Zo,beq_iff_eq]at hc;exact hc.1.1
  subst hk;exact .inr ⟨rfl,hm⟩
 .cases e;exact .inl hm
theorem zE:(relabel scope env).names.map (·.1)=scope.names.map (·.1):=by
 unfold relabel;rw[List.map_map];apply List.map_congr_left;rintro⟨n,k⟩ _;show(if _ then(n,NameKind.cell)else(n,k)).1=n;split<;>rfl
theorem zb(nd:(scope.names.map (·.1)).Nodup)(h:(x,NameKind.free)∈scope.names):(relabel scope env).names.lookup x=some .cell∨(relabel scope env).names.lookup x=some .free:=by
 have nd':((relabel scope env).names.map (·.1)).Nodup:=by rw[zE];exact nd
 by_cases hc:(NameKind.free==NameKind.free&&env.scope.kind== .function&&env.kindOf x==some .cell)=true
 .left
  refine gC nd' ?_;unfold relabel;refine Zq.mpr ⟨(x,NameKind.free),h,?_⟩;dsimp only;rw[if_pos hc]
 .right
  refine gC nd' ?_;unfold relabel;refine Zq.mpr ⟨(x,NameKind.free),h,?_⟩;dsimp only;rw[if_neg hc]
def gb(X:Cx)(own cap:List Str)(scope:Scope)(cs:List (Str×Addr))(C:Addr)(fp:List Addr)(s2:Zsh)(H2:Hp):Cx where
 prog:=X.prog
 w:=X.w
 K:=X.K
 mg:=X.mg
 base:=X.base
 A:=X.A
 N:=own++cap
 s₀:=s2
 H₀:=H2
 env:=compEnvC scope cs C X.env
 outer:=X.stack
 stack:=X.stack
 ex:=fp
 fn:=λx=>own.contains x
 calm:=X.calm
 pn:=[]
 xe:=λ_ _=>False
def cu(own:List Str)(σ:St)(capI:List Nat):St:=List.replicate own.length none++vo σ capI
section
variable {X:Cx} {pins:List (Addr×Obj)} {σ:St} {H:Hp} {s:Zsh} {own cap:List Str} {capI:List Nat} {scope:Scope}
theorem fV.cells(B:fV X own cap capI scope)(I:Inv X pins σ H s):∀y∈scope.names,y.2= .free->∃c,X.env.cells.lookup y.1=some c:=λy hy e=>by
 have hm:=B.fre y hy e;obtain⟨j,hj⟩:=List.getElem?_of_mem hm;have hlt:j<capI.length:=by rw[B.caps.length];exact(Zh.mp hj).1
 obtain⟨x,e1,_,k⟩:=B.caps.get (j:=j) (i:=capI[j]) (by simp[hlt])
 rw[hj]at e1;cases e1;exact I.ok.has _ k
theorem Inv.comp{fp:List Addr}{h0 h1:Heap}{C:Addr}{tk:Nat}(I:Inv X pins σ H s)(B:fV X own cap capI scope)(hown:∀x∈own,(x,NameKind.free)∉scope.names)(hf:∀b∈fp,mL X pins H b)(ho:∀b∈fp,∃o,s.heap.get? b=some o)
  (hk0:∀b o,s.heap.get? b=some o->h0.get? b=some o) (hsz:s.heap.objs.size<=h0.objs.size) (hC:C=h0.objs.size) (h1e:h1=pushCells (h0.push { cls:=.type "dict",data:=.dict #[] }) scope.names):
  Inv (gb X own cap scope (cellsFrom (C+1) scope.names (dM X.env scope.names [])) C fp s H) [] (cu own σ capI) H { s with heap:=h1,toks:=tk}:=by
 have hCs:s.heap.objs.size<=C:=by rw[hC];exact hsz
 have hpush:(h0.push ({ cls:=.type "dict",data:=.dict #[] }:Obj)).objs.size=C+1:=by rw[hC];exact Heap.size_push ..
 have keep1:∀b o,h0.get? b=some o->h1.get? b=some o:=λb o e=>by rw[h1e];exact pushCells_keeps _ _ _ _ (Zb _ e)
 have keep:∀b o,s.heap.get? b=some o->h1.get? b=some o:=λb o e=>keep1 b o (hk0 b o e);have hCo:h1.get? C=some { cls:=.type "dict",data:=.dict #[] }:=by
  rw[h1e];refine pushCells_keeps _ _ _ _ ?_;rw[hC];exact Zf _ rfl
 have clo_old:∀p∈dM X.env scope.names [],X.env.cells.lookup p.1=some p.2:=λp hp=>(oJ hp).elim (λz=>by simp at z) id
 have old_lt:∀x c,X.env.cells.lookup x=some c->c<s.heap.objs.size:=λx c e=>let⟨v,q⟩:=I.cell x c e;q.lt;have co0:CO (C+1) (h0.push { cls:=.type "dict",data:=.dict #[] }) (dM X.env scope.names []):=by
  refine⟨λp hp=>?_,λp hp hlo=>?_,λp hp q hq e hlo=>?_⟩
  .rw[hpush];exact Nat.lt_succ_of_lt (Zc (old_lt _ _ (clo_old p hp)) hCs)
  .exact absurd (Zc (old_lt _ _ (clo_old p hp)) (Zl hCs (Zl (Nat.le_succ _) hlo))) (Nat.lt_irrefl _)
  .exact absurd (Zc (old_lt _ _ (clo_old p hp)) (Zl hCs (Zl (Nat.le_succ _) hlo))) (Nat.lt_irrefl _)
 have co:=CO.go scope.names _ _ co0 (by rw[hpush];exact Zg _)
 rw[hpush,<-h1e]at co;have csm:∀x c,(cellsFrom (C+1) scope.names (dM X.env scope.names [])).lookup x=some c->(X.env.cells.lookup x=some c/\c<s.heap.objs.size)∨(C+1<=c/\h1.IsCell c none):=λx c e=>by
  have hm:=Zt e
  rcases yP hm with z|z
  .have q:=clo_old _ z;exact .inl ⟨q,old_lt _ _ q⟩
  .exact .inr ⟨z,co.em _ hm z⟩
 have fresh:∀b,s.heap.objs.size<=b->H b=none:=λb hb=>I.hok.fresh hb;have eout:(gb X own cap scope (cellsFrom (C+1) scope.names (dM X.env scope.names [])) C fp s H).fs=frs X.stack:=rfl;refine⟨⟨I.ok.mod,?_,I.ok.glob,I.ok.blt,hCs,?_,?_,?_,I.ok.hd,I.ok.frames,.inl rfl,?_,I.bs,Zl I.ok.bsz I.sz,?_,?_,I.stack,I.stkFree⟩,rfl,I.bare.again,Un.kept keep,?_,?_,fresh C hCs,?_,?_,I.hok.kept keep,?_⟩
 .exact B.kind
 .
  intro x y c e1 e2;have e1':(cellsFrom (C+1) scope.names (dM X.env scope.names [])).lookup x=some c:=e1;have e2':(cellsFrom (C+1) scope.names (dM X.env scope.names [])).lookup y=some c:=e2
  rcases csm x c e1' with⟨z1,l1⟩|⟨z1,_⟩
  .rcases csm y c e2' with⟨z2,_⟩|⟨z2,_⟩
   .exact I.ok.inj x y c z1 z2
   .exact absurd (Zc l1 (Zl hCs (Zl (Nat.le_succ _) z2))) (Nat.lt_irrefl _)
  .exact co.ap _ (Zt e1') _ (Zt e2') rfl z1
 .
  intro x hx;have hx':(relabel scope X.env).names.lookup x=some .cell∨(relabel scope X.env).names.lookup x=some .free:=hx;have hm:(x,NameKind.cell)∈scope.names∨(x,NameKind.free)∈scope.names:=by
   rcases hx' with e|e
   .rcases ue (Zt e)with q|q
    .exact .inl q
    .exact .inr q.2
   .rcases ue (Zt e)with q|q
    .exact .inr q
    .cases q.1
  rcases hm with q|q
  .exact Option.isSome_iff_exists.mp (PySem.W.cellsFrom_some scope.names (C+1) _ (.inl (gC B.nd q)))
  .obtain⟨c,hc⟩:=B.cells I _ q rfl;exact Option.isSome_iff_exists.mp (PySem.W.cellsFrom_some scope.names (C+1) _ (.inr (by rw[pP hc (.inl q)];rfl)))
 .
  intro x c hx e;have e':(cellsFrom (C+1) scope.names (dM X.env scope.names [])).lookup x=some c:=e;have hxo:x∈own:=by simpa[gb]using hx
  rcases yP (Zt e')with z|z
  .exfalso
   have nf:=hown x hxo;have:(dM X.env scope.names []).lookup x=none:=by
    rw[sZ λk hk=>by rintro rfl;exact nf hk];rfl
   have hl:(cellsFrom (C+1) scope.names (dM X.env scope.names [])).lookup x=some c:=e';have q:∀(l:List (Str×Addr)),(x,c)∈l->l.lookup x≠none:=by
    intro l
    induction l with
    |nil=>intro h;simp at h
    |cons p r ih=>
     intro h;obtain⟨n,d⟩:=p;rw[List.lookup_cons];by_cases hn:(x==n)=true
     .rw[hn];simp
     .have hn':(x==n)=false:=by simpa using hn
      rw[hn']
      rcases Zi.mp h with e|h
      .cases e;simp at hn'
      .exact ih h
   exact q _ z this
  .exact Zl hCs (Zl (Nat.le_succ _) z)
 .
  intro b hb;obtain⟨o,hbo⟩:=ho b hb;have hlt:=Ze hbo;refine⟨Zk (Zc hlt hCs),λx c e=>?_⟩
  rcases csm x c e with⟨z,_⟩|⟨z,_⟩
  .exact(hf b hb).2.2.2.2.1 x c z
  .exact Nat.ne_of_gt (Zc hlt (Zl hCs (Zl (Nat.le_succ _) z)))
 .
  intro b o e hb
  rcases(hf b hb).2.2.2.1 with z|z
  .exact I.ok.noex b o e z
  .exact absurd (Zc (Ze e) (Zl I.ok.bsz z)) (Nat.lt_irrefl _)
 .
  intro b hb hz
  rcases Zi.mp (I.stkSub b hz)with z|z
  .exact(hf b hb).2.1 z
  .exact(hf b hb).2.2.1 z
 .
  obtain⟨m,hn,hl⟩:=I.loc;refine⟨λ_=>none,⟨_,#[],0,hCo,rfl,by intro e he;simp at he,λ_=>rfl⟩,λi x v e1 e2 hv=>?_⟩
  have e2':(cu own σ capI)[i]? =some (some v):=e2;have e1':(own++cap)[i]? =some x:=e1;unfold cu at e2';by_cases hi:i<own.length
  .rw[Zs (by simpa using hi),List.getElem?_replicate]at e2'
   split at e2'<;>cases e2'
  .rw[List.getElem?_append_right (by simpa using hi)]at e2'
   rw[List.getElem?_append_right (by simpa using hi)]at e1'
   rw[List.length_replicate]at e2';obtain⟨i0,q1,q2⟩:=wZ e2';obtain⟨y,q3,q4,q5⟩:=B.caps.get q1;rw[e1']at q3;cases q3;have hxf:(x,NameKind.free)∈scope.names:=B.cfr x (List.mem_of_getElem? e1');have vis:Vis X.env.scope x:=by
    rcases q5 with q5|q5
    .exact .inr (.inl q5)
    .exact .inr (.inr q5)
   obtain⟨u,ru,lk⟩:=hl i0 x v q4 q2 vis;refine⟨u,ru,.inr ⟨zb B.nd hxf,?_⟩⟩
   rcases lk with⟨k,_⟩|⟨_,c,ec,hc⟩
   .rcases q5 with q5|q5<;>rw[k]at q5<;>cases q5
   .refine⟨c,?_,hc.keeps keep⟩;show(cellsFrom (C+1) scope.names (dM X.env scope.names [])).lookup x=some c;rw[Eb λk hk=>?_]
    .exact pP ec (.inl hxf)
    .rintro rfl;cases vp B.nd hk hxf
 .
  intro x c e
  rcases csm x c e with⟨z,_⟩|⟨_,z⟩
  .obtain⟨v,q⟩:=I.cell x c z;exact⟨v,q.keeps keep⟩
  .exact⟨none,z⟩
 .
  intro x c e
  rcases csm x c e with⟨z,_⟩|⟨z,_⟩
  .exact I.freeC x c z
  .exact fresh c (Zl hCs (Zl (Nat.le_succ _) z))
 .intro p hp;exact absurd (show p∈([]:List (Addr×Obj))from hp) (by simp)
 .show(cu own σ capI).length=(own++cap).length;unfold cu vo;rw[ZG,ZG,List.length_replicate,Zu,B.caps.length]
end
section
variable {prog:Zpr} {w:World} {A:Zar} {R:Result->Zsh->Prop} {s:Zsh}
theorem yh{E':Value->Zsh->Prop}(I:Nat->Zsh->Prop)
  (hE:∀e s',E' e s'->notedBy (model prog w) A env (λe s'=>R (.error e) s') e s')
  (turn:∀n s,I n s->wpAny (model prog w) A (pyNext it) (λr s₁=>match r with
   |none=>R (.ok .next) s₁
   |some v=>wpAny (model prog w) A (letOwnedTupleGo target it v) (λ_ s₂=>wpAny (model prog w) A (assign target env v) (λ_ s₃=>
    wpAny (model prog w) A (forIn ifs true λc r=>if r=true then do let ok<-isTrue c env (eval c env);pure (ForInStep.yield ok)else pure (ForInStep.yield r)) (λok s₄=>
     if ok=true then wpAny (model prog w) A (eval elt env) (λx s₅=>
      wpAny (model prog w) A (call (.builtin "list.append") [acc,x]) (λ_ s₆=>∃m,m<n/\I m s₆) E' s₅) E' s₄
     else∃m,m<n/\I m s₄) E' s₃) E' s₂) E' s₁) E' s)
  (n:Nat) (h:I n s):
  codeAny (model prog w) A (.compLoop (.ListComp elt [⟨target,iter,ifs,0⟩] scope pos) 0 it acc env) R s:=by
 refine codeAny_loop rfl I (λn s hI=>?_) n h;show wpAny _ A ((compTurn (.ListComp elt [⟨target,iter,ifs,0⟩] scope pos) 0 it acc env).onRaise (λx=>do noteFrame x env;theTreesLotGoes x)) _ _ s
 refine wpAny_noted ?_;rw[compTurn_list];refine Zv (wpAny_standAt (Zv (Zy (turn n s hI) (λr s₁ h₁=>?_) hE)));cases r with
 |none=>exact Zx h₁
 |some v=>
  refine Zv (Zy h₁ (λ_ s₂ h₂=>?_) hE);refine Zv (Zy h₂ (λ_ s₂ h₂=>Zv (Zy h₂ (λok s₃ h₃=>?_) hE)) hE);cases ok with
  |false=>exact Zx ⟨rfl,h₃⟩
  |true=>
   exact Zv (Zv (Zy h₃ (λx s₄ h₄=>Zv (Zy h₄ (λ_ s₅ h₅=>Zx (Zx ⟨rfl,h₅⟩)) hE)) hE))
end
def PIf(X:Cx)(ifs:List Expr)(t:TT):Prop:=
 ∀(pins:List (Addr×Obj))(s:Zsh)(σ:St)(H:Hp)(Q:Bool->Hp->Prop),Inv X pins σ H s->t σ H Q->
  wpAny (model X.prog X.w) X.A (forIn ifs true λc r=>if r=true then do let ok<-isTrue c X.env (eval c X.env);pure (ForInStep.yield ok)else pure (ForInStep.yield r)) (TP X pins σ Q) X.xe s
def tYes:TT:=λ_ H Q=>Q true H
section
variable {X:Cx} {c:Expr} {t:TT}
theorem Sv:PIf X [] tYes:=λ_ _ _ H _ I h=>wpAny_tests_nil ⟨H,I,h⟩
theorem Pb(h:PT X c t):PIf X [c] t:=λpins s σ H Q I hq=>wpAny_tests_one (h pins s σ H Q I hq)
end
def Fits(a b:St):Prop:=b.length=a.length/\∀(i:Nat) v,a[i]? =some (some v)->b[i]? =some (some v)
def tLC(own:List Str)(capI:List Nat)(wi:TI)(g:TG)(tt:TT)(te:TE):TE:=λσ H Q=>wi σ H λJ H1=>∃W:Nat->Nat->List V->Hp->Prop,(∃m,W 0 m [] H1)/\∀i m ys H,W i m ys H->
 (J.stop i H/\∀l,H l=none->Q (.ref l) (upd H l (.lst ys)))∨
 (J.go i H/\ys.length<sizeLine/\∀x H',J.yld i H x H'->g x (cu own σ capI) H' λσ2 H2=>Fits (cu own σ capI) σ2/\tt σ2 H2 λb H3=>
  if b=true then te σ2 H3 (λy H4=>∃m',m'<m/\W (i+1) m' (ys++[y]) H4)else∃m',m'<m/\W (i+1) m' ys H3)
abbrev cF(us:List Value)(k:Nat):Obj:={ cls:=.type "list",data:=.seq us.toArray k}
section
variable {X:Cx} {tg iter elt:Expr} {ifs:List Expr} {wi:TI} {g:TG} {tt:TT} {te:TE} {own cap:List Str} {capI:List Nat} {scope:Scope} {pos:Pos}
theorem Inv.compEnd
  (I2:Inv X pins σ H2 s2) (f2:∀b∈fp,mL X pins H2 b) (hP:X'.prog=X.prog) (hw:X'.w=X.w) (hfs:X'.fs=frs X.stack) (hex:X'.ex=fp) (hs:X'.s₀=s2) (hH:X'.H₀=H2) (hC:X'.env.locals=C)
  (I:Inv X' pins' σ' H s1) (hl:s2.heap.objs.size<=l) (hlC:l≠C) (hCs:s2.heap.objs.size<=C) (ho:s1.heap.get? l=some (cF us k)) (hn:H l=none) (hv:bM ys us) (hz:ys.length<=sizeLine)
  (sb:Heap.SameBut C s1.heap h'):Inv X pins σ (upd H l (.lst ys)) { s1 with heap:=h'}:=by
 subst hs hH hC;have ne2:∀b o,X'.s₀.heap.get? b=some o->b≠X'.env.locals/\b≠l:=λb o e=>⟨Zk (Zc (Ze e) hCs),Zk (Zc (Ze e) hl)⟩;have ub:=I.base;rw[hfs,hex]at ub;have nl:∀b u,H b=some u->b≠l:=λb u e z=>by rw[z,hn]at e;cases e
 have nC:∀b u,H b=some u->b≠X'.env.locals:=λb u e z=>by rw[z,I.free]at e;cases e
 refine I2.call' (ch:=fp) (s':={ s1 with heap:=h'}) I.os ⟨λb o e n hb hx=>?_,λb o e n hb hx=>?_,λb o e n hx=>?_,λb o e hx=>?_,λb xs e=>?_,λb o u e=>?_,λb ps e=>?_⟩ ?_ I.bare λb hb=>?_
 .exact(sb.2 b (ne2 b o e).1).trans (ub.keep b o e n hb hx)
 .obtain⟨sl,q⟩:=ub.slot b o e n hb hx;exact⟨sl,(sb.2 b (ne2 b o e).1).trans q⟩
 .rw[aV (ne2 b o e).2];exact ub.free b o e n hx
 .obtain⟨o',q⟩:=ub.there b o e hx;exact⟨o',(sb.2 b (ne2 b o e).1).trans q⟩
 .have q:=ub.tups b xs e;rw[aV (nl b _ q)];exact q
 .have q:=ub.frzs b o u e;rw[aV (nl b _ q)];exact q
 .obtain⟨more,q⟩:=ub.tbls b ps e;exact⟨more,by rw[aV (nl b _ q)];exact q⟩
 .intro a o e;have hok:=I.hok;rw[hP,hw]at hok;by_cases ha:a=l
  .subst ha;rw[ie]at e;cases e;exact⟨hz,us,k,hv,(sb.2 a hlC).trans ho⟩
  .rw[aV ha]at e;refine(hok a o e).stay (λb u hb q=>(sb.2 b ?_).trans q) (λb q=>by rw[aV (nl b _ q)];exact q) λb xs q=>by rw[aV (nl b _ q)];exact q
   rcases hb with z|z
   .rw[z];exact nC a o e
   .exact nC b _ z
 .obtain⟨q0,q1,q2,q3,q4,q5⟩:=f2 b hb;exact⟨q3.imp id λz=>z,q1,q4,q5⟩
theorem Xl(hc:X.calm=true)(B:fV X own cap capI scope)(hown:∀x∈own,(x,NameKind.free)∉scope.names)(hi:PI X tg iter wi)
  (hg:∀cs C fp s2 H2,PG (gb X own cap scope cs C fp s2 H2) tg g) (ht:∀cs C fp s2 H2,PIf (gb X own cap scope cs C fp s2 H2) ifs tt) (he:∀cs C fp s2 H2,PE (gb X own cap scope cs C fp s2 H2) elt te)
  (hs:∀x,foldedSetIterable iter X.env x=pure x:=by intro _;rfl):PE X (.ListComp elt [⟨tg,iter,ifs,0⟩] scope pos) (tLC own capI wi g tt te):=by
 intro pins s σ H Q I h;rw[eval_ListComp];refine wpAny_comprehension_free (use:=none) (cl:=dM X.env scope.names []) rfl hs (kZ (B.cells I)) B.kind (λy hy e=>gC B.nd (by rw[<-e];exact hy)) ?_
 refine thn (hi pins s σ H _ I h) λv s1 h1=>thn h1 λitv s2 h2=>?_;obtain⟨it,fp,tn,J,H2,e,I2,T,st2,f2,W,⟨m0,w0⟩,turn⟩:=h2;subst e;refine Zz (qU ?_);dsimp only;generalize hl:s2.heap.objs.size=l;generalize hh0:s2.heap.push { cls:=.type "list",dict:=none,data:=.seq ([]:List Value).toArray}=h0;have hsz0:h0.objs.size=l+1:=by rw[<-hh0,Heap.size_push,hl]
 generalize hC:h0.objs.size=C;generalize hh1:pushCells (h0.push { cls:=.type (if(some X.env).isSome=true then "dict" else "frame"),data:=.dict #[] }) scope.names=h1;have hl0:h0.get? l=some (cF [] 0):=by rw[<-hh0,<-hl];exact Zf _ rfl
 have hk0:∀b o,s2.heap.get? b=some o->h0.get? b=some o:=λb o e=>by rw[<-hh0];exact Zb _ e
 have hlC:l≠C:=by rw[<-hC,hsz0];exact Zk (Nat.lt_succ_self _)
 have hls:s2.heap.objs.size<=l:=Nat.le_of_eq hl;have hCs:s2.heap.objs.size<=C:=by rw[<-hC,hsz0,hl];exact Nat.le_succ _
 have ho2:∀b∈fp,∃o,s2.heap.get? b=some o:=λb hb=>let⟨o,e,_⟩:=T.obj 0 _ st2 b hb;⟨o,e⟩;have hfl:∀b∈fp,b≠l/\b≠C:=λb hb=>let⟨o,e⟩:=ho2 b hb;⟨Zk (Zc (Ze e) hls),Zk (Zc (Ze e) hCs)⟩;have hl1:h1.get? l=some (cF [] 0):=by rw[<-hh1];exact pushCells_keeps _ _ _ _ (Zb _ hl0)
 have keep1:∀b o,s2.heap.get? b=some o->h1.get? b=some o:=λb o e=>by rw[<-hh1];exact pushCells_keeps _ _ _ _ (Zb _ (hk0 b o e))
 generalize hcs:cellsFrom (C+1) scope.names (dM X.env scope.names [])=cs;have I0:Inv (gb X own cap scope cs C fp s2 H2) [] (cu own σ capI) H2 { s2 with heap:=h1}:=by
  have q:=I2.comp (tk:=s2.toks) B hown f2 ho2 hk0 (by rw[hsz0,hl];exact Nat.le_succ _) hC.symm hh1.symm
  rw[hcs]at q;exact q
 have henv:(newEnv scope C X.env.globals cs X.env.qual none .none (some X.env) builtinsNs)={ compEnvC scope cs C X.env with scope:=scope}:=rfl
 have henv2:({ newEnv scope C X.env.globals cs X.env.qual none .none (some X.env) builtinsNs with scope:=relabel scope X.env}:Env)=(gb X own cap scope cs C fp s2 H2).env:=rfl
 generalize hX':gb X own cap scope cs C fp s2 H2=X' at I0 henv2;have eP:X'.prog=X.prog:=by rw[<-hX'];rfl
 have eW:X'.w=X.w:=by rw[<-hX'];rfl
 have eK:X'.K=X.K:=by rw[<-hX'];rfl
 have eA:X'.A=X.A:=by rw[<-hX'];rfl
 have eFs:X'.fs=frs X.stack:=by rw[<-hX'];rfl
 have eEx:X'.ex=fp:=by rw[<-hX'];rfl
 have eS:X'.s₀=s2:=by rw[<-hX'];rfl
 have eH:X'.H₀=H2:=by rw[<-hX'];rfl
 have eL:X'.env.locals=C:=by rw[<-hX'];rfl
 have eC:X'.calm=true:=by rw[<-hX'];exact hc
 have eX:X'.xe=λ_ _=>False:=by rw[<-hX'];rfl
 have ePn:X'.pn=[]:=by rw[<-hX'];rfl
 have hg':PG X' tg g:=by rw[<-hX'];exact hg cs C fp s2 H2
 have ht':PIf X' ifs tt:=by rw[<-hX'];exact ht cs C fp s2 H2
 have he':PE X' elt te:=by rw[<-hX'];exact he cs C fp s2 H2
 have stat:∀{H':Hp}{P:List (Addr×Obj)},X'.Ok->(∀b∈fp,H' b=none)->(∀p∈P,p.1=l)->∀b∈fp,mL X' P H' b:=λ{H' P} ok hn hP b hb=>by
  refine⟨hn b hb,?_,?_,.inl (by rw[eEx];exact hb),?_,λp hp=>?_⟩
  .exact(ok.exf b (by rw[eEx];exact hb)).1
  .exact ok.exfs b (by rw[eEx];exact hb)
  .exact(ok.exf b (by rw[eEx];exact hb)).2
  .rw[ePn,List.nil_append]at hp;rw[hP p hp];exact Ne.symm (hfl b hb).1
 have lfs:X'.Ok->l∉X'.fs:=λok hz=>by
  rw[eFs]at hz;exact(Inv.nofs (X:=X) I2 hls) ((Zi.mp (I2.stkSub l hz)).elim (λz=>absurd I2.lt (by rw[<-z,hl];exact Nat.lt_irrefl _)) id)
 have pinL:∀{σ':St}{H':Hp}{s':Zsh}{us:List Value}{k:Nat},Inv X' [] σ' H' s'->s'.heap.get? l=some (cF us k)->H' l=none->Inv X' [(l,cF us k)] σ' H' s':=λ{σ' H' s' us k} I' e n=>
  I'.pins_of λp hp=>by
   obtain rfl:p=(l,cF us k):=by simpa using hp
   exact⟨e,n,by rw[eL];exact hlC,lfs I'.ok,λv z=>by cases z⟩
 have loop:∀s3:Zsh,s3={ s2 with heap:=h1}->codeAny (model X.prog X.w) X.A (.compLoop (.ListComp elt [⟨tg,iter,ifs,0⟩] scope pos) 0 (.ref it) (.ref l) X'.env) (compPost (model X.prog X.w) X.A X.xe none (EP X pins σ Q) (.ref l) C) s3:=by
  rintro s3 rfl;refine yh (E':=λ_ _=>False) (λn s'=>∃i ys us k H',Inv X' [] (cu own σ capI) H' s'/\tn i s'.heap/\(∀b∈fp,H' b=none)/\W i n ys H'/\bM ys us/\s'.heap.get? l=some (cF us k)/\H' l=none/\ys.length<=sizeLine) (λ_ _ z=>z.elim) ?_ m0
   ⟨0,[],[],0,H2,I0,T.keep _ _ _ st2 λb _ o e=>keep1 b o e,λb hb=>(f2 b hb).1,w0,.nil,hl1,I2.hok.fresh hls,Nat.zero_le _⟩
  rintro n s3 ⟨i,ys,us,k,H3,I3,st3,fr3,w3,v3,o3,n3,z3⟩;have I3p:=pinL I3 o3 n3;have P1:∀p∈[(l,cF us k)],p.1=l:=λp hp=>by
   obtain rfl:p=(l,cF us k):=by simpa using hp
   rfl
  rcases turn i n ys H3 w3 with⟨stop,qn⟩|⟨go,hlt,step⟩
  .have q:=T.done X' eP eW eK eC i _ s3 _ H3 (λ_ _=>False) I3p (stat I3.ok fr3 P1) st3 stop;rw[eA]at q;refine Zy q (λr s4 ⟨hr,I4⟩=>?_) λ_ _ z=>z;subst hr;have pl:=I4.pin (l,cF us k) (by simp)
   obtain⟨m4,hn4,_⟩:=I4.loc;rw[eL]at hn4;refine⟨m4,hn4,λh' sb=>⟨.ref l,upd H3 l (.lst ys),?_,rfl,qn l n3⟩⟩;exact I2.compEnd f2 eP eW eFs eEx eS eH eL I4 hls hlC hCs pl.1 n3 v3 z3 sb
  .have q:=T.item X' eP eW eK eC i _ s3 _ H3 (λ_ _=>False) I3p (stat I3.ok fr3 P1) st3 go;rw[eA]at q;refine Zy q (λr s4 ⟨u,hr,h4⟩=>?_) λ_ _ z=>z;subst hr;refine Zy h4 (λ_ s5 ⟨x,H5,I5,r5,y5,st5,fr5⟩=>?_) λ_ _ z=>z;have I5':=I5.pinned (stat I5.ok fr5 P1) (T.obj _ _ st5);have a1:=hg' _ s5 _ H5 x u _ I5' r5 (step x H5 y5);rw[eP,eW,eA,eX]at a1;refine Zy a1 (λ_ s6 ⟨σ6,H6,I6,ft6,q6⟩=>?_) λ_ _ z=>z;have a2:=ht' _ s6 σ6 H6 _ I6 q6;rw[eP,eW,eA,eX]at a2;refine Zy a2 (λok s7 ⟨H7,I7,q7⟩=>?_) λ_ _ z=>z;have back:∀{H8:Hp}{s8:Zsh},Inv X' ([(l,cF us k)]++mD fp s5.heap) σ6 H8 s8->Inv X' [] (cu own σ capI) H8 s8/\tn (i+1) s8.heap/\(∀b∈fp,H8 b=none)/\s8.heap.get? l=some (cF us k)/\H8 l=none:=λ{H8 s8} I8=>by
    have pl:=I8.pin (l,cF us k) (by simp)
    refine⟨(I8.weak ft6.1.symm ft6.2).pins_of λp hp=>absurd hp (by simp),T.keep _ _ _ st5 λb hb o e=>?_,λb hb=>?_,pl.1,pl.2.1⟩
    .exact(I8.pin (b,o) (Zn _ (Zn _ (dg hb e)))).1
    .obtain⟨o,e,d⟩:=T.obj _ _ st5 b hb;exact(I8.pin (b,o) (Zn _ (Zn _ (dg hb e)))).2.1
   cases ok with
   |false=>
    rw[if_neg Zr];rw[if_neg Zr]at q7;obtain⟨m',hm,w7⟩:=q7;obtain⟨I8,st8,fr8,o8,n8⟩:=back I7;exact⟨m',hm,i+1,ys,us,k,H7,I8,st8,fr8,w7,v3,o8,n8,z3⟩
   |true=>
    rw[if_pos rfl];rw[if_pos rfl]at q7;have a3:=he' _ s7 σ6 H7 _ I7 q7;rw[eP,eW,eA,eX]at a3;refine Zy a3 (λyv s8 ⟨y,H8,I8',r8,m',hm,w8⟩=>?_) λ_ _ z=>z;obtain⟨I8,st8,fr8,o8,n8⟩:=back I8';refine append_at (hsz:=by show us.toArray.size<=sizeLine;rw[Zd,<-v3.length];exact z3) o8 λh9 sb9 o9=>?_
    have I9:Inv X' [] (cu own σ capI) H8 { s8 with heap:=h9}:=I8.turned (t':=s8.toks) (λb o hb e=>(sb9.2 b hb).trans e) n8 (by rw[eL];exact hlC) (.inr (by rw[eS];exact hls)) (λx c e=>by
     rintro rfl;obtain⟨v',ho',hd',hd''⟩:=I8.cell x c e;rw[o8]at hd';cases hd';cases hd'') (λp hp=>by rw[ePn]at hp;exact absurd hp (by simp))
    refine⟨m',hm,i+1,ys++[y],us++[yv],k+1,H8,I9,T.keep _ _ _ st8 λb hb o e=>(sb9.2 b (hfl b hb).1).trans e,fr8,w8,v3.append (.cons r8 .nil),?_,n8,?_⟩
    .rw[o9];simp[cF]
    .rw[ZG];exact hlt
 have T0:=T.keep 0 s2.heap h1 st2 λb _ o e=>keep1 b o e;rw[henv2];exact codeAny_compStart_list (loop _ rfl) (T.self X.A 0 _ _ _ T0 (loop _ rfl))
end
def aZ(M:Model)(A:Zar)(c:Code)(t:Sem Fin)(fs:List Frame)(s:Zsh)(Φ:End->Zsh->Prop):Prop:=
 ∀Γ p,Γ.code=c->Γ.Woken A->∃e s',Runs M Γ p t fs s e s'/\Φ e s'
section
variable {M:Model} {A:Zar} {c:Code} {fs:List Frame} {s:Zsh} {Φ:End->Zsh->Prop}
theorem aZ.wrap{α:Type}{m:Sem α}{K:α->Sem Fin}{H:Value->Sem Fin}{gd:Bool->Bool}{lv:List Value->List Value}
  (h:wpAny M (A.over c fs) m (λa s'=>aZ M A c (K a) fs s' Φ) (λx s'=>aZ M A c (H x) fs s' Φ) s):aZ M A c (m.wrap K H gd lv) fs s Φ:=by
 rintro Γ p rfl hΓ;exact runs_wrap_of_wp K H gd lv m (h (Γ.over fs) p (hΓ.over fs)) (λa p' s' h'=>h' Γ p' rfl hΓ) (λx p' s' h'=>h' Γ p' rfl hΓ)
theorem aZ.bindWrap{α β:Type}{m:Sem α}{K:α->Sem β}{K':β->Sem Fin}{H':Value->Sem Fin}{gd:Bool->Bool}{lv:List Value->List Value}
  (h:wpAny M (A.over c fs) m (λa s'=>aZ M A c ((K a).wrap K' H' gd lv) fs s' Φ) (λx s'=>aZ M A c (H' x) fs s' Φ) s):aZ M A c ((m >>= K).wrap K' H' gd lv) fs s Φ:=by
 rw[Sem.bind_eq_wrap',Sem.wrap_wrap];exact aZ.wrap h
theorem aZ.at{p':Pos}{k:Unit->Sem Fin}(h:aZ M A c (k ()) fs s Φ):aZ M A c (.at p' k) fs s Φ:=
 aZ.wrap (m:=standAt p') (K:=k) (H:=.raise) (gd:=id) (lv:=id) (wpAny_standAt h)
theorem aZ.again(hq:c'.quiet=true)(hc:aZ M A c' (M.den c') fs s Φ):aZ M A c (.pure (.again c')) fs s Φ:=by
 rintro Γ p rfl hΓ;obtain⟨e,s',hr,he⟩:=hc (Γ.goto c') p rfl (hΓ.goto c');exact⟨e,s',Runs.head (c₁:=c') (λ_ _ x=>.again hq x) hr,he⟩
theorem aZ.end(r:Result)(h:Φ (.ret r) s):aZ M A c (leafOf r) [] s Φ:=by
 rintro Γ p rfl _;exact⟨.ret r,s,Runs.leaf r,h⟩
theorem aZ.yield(hfs:splitAtGen fs=none)(h:∀p,Φ (.susp v g l k c p fs) s):aZ M A c (.yield v g l k) fs s Φ:=by
 rintro Γ p rfl _;exact⟨_,s,Runs.yield' fs hfs,h p⟩
def Gy(M:Model)(A:Zar)(gs:GenState)(s:Zsh)(Φ:End->Zsh->Prop):Prop:=
 match gs with
 | .fresh c=>aZ M A c (M.den c) [] s Φ
 | .suspended k _ c _ fs _=>aZ M A c (k (.send .none)) fs s Φ
 |_=>False
theorem Pg{E:Value->Zsh->Prop}{g:Nat}{gs:GenState}{l:List Value}{α:Type}{k:GenResult->Sem α}{Q:α->Zsh->Prop}(hg:s.gens[g]? =some gs)
  (hgo:Gy M A gs (s.setGen g .running) Φ) (hq:∀e s₁,Φ e s₁->e.quiet=true) (hΦ:∀e s₁,Φ e s₁->wpAny M A (k e.result) Q E (s₁.setGen g e.genState)):
  wpAny M A (.resume g (.send .none) l k) Q E s:=by
 intro Γ p hΓ;rw[Sem.wp_resume];have hB:∀c,(Γ.wake c p).Woken A:=λc=>hΓ.wake c p;cases gs with
 |fresh c=>
  obtain⟨e₁,s₁,hr,he⟩:=hgo (Γ.wake c p) p rfl (hB c);exact⟨_,_,by unfold Wakes;rw[hg];exact⟨e₁,s₁,hr,hq e₁ s₁ he,rfl,rfl⟩,hΦ e₁ s₁ he Γ p hΓ⟩
 |suspended k₀ l₀ c₀ p₀ fs₀ cl=>
  obtain⟨e₁,s₁,hr,he⟩:=hgo (Γ.wake c₀ p) p₀ rfl (hB c₀);exact⟨_,_,by unfold Wakes;rw[hg];exact⟨e₁,s₁,hr,hq e₁ s₁ he,rfl,rfl⟩,hΦ e₁ s₁ he Γ p hΓ⟩
 |running=>exact hgo.elim
 |finished=>exact hgo.elim
end
section
variable {prog:Zpr} {w:World} {A:Zar} {E:Value->Zsh->Prop} {s:Zsh} {Φ:End->Zsh->Prop}
theorem ni{a:Addr}{g:Nat}{gs:GenState}{Q:Option Value->Zsh->Prop}(hh:A.handled=none)(hl:s.heap.NoLimit)(hroom:A.depth<recursionLimit)
  (hg:s.heap.IsGen a g) (hgs:s.gens[g]? =some gs) (hgo:Gy (model prog w) A.in1 gs (s.setGen g .running) Φ) (hq:∀e s₁,Φ e s₁->e.quiet=true)
  (hΦ:∀e s₁,Φ e s₁->(∃v gd l k c p fs,e= .susp v gd l k c p fs/\Q (some v) (s₁.setGen g e.genState))∨
   (e= .ret (.ok .next)/\∀h',(∀b o,s₁.heap.get? b=some o->h'.get? b=some o)->Q none { s₁.setGen g .finished with heap:=h'})):
  wpAny (model prog w) A (pyNext (.ref a)) Q E s:=by
 unfold pyNext;refine Zv (wpAny_attempt (wpAny_callSpecial?_slot (name:=Str.ofString "__next__") hg.typeIs slot_gen_next
  (wpAny_call_entry slot_gen_next hg.typeIs entry_gen_next ?_ (args_gen_next _))))
 show wpAny _ A.in1 (Builtin.Generator.genWake (.ref a) (.send .none)) _ _ s;unfold Builtin.Generator.genWake;refine Zv (wpAny_holding (wpAny_genNumber hg (Zv (wpAny_genState hgs ?_))));cases gs with
 |running=>exact hgo.elim
 |finished=>exact hgo.elim
 |_=>
  refine Zv (wpAny_roomToWake hl hroom ?_);show wpAny _ A.in1 (.resume g (.send .none) [] _) _ _ s;refine Pg hgs hgo hq λe s₁ he=>?_
  rcases hΦ e s₁ he with⟨v,gd,l,k,c,p,fs,rfl,hQ⟩|⟨rfl,hP⟩
  .exact Zx ⟨v,rfl,Zx hQ⟩
  .show wpAny _ A.in1 (newExc (.type "StopIteration") [] >>= _) _ _ _;refine Zv ?_;simp only[newExc,newTuple];refine Zv (Zz ?_ (by size_fits))
   refine Zv (m:=firstArgMember _ _) (wpAny_of_eq (a:=Value.none) (by first|rfl|(simp only[firstArgMember];rfl)) ?_)
   refine Zz ?_ (by size_fits)
   simp only[raiseNew];refine Zv (Zv (wpAny_handled ?_))
   first|rw[show A.in1.handled=none from hh]|rw[hh]
   refine wpAny_throw ?_;refine Zv (wpAny_isInstance (T:="StopIteration") (b:=true) ⟨_,Zf _ rfl,rfl⟩ isSubtype_stop ?_);exact Zx (hP _ λb o hb=>Zb _ (Zb _ hb))
end
def jr(X:Cx)(AG:Zar)(own cap:List Str)(scope:Scope)(cs:List (Str×Addr))(C:Addr)(code:Value)(fp:List Addr)(s2:Zsh)(H2:Hp):Cx where
 prog:=X.prog
 w:=X.w
 K:=X.K
 mg:=X.mg
 base:=X.base
 A:=AG
 N:=own++cap
 s₀:={ s2 with gens:=s2.gens.push .running}
 H₀:=H2
 env:=genEnv scope cs C code builtinsNs X.env
 outer:=X.stack
 stack:=genEnv scope cs C code builtinsNs X.env::X.stack
 ex:=fp
 fn:=λx=>own.contains x
 calm:=true
 pn:=[]
 xe:=λ_ _=>False
section
variable {X:Cx} {pins:List (Addr×Obj)} {σ:St} {H:Hp} {s:Zsh} {own cap:List Str} {capI:List Nat} {scope:Scope}
theorem Inv.gen{AG:Zar}{fp:List Addr}{h1:Heap}{C:Addr}{tk:Nat}{code:Value}{m:Str->Option Value}(I:Inv X pins σ H s)(B:fV X own cap capI scope)(hown:∀x∈own,(x,NameKind.free)∉scope.names)(hnc:∀y∈scope.names,y.2≠ .cell)
  (hf:∀b∈fp,mL X pins H b) (ho:∀b∈fp,∃o,s.heap.get? b=some o)
  (keep:∀b o,s.heap.get? b=some o->h1.get? b=some o) (hCs:s.heap.objs.size<=C) (hm:h1.Ns C m) (hAf:AG.frames=some (genEnv scope (dM X.env scope.names []) C code builtinsNs X.env::X.stack)) (hAh:AG.handled=none):
  Inv (jr X AG own cap scope (dM X.env scope.names []) C code fp s H) [] (cu own σ capI) H { s with heap:=h1,toks:=tk,gens:=s.gens.push .running}:=by
 have clo_old:∀p∈dM X.env scope.names [],X.env.cells.lookup p.1=some p.2:=λp hp=>(oJ hp).elim (λz=>by simp at z) id
 have old_lt:∀x c,X.env.cells.lookup x=some c->c<s.heap.objs.size:=λx c e=>let⟨v,q⟩:=I.cell x c e;q.lt;have csm:∀x c,(dM X.env scope.names []).lookup x=some c->X.env.cells.lookup x=some c/\c<s.heap.objs.size:=λx c e=>by
  have q:=clo_old _ (Zt e);exact⟨q,old_lt _ _ q⟩
 have fresh:∀b,s.heap.objs.size<=b->H b=none:=λb hb=>I.hok.fresh hb;have brun:AllBare (s.gens.push .running):=AllBare.push I.bare.bare rfl;refine⟨⟨I.ok.mod,?_,I.ok.glob,rfl,hCs,?_,?_,?_,λ_=>hAh,hAf,.inr ⟨rfl,rfl⟩,?_,I.bs,Zl I.ok.bsz I.sz,?_,?_,I.stack,I.stkFree⟩,rfl,GK.refl brun,Un.kept keep,?_,?_,fresh C hCs,?_,?_,I.hok.kept keep,?_⟩
 .exact B.kind
 .intro x y c e1 e2;exact I.ok.inj x y c (csm x c e1).1 (csm y c e2).1
 .intro x hx;have hx':scope.names.lookup x=some .cell∨scope.names.lookup x=some .free:=hx
  rcases hx' with e|e
  .exact absurd rfl (hnc _ (Zt e))
  .have q:=Zt e;obtain⟨c,hc⟩:=B.cells I _ q rfl;exact⟨c,pP hc (.inl q)⟩
 .intro x c hx e
  exfalso
  have hxo:x∈own:=by simpa[jr]using hx
  have nf:=hown x hxo;have q:(dM X.env scope.names []).lookup x=none:=by
   rw[sZ λk hk=>by rintro rfl;exact nf hk];rfl
  have e':(dM X.env scope.names []).lookup x=some c:=e;rw[q]at e';cases e'
 .intro b hb;obtain⟨o,hbo⟩:=ho b hb;have hlt:=Ze hbo;exact⟨Zk (Zc hlt hCs),λx c e=>(hf b hb).2.2.2.2.1 x c (csm x c e).1⟩
 .intro b o e hb
  rcases(hf b hb).2.2.2.1 with z|z
  .exact I.ok.noex b o e z
  .exact absurd (Zc (Ze e) (Zl I.ok.bsz z)) (Nat.lt_irrefl _)
 .intro b hb hz
  rcases Zi.mp (I.stkSub b hz)with z|z
  .exact(hf b hb).2.1 z
  .exact(hf b hb).2.2.1 z
 .obtain⟨m',hn,hl⟩:=I.loc;refine⟨m,hm,λi x v e1 e2 hv=>?_⟩;have e2':(cu own σ capI)[i]? =some (some v):=e2;have e1':(own++cap)[i]? =some x:=e1;unfold cu at e2';by_cases hi:i<own.length
  .rw[Zs (by simpa using hi),List.getElem?_replicate]at e2'
   split at e2'<;>cases e2'
  .rw[List.getElem?_append_right (by simpa using hi)]at e2'
   rw[List.getElem?_append_right (by simpa using hi)]at e1'
   rw[List.length_replicate]at e2';obtain⟨i0,q1,q2⟩:=wZ e2';obtain⟨y,q3,q4,q5⟩:=B.caps.get q1;rw[e1']at q3;cases q3;have hxf:(x,NameKind.free)∈scope.names:=B.cfr x (List.mem_of_getElem? e1');have vis:Vis X.env.scope x:=by
    rcases q5 with q5|q5
    .exact .inr (.inl q5)
    .exact .inr (.inr q5)
   obtain⟨u,ru,lk⟩:=hl i0 x v q4 q2 vis;refine⟨u,ru,.inr ⟨.inr (gC B.nd hxf),?_⟩⟩
   rcases lk with⟨k,_⟩|⟨_,c,ec,hc⟩
   .rcases q5 with q5|q5<;>rw[k]at q5<;>cases q5
   .exact⟨c,pP ec (.inl hxf),hc.keeps keep⟩
 .intro x c e;obtain⟨v,q⟩:=I.cell x c (csm x c e).1;exact⟨v,q.keeps keep⟩
 .intro x c e;exact I.freeC x c (csm x c e).1
 .intro p hp;exact absurd (show p∈([]:List (Addr×Obj))from hp) (by simp)
 .show(cu own σ capI).length=(own++cap).length;unfold cu vo;rw[ZG,ZG,List.length_replicate,Zu,B.caps.length]
end
abbrev HH(elt tg iter:Expr)(scope:Scope)(pos:Pos):Expr:=.GeneratorExp elt [⟨tg,iter,[],0⟩] scope pos
abbrev mF(elt tg iter:Expr)(scope:Scope)(pos:Pos)(it:Addr)(cenv:Env):Code:=.compLoop (HH elt tg iter scope pos) 0 (.ref it) .none cenv
abbrev genS(elt tg iter:Expr)(scope:Scope)(pos:Pos)(it:Addr)(cenv:Env):Code:=.compStart (HH elt tg iter scope pos) 0 (.ref it) .none cenv
section
variable {X':Cx} {A1:Zar} {elt tg iter:Expr} {scope:Scope} {pos:Pos} {it:Addr} {fp:List Addr} {tn:Nat->Heap->Prop} {J:It} {σb:St} {g:TG} {te:TE}
theorem Mx(T:sG X'.prog X'.w X'.K tg J fp it tn)(hA:X'.A=A1.over (mF elt tg iter scope pos it X'.env) [])(hc:X'.calm=true)(hex:X'.ex=fp)(hpn:X'.pn=[])(hco:X'.env.scope.isCoroutine=false)
  (hxe:X'.xe=λ_ _=>False) (hg:PG X' tg g) (he:PE X' elt te) (hP:∀p∈P,p.1∉fp) (I:Inv X' P σb H s) (st:tn i s.heap) (fr:∀b∈fp,H b=none)
  (go:J.go i H) (step:∀x H',J.yld i H x H'->g x σb H' λσ2 H2=>Fits σb σ2/\te σ2 H2 Q):
  aZ (model X'.prog X'.w) A1 (mF elt tg iter scope pos it X'.env) ((model X'.prog X'.w).den (mF elt tg iter scope pos it X'.env)) [] s λe s'=>
   ∃v k p y H',e= .susp v false [] k (mF elt tg iter scope pos it X'.env) p []/\k (.send .none)= .pure (.again (mF elt tg iter scope pos it X'.env))/\cI y v/\Q y H'/\Inv X' P σb H' s'/\tn (i+1) s'.heap/\∀b∈fp,H' b=none:=by
 have stat:∀{H':Hp},X'.Ok->(∀b∈fp,H' b=none)->∀b∈fp,mL X' P H' b:=λ{H'} ok hn b hb=>
  ⟨hn b hb,(ok.exf b (by rw[hex];exact hb)).1,ok.exfs b (by rw[hex];exact hb),.inl (by rw[hex];exact hb),(ok.exf b (by rw[hex];exact hb)).2,λp hp e=>by rw[hpn]at hp;exact hP p hp (e▸hb)⟩
 show aZ _ A1 _ ((compTurn (HH elt tg iter scope pos) 0 (.ref it) .none X'.env).onRaise (leaving X'.env)) [] s _;rw[compTurn_gen,Sem.onRaise_eq_wrap];refine aZ.bindWrap (wpAny_standAt ?_);have q:=T.item X' rfl rfl rfl hc i P s σb H (λ_ _=>False) I (stat I.ok fr) st go;rw[hA]at q;refine aZ.bindWrap (Zy q (λr s1 ⟨u,hr,h1⟩=>?_) λ_ _ z=>z.elim);subst hr;refine aZ.bindWrap (Zy h1 (λ_ s2 ⟨x,H2,I2,r2,y2,st2,fr2⟩=>?_) λ_ _ z=>z.elim);have I2':=I2.pinned (stat I2.ok fr2) (T.obj _ _ st2);have a1:=hg _ s2 σb H2 x u _ I2' r2 (step x H2 y2);rw[hA,hxe]at a1;refine aZ.bindWrap (Zy a1 (λ_ s3 ⟨σ3,H3,I3,ft3,q3⟩=>?_) λ_ _ z=>z.elim);refine aZ.bindWrap (wpAny_tests_nil ?_);simp only[if_true];have hy:∀v,yieldOut X'.env v=yieldValue v:=λv=>by simp only[yieldOut,hco,Bool.false_eq_true,if_false]
 simp only[hy];rw[Sem.bind_eq_wrap',Sem.bind_eq_wrap',Sem.wrap_wrap,Sem.wrap_wrap];have a2:=he _ s3 σ3 H3 _ I3 q3;rw[hA,hxe]at a2;refine aZ.wrap (Zy a2 (λv s4 ⟨y,H4,I4,r4,q4⟩=>?_) λ_ _ z=>z.elim);refine aZ.at (aZ.yield rfl λp=>⟨v,_,p,y,H4,rfl,rfl,r4,q4,(I4.weak ft3.1.symm ft3.2).unpinned,T.keep _ _ _ st2 λb hb o e=>?_,λb hb=>?_⟩)
 .exact(I4.pin (b,o) (Zn _ (Zn _ (dg hb e)))).1
 .obtain⟨o,e,d⟩:=T.obj _ _ st2 b hb;exact(I4.pin (b,o) (Zn _ (Zn _ (dg hb e)))).2.1
theorem Lz(T:sG X'.prog X'.w X'.K tg J fp it tn)(hA:X'.A=A1.over (mF elt tg iter scope pos it X'.env) [])(hc:X'.calm=true)(hex:X'.ex=fp)(hpn:X'.pn=[])(hP:∀p∈P,p.1∉fp)(I:Inv X' P σb H s)(st:tn i s.heap)(fr:∀b∈fp,H b=none)(stop:J.stop i H):
  aZ (model X'.prog X'.w) A1 (mF elt tg iter scope pos it X'.env) ((model X'.prog X'.w).den (mF elt tg iter scope pos it X'.env)) [] s λe s'=>e= .ret (.ok .next)/\Inv X' P σb H s':=by
 have stat:∀b∈fp,mL X' P H b:=λb hb=>
  ⟨fr b hb,(I.ok.exf b (by rw[hex];exact hb)).1,I.ok.exfs b (by rw[hex];exact hb),.inl (by rw[hex];exact hb),(I.ok.exf b (by rw[hex];exact hb)).2,λp hp e=>by rw[hpn]at hp;exact hP p hp (e▸hb)⟩
 show aZ _ A1 _ ((compTurn (HH elt tg iter scope pos) 0 (.ref it) .none X'.env).onRaise (leaving X'.env)) [] s _;rw[compTurn_gen,Sem.onRaise_eq_wrap];refine aZ.bindWrap (wpAny_standAt ?_);have q:=T.done X' rfl rfl rfl hc i P s σb H (λ_ _=>False) I stat st stop;rw[hA]at q;refine aZ.bindWrap (Zy q (λr s1 ⟨hr,I1⟩=>?_) λ_ _ z=>z.elim);subst hr;exact aZ.end (.ok .next) ⟨rfl,I1⟩
theorem xR{A0:Zar}{P:Zpr}{w:World}{K:Zw}{cenv:Env}{Φ:End->Zsh->Prop}{s:Zsh}{i:Nat}(T:sG P w K tg J fp it tn)(st:tn i s.heap)
  (h:aZ (model P w) A0 (mF elt tg iter scope pos it cenv) ((model P w).den (mF elt tg iter scope pos it cenv)) [] s Φ):
  aZ (model P w) A0 (genS elt tg iter scope pos it cenv) ((model P w).den (genS elt tg iter scope pos it cenv)) [] s Φ:=by
 show aZ _ A0 _ ((compStart (HH elt tg iter scope pos) 0 (.ref it) .none cenv).onRaise (leaving cenv)) [] s _;unfold compStart;rw[Sem.onRaise_eq_wrap];show aZ _ A0 _ ((ask >>= _).wrap _ _ _ _) [] s _;refine aZ.bindWrap (wpAny_askSetting ?_);split
 .exact aZ.again rfl h
 .first
   |exact aZ.bindWrap (wpAny_rule (aZ.bindWrap (wpAny_standAt (aZ.bindWrap (T.self _ i s _ _ st (aZ.again rfl h))))))
   |(refine aZ.bindWrap (wpAny_rule ?_);show aZ _ A0 _ ((standAt iter.pos >>= _).wrap _ _ _ _) [] s _;exact aZ.bindWrap (wpAny_standAt (aZ.bindWrap (T.self _ i s _ _ st (aZ.again rfl h)))))
end
structure nO where
 nxt:Nat->Hp->(V->Hp->Prop)->Prop
 fin:Nat->Hp->(Hp->Prop)->Prop
structure tX(X:Cx)(pins:List (Addr×Obj))(σ:St)(A':Zar)(it:Addr)(lo:Nat)(S:nO)(SS:List (Addr×Obj)->Nat->Hp->Zsh->Prop):Prop where
 inv:∀{P i H s},SS P i H s->Inv X (pins++P) σ H s
 next:∀{P i H s Q}(E:Value->Zsh->Prop),SS P i H s->S.nxt i H Q->wpAny (model X.prog X.w) A' (pyNext (.ref it)) (λr s1=>∃u y H',r=some u/\cI y u/\Q y H'/\SS P (i+1) H' s1) E s
 stop:∀{P i H s Q}(E:Value->Zsh->Prop),SS P i H s->S.fin i H Q->wpAny (model X.prog X.w) A' (pyNext (.ref it)) (λr s1=>r=none/\∃H',Q H'/\Inv X (pins++P) σ H' s1) E s
 keep:∀{P i H s h' tk},SS P i H s->(∀b o,s.heap.get? b=some o->h'.get? b=some o)->SS P i H { s with heap:=h',toks:=tk}
 pin:∀{P H s D o},SS P 0 H s->lo<=D->s.heap.get? D=some o->H D=none->(∀v,o.data≠ .cell v)->SS ((D,o)::P) 0 H s
 put:∀{P i H s h' tk D o o'},SS ((D,o)::P) i H s->(∀p∈P,p.1≠D)->(∀b u,b≠D->s.heap.get? b=some u->h'.get? b=some u)->h'.get? D=some o'->(∀v,o'.data≠ .cell v)->SS ((D,o')::P) i H { s with heap:=h',toks:=tk}
theorem tX.mk'{X:Cx}{pins:List (Addr×Obj)}{σ:St}{A':Zar}{it:Addr}{lo:Nat}{S:nO}{SS:List (Addr×Obj)->Nat->Hp->Zsh->Prop}
  (inv:∀{P i H s},SS P i H s->Inv X (pins++P) σ H s) (low:∀{P i H s},SS P i H s->∀p∈P,lo<=p.1)
  (next:∀{P i H s Q}(E:Value->Zsh->Prop),SS P i H s->S.nxt i H Q->wpAny (model X.prog X.w) A' (pyNext (.ref it)) (λr s1=>∃u y H',r=some u/\cI y u/\Q y H'/\SS P (i+1) H' s1) E s)
  (stop:∀{P i H s Q}(E:Value->Zsh->Prop),SS P i H s->S.fin i H Q->wpAny (model X.prog X.w) A' (pyNext (.ref it)) (λr s1=>r=none/\∃H',Q H'/\Inv X (pins++P) σ H' s1) E s)
  (keep:∀{P i H s h' tk},SS P i H s->(∀b o,s.heap.get? b=some o->h'.get? b=some o)->SS P i H { s with heap:=h',toks:=tk})
  (pin:∀{P i H s D o},SS P i H s->lo<=D->s.heap.get? D=some o->H D=none->(∀v,o.data≠ .cell v)->SS ((D,o)::P) i H s)
  (unpin:∀{p P i H s},SS (p::P) i H s->SS P i H s)
  (acc:∀{P i H s h' tk D},SS P i H s->lo<=D->H D=none->(∀p∈P,p.1≠D)->(∀b o,b≠D->s.heap.get? b=some o->h'.get? b=some o)->SS P i H { s with heap:=h',toks:=tk}):tX X pins σ A' it lo S SS:=
 ⟨inv,next,stop,keep,pin,λh hP hk ho hc=>by
  have hD:=low h (_,_) List.mem_cons_self;have hn:=((inv h).pin (_,_) (Zn _ (Zn _ List.mem_cons_self))).2.1;exact pin (acc (unpin h) hD hn hP hk) hD ho hn hc⟩
def Ready(X:Cx)(pins:List (Addr×Obj))(σ:St)(S:nO)(v:Value)(H:Hp)(s:Zsh):Prop:=
 ∀(A':Zar)(E:Value->Zsh->Prop),A'.handled=none->A'.frames=some X.stack->A'.depth<=X.A.depth+1->A'.units<=X.A.units+8->
  wpAny (model X.prog X.w) A' (pyIter v) (λitv s2=>∃it lo SS,itv= .ref it/\tX X pins σ A' it lo S SS/\SS [] 0 H s2/\lo<=s2.heap.objs.size) E s
abbrev wH:=St->Hp->(nO->Hp->Prop)->Prop
inductive StP(X:Cx)(pins:List (Addr×Obj))(σ:St)(R:nO->Hp->Prop)(v:Value)(s1:Zsh):Prop
 |mk (S) (H1):Inv X pins σ H1 s1->Ready X pins σ S v H1 s1->R S H1->StP X pins σ R v s1
def zN(X:Cx)(e:Expr)(ts:wH):Prop:=
 ∀(pins:List (Addr×Obj))(s:Zsh)(σ:St)(H:Hp)(R:nO->Hp->Prop),Inv X pins σ H s->ts σ H R->
  wpAny (model X.prog X.w) X.A (eval e X.env) (StP X pins σ R) X.xe s
def Vo(X:Cx)(pins:List (Addr×Obj))(σ:St)(S:nO)(a:Addr)(H:Hp)(s:Zsh):Prop:=
 ∀(A':Zar),A'.handled=none->A'.frames=some X.stack->A'.depth<=X.A.depth+1->A'.units<=X.A.units+8->
  ∃lo SS,tX X pins σ A' a lo S SS/\SS [] 0 H s/\a<lo/\lo<=s.heap.objs.size/\∀P i H s,SS P i H s->∃g,s.heap.IsGen a g
inductive StG(X:Cx)(pins:List (Addr×Obj))(σ:St)(R:nO->Hp->Prop)(v:Value)(s1:Zsh):Prop
 |mk (a) (S) (H1):v= .ref a->Inv X pins σ H1 s1->Vo X pins σ S a H1 s1->R S H1->StG X pins σ R v s1
def wg(X:Cx)(e:Expr)(ts:wH):Prop:=
 ∀(pins:List (Addr×Obj))(s:Zsh)(σ:St)(H:Hp)(R:nO->Hp->Prop),Inv X pins σ H s->ts σ H R->
  wpAny (model X.prog X.w) X.A (eval e X.env) (StG X pins σ R) X.xe s
theorem Bw(h:wg X e ts):zN X e ts:=by
 intro pins s σ H R I hq;refine thn (h pins s σ H R I hq) λv s1 ⟨a,S,H1,e,I1,rdy,r⟩=>⟨S,H1,I1,?_,r⟩;subst e;intro A' E h1 h2 h3 h4;obtain⟨lo,SS,sm,s0,_,hl,hg⟩:=rdy A' h1 h2 h3 h4;obtain⟨g,ig⟩:=hg _ _ _ _ s0;exact wpAny_pyIter_gen ig ⟨a,lo,SS,rfl,sm,s0,hl⟩
section
variable {X:Cx} {pins:List (Addr×Obj)} {σ:St} {H:Hp} {s:Zsh}
theorem Inv.grown(I:Inv X pins σ H s)(k:∀b o,s.heap.get? b=some o->h'.get? b=some o)(hg:GK s.gens g'):Inv X pins σ H { s with heap:=h',gens:=g',toks:=tk}:=
 I.call (ch:=[]) (g':=g') (t':=tk) (d':=s.drawn) (Un.kept k) (I.hok.kept k) hg λb hb=>absurd hb (by simp)
theorem Inv.more(I:Inv X pins σ H s)(h:∀p∈Q,s.heap.get? p.1=some p.2/\H p.1=none/\p.1≠X.env.locals/\p.1∉X.fs/\∀v,p.2.data≠ .cell v):Inv X (pins++Q) σ H s:=
 I.pins_of λp hp=>(Zm.mp hp).elim (λz=>I.pin p (Zn _ z)) (h p)
theorem Inv.tbl(I:Inv X pins σ H s)(hP:H P=some (.tbl ps))(hm:∃more,ps'=ps++more)(k:∀b o,b≠P->s.heap.get? b=some o->h'.get? b=some o)
  (ho:h'.get? P=some { cls:=.none,data:=.fields ps'}):Inv X pins σ (upd H P (.tbl ps')) { s with heap:=h',toks:=tk}:=by
 have nP:∀b,H b=none->b≠P:=λb e z=>by rw[z,hP]at e;cases e
 refine I.un ⟨λb o e n _ _=>k b o (nP b n) e,λb o e n _ _=>⟨o.slots,k b o (nP b n) e⟩,λb o e n _=>by rw[aV (nP b n)];exact n,λb o e _=>?_,λb xs e=>?_,λb o u e=>?_,λb qs e=>?_⟩ λa o e=>?_
 .by_cases z:b=P
  .subst z;exact⟨_,ho⟩
  .exact⟨o,k b o z e⟩
 .have z:b≠P:=λz=>by rw[z,hP]at e;cases e
  rw[aV z];exact e
 .have z:b≠P:=λz=>by rw[z,hP]at e;cases e
  rw[aV z];exact e
 .by_cases z:b=P
  .subst z;rw[hP]at e;cases e;obtain⟨more,e⟩:=hm;exact⟨more,by rw[ie,e]⟩
  .exact⟨#[],by rw[aV z,e];simp⟩
 .by_cases z:a=P
  .subst z;rw[ie]at e;cases e;exact ho
  .rw[aV z]at e;refine(I.hok a o e).stay (λb u hb q=>k b u ?_ q) (λb q=>?_) λb xs q=>?_
   .rcases hb with r|r
    .rw[r];exact z
    .exactλy=>by rw[y,hP]at r;cases r
   .have y:b≠P:=λy=>by rw[y,hP]at q;cases q
    rw[aV y];exact q
   .have y:b≠P:=λy=>by rw[y,hP]at q;cases q
    rw[aV y];exact q
def Vs(H:Hp)(v:Value):Prop:=∃c o vs u,v= .ref c/\H c=some (.frz o (.own 0))/\o.data= .fields vs/\vs[1]? =some u
def TOk(H:Hp)(ps:Array Value):Prop:=TriplesOk ps.toList/\∀pos v,codeAmong pos ps.toList=some v->Vs H v
theorem TOk.mono(h:TOk H ps)(k:∀c o,H c=some (.frz o (.own 0))->H' c=some (.frz o (.own 0))):TOk H' ps:=
 ⟨h.1,λpos v e=>let⟨c,o,vs,u,e1,e2,e3⟩:=h.2 pos v e;⟨c,o,vs,u,e1,k c o e2,e3⟩⟩
theorem TOk.nil:TOk H #[]:=⟨by unfold TriplesOk;trivial,λpos v e=>by simp[codeAmong]at e⟩
theorem CK:∀(l:List Value),TriplesOk l->codeAmong pos (l++[rawInt a,rawInt b,c])=some v->codeAmong pos l=some v∨v=c:=λl h=>by
 fun_induction TriplesOk l with
 |case1=>
  intro e
  right
  simp only[List.nil_append,rawInt,codeAmong]at e;split at e
  .cases e;rfl
  .cases e
 |case2 line t col u x rest ih=>
  intro e;simp only[List.cons_append,codeAmong]at e ⊢;split at e
  .rename_i hc
   left;rw[if_pos hc];exact e
  .rename_i hc;rw[if_neg hc];exact ih h e
 |case3=>exact h.elim
structure Mh(lo:Nat)(P:Addr)(ps ps':Array Value)(H H':Hp):Prop where
 tab:H' P=some (.tbl ps')
 more:∃more,ps'=ps++more
 ok:TOk H' ps'
 keep:∀b o,b≠P->H b=some o->H' b=some o
 none:∀b,b<lo->H b=none->H' b=none
theorem Inv.reg(I:Inv X pins σ H s)(ho:s.heap.get? c=some o)(hn:H c=none)(hnew:X.s₀.heap.objs.size<=c)(hL:c≠X.env.locals)(hc:∀x d,X.env.cells.lookup x=some d->d≠c)(hp:∀p∈X.pn++pins,p.1≠c):
  Inv X pins σ (upd H c (.frz o (.own 0))) s:=by
 have ne:∀b u,H b=some u->b≠c:=λb u e z=>by rw[z,hn]at e;cases e
 refine⟨I.ok,I.os,I.bare,⟨I.base.keep,I.base.slot,λb ob e n hx=>?_,I.base.there,λb xs e=>?_,λb ob u e=>?_,λb ps e=>?_⟩,I.loc,I.cell,?_,λx d e=>?_,λp hp'=>?_,λa u e=>?_,I.len⟩
 .rw[aV (Zk (Zc (Ze e) hnew))];exact I.base.free b ob e n hx
 .have q:=I.base.tups b xs e;rw[aV (ne _ _ q)];exact q
 .have q:=I.base.frzs b ob u e;rw[aV (ne _ _ q)];exact q
 .obtain⟨more,q⟩:=I.base.tbls b ps e;exact⟨more,by rw[aV (ne _ _ q)];exact q⟩
 .rw[aV (Ne.symm hL)];exact I.free
 .rw[aV (hc x d e)];exact I.freeC x d e
 .obtain⟨a,b,r⟩:=I.pin p hp';exact⟨a,by rw[aV (hp p hp')];exact b,r⟩
 .by_cases z:a=c
  .subst z;rw[ie]at e;cases e;exact⟨ho,o,ho⟩
  .rw[aV z]at e;exact(I.hok a u e).stay (λb v _ q=>q) (λb q=>by rw[aV (ne _ _ q)];exact q) λb xs q=>by rw[aV (ne _ _ q)];exact q
theorem Jh{P c':Addr}{ps vs:Array Value}{u:Value}{oc:Obj}{h':Heap}{tk:Nat}{pos:Pos}{G:Prop}(I:Inv X pins σ H s)(hP:H P=some (.tbl ps))(ht:TOk H ps)(hge:s.heap.objs.size<=c')(hoc:h'.get? c'=some oc)(hdd:oc.data= .fields vs)(hv:vs[1]? =some u)
  (k:∀b o,b≠P->s.heap.get? b=some o->h'.get? b=some o) (ho:h'.get? P=some { cls:=.none,data:=.fields (ps++ #[rawInt pos.line,rawInt pos.col,.ref c']) })
  (h:Mh s.heap.objs.size P ps (ps++ #[rawInt pos.line,rawInt pos.col,.ref c']) H (upd (upd H P (.tbl (ps++ #[rawInt pos.line,rawInt pos.col,.ref c']))) c' (.frz oc (.own 0)))->Inv X pins σ (upd (upd H P (.tbl (ps++ #[rawInt pos.line,rawInt pos.col,.ref c']))) c' (.frz oc (.own 0))) { s with heap:=h',toks:=tk}->G):G:=by
 have lt:=λ{b:Addr}{o:Obj}(e:s.heap.get? b=some o)=>Zc (Ze e) hge;have cP:P≠c':=Zk (lt (I.hok P _ hP));have hn:H c'=none:=I.hok.fresh hge;generalize hps:ps++ #[rawInt pos.line,rawInt pos.col,.ref c']=ps' at *
 have I1:Inv X pins σ (upd H P (.tbl ps')) { s with heap:=h',toks:=tk}:=I.tbl hP ⟨_,hps.symm⟩ k ho
 have I2:Inv X pins σ (upd (upd H P (.tbl ps')) c' (.frz oc (.own 0))) { s with heap:=h',toks:=tk}:=I1.reg hoc (by rw[aV (Ne.symm cP)];exact hn) (Zl I.sz hge) (Nat.ne_of_gt (Zc I.lt hge))
  (λx d e=>by
   obtain⟨v,o,e2,_⟩:=I.cell x d e;exact Zk (lt e2)) λp hp=>Zk (lt (I.pin p hp).1)
 have kp:∀b o,b≠P->H b=some o->upd (upd H P (.tbl ps')) c' (.frz oc (.own 0)) b=some o:=λb o hb e=>by
  have hbc:b≠c':=λz=>by rw[z,hn]at e;cases e
  rw[aV hbc,aV hb];exact e
 refine h ⟨by rw[aV cP,ie],⟨_,hps.symm⟩,⟨?_,λp v e=>?_⟩,kp,λb hb e=>?_⟩ I2
 .rw[<-hps];have hl:(ps++ #[rawInt pos.line,rawInt pos.col,Value.ref c']).toList=ps.toList++[rawInt pos.line,rawInt pos.col,.ref c']:=by simp
  rw[hl];exact TriplesOk_snoc _ _ _ _ ht.1
 .rw[<-hps]at e;have hl:(ps++ #[rawInt pos.line,rawInt pos.col,Value.ref c']).toList=ps.toList++[rawInt pos.line,rawInt pos.col,.ref c']:=by simp
  rw[hl]at e
  rcases CK _ ht.1 e with e|e
  .obtain⟨c,o,ws,w,q1,q2,q3⟩:=ht.2 p v e;exact⟨c,o,ws,w,q1,kp c _ (λz=>by rw[z,hP]at q2;cases q2) q2,q3⟩
  .exact⟨c',oc,vs,u,e,ie,hdd,hv⟩
 .have hbc:b≠c':=Zk (Zc hb hge);have hbP:b≠P:=λz=>by rw[z,hP]at e;cases e
  rw[aV hbc,aV hbP];exact e
theorem TJ{Q:Value->Zsh->Prop}{E:Value->Zsh->Prop}(I:Inv X pins σ H s)(hc:X.env.code= .ref c)(hd:ZB X.base c P)(hP:H P=some (.tbl ps))(ht:TOk H ps)
  (h:∀code s' H' ps',Mh s.heap.objs.size P ps ps' H H'->Inv X pins σ H' s'->s'.gens=s.gens->(∀b o,b≠P->s.heap.get? b=some o->s'.heap.get? b=some o)->Q code s'):
  wpAny (model X.prog X.w) A (genexprCode X.env pos q scope) Q E s:=by
 have hd':ZB s.heap c P:=hd.keeps I.bk;have oP:s.heap.get? P=some (PySem.W.tabObj ps):=I.hok P _ hP;have hok:s.heap.IsCode c P ps:=hd'.code oP ht.1;have htab:s.heap.TableAt c P ps:=hd'.tab oP;cases hnf:codeAmong pos ps.toList with
 |some cv=>
  obtain⟨o,vs,file,tf,flags,tg,inF,text,tt,op,ho,hdd,h11,h2,h7,h9,h10,hop,hpd,htr,hne⟩:=id hok;unfold genexprCode codeAt;rw[hc,if_neg (show¬((Value.ref c==Value.none)=true)from Zr)];refine Zv (wpAny_fieldsOf ho hdd ?_);rw[h11];refine Zv (wpAny_fieldsOf hop hpd ?_);rw[hnf];exact Zx (h cv s H ps ⟨hP,⟨#[],by simp⟩,ht,λ_ _ _ e=>e,λ_ _ e=>e⟩ I rfl λb o _ e=>e)
 |none=>
  refine wpAny_genexprCodeX hc hok htab hnf λc' h' tk hx hge hlt hcode hrec htab' _=>?_;obtain⟨c2,oc,vs,t,e2,hoc,hdd,hv⟩:=hrec;cases e2;exact Jh I hP ht hge hoc hdd hv (λb o hb e=>hx b o hb e) htab'.2 λhG I'=>h (.ref c') _ _ _ hG I' rfl λb o hb e=>hx b o hb e
end
def Kf(J:It)(g:TG)(te:TE)(σb:St):nO where
 nxt:=λi H Q=>J.go i H/\∀x H',J.yld i H x H'->g x σb H' λσ2 H2=>Fits σb σ2/\te σ2 H2 Q
 fin:=λi H Q=>J.stop i H/\Q H
def tGen(own:List Str)(capI:List Nat)(P:Addr)(wi:TI)(g:TG)(te:TE):wH:=λσ H R=>wi σ H λJ H1=>∃ps,H1 P=some (.tbl ps)/\TOk H1 ps/\
 ∀lo H2 ps',Mh lo P ps ps' H1 H2->R (Kf J g te (cu own σ capI)) H2
theorem zK{A:Zar}{elt tg iter:Expr}{scope:Scope}{pos:Pos}{it:Addr}{cenv:Env}{l:List Env}(h:A.frames=some l):(A.over (mF elt tg iter scope pos it cenv) []).frames=some (cenv::l):=by
 unfold Around.over;show pushEnvs (Code.envs (mF elt tg iter scope pos it cenv)) (pushEnvs (envsOf []) A.frames)=_;rw[h];rfl
theorem Il{X:Cx}{A':Zar}{elt tg iter:Expr}{scope:Scope}{pos:Pos}{it:Addr}{cenv:Env}(hh:A'.handled=none)(hd:A'.depth<=X.A.depth+1)(hu:A'.units<=X.A.units+8):
  ∀k,dH (k+1) X.A->dH k (A'.in1.over (mF elt tg iter scope pos it cenv) []):=λk r=>by
 have e1:(A'.in1.over (mF elt tg iter scope pos it cenv) []).depth=A'.depth+1:=rfl;have e2:(A'.in1.over (mF elt tg iter scope pos it cenv) []).units=A'.units+1+3:=rfl;have e3:(A'.in1.over (mF elt tg iter scope pos it cenv) []).handled=A'.handled:=rfl;have:=r.dp;have:=r.un;exact⟨e3.trans hh,by rw[e1];lia,by rw[e2];lia⟩
section
variable {X:Cx} {tg iter elt:Expr} {wi:TI} {g:TG} {te:TE} {own cap:List Str} {capI:List Nat} {scope:Scope} {pos:Pos} {P:Addr} {kr:Nat}
theorem Nb(hc:X.calm=true)(hr:dH kr X.A)(B:fV X own cap capI scope)(hown:∀x∈own,(x,NameKind.free)∉scope.names)(hnc:∀y∈scope.names,y.2≠ .cell)(h0:scope.names.lookup (".0":Str)=some NameKind.local)
  (hco:scope.isCoroutine=false) (htb:∃c,X.env.code= .ref c/\ZB X.base c P) (hi:PI X tg iter wi) (hg:∀AG cs C code fp s2 H2,PG (jr X AG own cap scope cs C code fp s2 H2) tg g)
  (he:∀AG cs C code fp s2 H2,(∀k,dH (k+1) X.A->dH k AG)->PE (jr X AG own cap scope cs C code fp s2 H2) elt te) (hs:∀x,genFold iter X.env x=pure x:=by intro _;rfl):
  wg X (HH elt tg iter scope pos) (tGen own capI P wi g te):=by
 intro pins s σ H R I h;obtain⟨c,hcode,hhd⟩:=htb;refine wpAny_GeneratorExp_make hco (kZ (B.cells I)) hnc h0 B.kind hr.depth ?_ hs;refine thn (hi pins s σ H _ I h) λv s1 h1=>thn h1 λitv s2 h2=>?_;obtain⟨it,fp,tn,J,H2,e,I2,T,st2,f2,ps,hP,htr,hR⟩:=h2;subst e;refine⟨I2.nolimit,TJ I2 hcode hhd hP htr λcode s4 H4 ps' hG I4 hgens hk4=>?_⟩;obtain⟨bm,ob,b1,b2,b3,b4,b5,b6⟩:=I4.mod.bmain;refine wpAny_builtinsFor (bm:=bm) (by rw[I4.ok.glob];exact I4.mod.glob.keeps I4.bk) b1 b2 (I4.bk _ _ b3) b4 b5 b6 ?_
 intro h5 hn5 hs5;generalize hC:s4.heap.objs.size=C at hn5 hs5 ⊢;have hCs:s4.heap.objs.size<=C:=Nat.le_of_eq hC;have hR':=hR _ H4 ps' hG;have k5:∀b o,s4.heap.get? b=some o->h5.get? b=some o:=λb o e=>hs5.extBut b o (Zk (Zc (Ze e) hCs)) (Zb _ e);have sz5:h5.objs.size=C+1:=by rw[hs5.1,Heap.size_push,hC]
 generalize ha:h5.objs.size=a;have hCa:C<a:=by rw[<-ha,sz5];exact Nat.lt_succ_self _
 generalize hgi:s4.gens.size=gi;generalize hgo:({ cls:=.type "generator",data:=.fields #[.int (gi:Int) 0,.str "<genexpr>" (s4.toks+1),.str (X.env.qual++"<genexpr>") (s4.toks+1+1)] }:Obj)=gob;generalize hh6:h5.push gob=h6;have k6:∀b o,h5.get? b=some o->h6.get? b=some o:=λb o e=>by rw[<-hh6];exact Zb _ e
 have k46:∀b o,s4.heap.get? b=some o->h6.get? b=some o:=λb o e=>k6 b o (k5 b o e);have oa6:h6.get? a=some gob:=by rw[<-hh6,<-ha];refine Zf _ ?_;rw[<-hgo];rfl
 have isg:∀{h:Heap},h.get? a=some gob->h.IsGen a gi:=λ{h} e=>⟨gob,.str "<genexpr>" (s4.toks+1),.str (X.env.qual++"<genexpr>") (s4.toks+1+1),e,by rw[<-hgo],by rw[<-hgo],by rw[<-hgo]⟩
 have hfr4:∀b∈fp,H4 b=none:=λb hb=>let⟨o,e,_⟩:=T.obj 0 _ st2 b hb;hG.none b (Ze e) (f2 b hb).1;have f4:∀b∈fp,mL X pins H4 b:=λb hb=>⟨hfr4 b hb,(f2 b hb).2⟩;have hbP:∀b∈fp,b≠P:=λb hb z=>by have n2:=(f2 b hb).1;rw[z,hP]at n2;cases n2
 have o4:∀b∈fp,∃o,s4.heap.get? b=some o:=λb hb=>let⟨o,e,_⟩:=T.obj 0 _ st2 b hb;⟨o,hk4 b o (hbP b hb) e⟩;have st4:tn 0 s4.heap:=T.keep _ _ _ st2 λb hb o e=>hk4 b o (hbP b hb) e;have hfa:∀b∈fp,b≠a/\b≠C:=λb hb=>let⟨o,e⟩:=o4 b hb
  have l:=Zc (Ze e) hCs
  ⟨Zk (Nat.lt_trans l hCa),Zk l⟩
 generalize hcenv:genEnv scope (dM X.env scope.names []) C code builtinsNs X.env=cenv;have gk6:GK s4.gens (s4.gens.push (.fresh (genS elt tg iter scope pos it cenv))):=by
  refine⟨AllBare.push I4.bare.bare rfl,λk x e=>?_⟩;have hlt:k<s4.gens.size:=by
   rcases Nat.lt_or_ge k s4.gens.size with z|z
   .exact z
   .rw[Array.getElem?_eq_none z]at e;cases e
  rw[Array.getElem?_push_lt hlt,<-Array.getElem?_eq_getElem hlt];exact e
 refine⟨a,Kf J g te (cu own σ capI),H4,rfl,I4.grown k46 gk6,?_,hR'⟩;intro A' hAh hAf hAd hAu;have gi6:(s4.gens.push (.fresh (genS elt tg iter scope pos it cenv)))[gi]? =some (.fresh (genS elt tg iter scope pos it cenv)):=by rw[<-hgi];simp
 generalize hX':jr X (A'.in1.over (mF elt tg iter scope pos it cenv) []) own cap scope (dM X.env scope.names []) C code fp s4 H4=X';have eP:X'.prog=X.prog:=by rw[<-hX'];rfl
 have eW:X'.w=X.w:=by rw[<-hX'];rfl
 have eK:X'.K=X.K:=by rw[<-hX'];rfl
 have eFs:X'.fs=frs X.stack:=by rw[<-hX'];rfl
 have eEx:X'.ex=fp:=by rw[<-hX'];rfl
 have eS:X'.s₀={ s4 with gens:=s4.gens.push .running}:=by rw[<-hX'];rfl
 have eH:X'.H₀=H4:=by rw[<-hX'];rfl
 have eL:X'.env.locals=C:=by rw[<-hX'];rfl
 have eC:X'.calm=true:=by rw[<-hX'];rfl
 have eX:X'.xe=λ_ _=>False:=by rw[<-hX'];rfl
 have ePn:X'.pn=[]:=by rw[<-hX'];rfl
 have eE:X'.env=cenv:=by rw[<-hX',<-hcenv];rfl
 have eA:X'.A=A'.in1.over (mF elt tg iter scope pos it X'.env) []:=by rw[eE,<-hX'];rfl
 have eCo:X'.env.scope.isCoroutine=false:=by rw[<-hX'];exact hco
 have hg':PG X' tg g:=by rw[<-hX'];exact hg _ _ _ _ _ _ _
 have he':PE X' elt te:=by rw[<-hX'];exact he _ _ _ _ _ _ _ (Il hAh hAd hAu)
 have T':sG X'.prog X'.w X'.K tg J fp it tn:=by rw[eP,eW,eK];exact T
 have pfp:∀{Q:List (Addr×Obj)},(∀p∈Q,a<p.1)->∀p∈(a,gob)::Q,p.1∉fp:=λ{Q} hQ p hp hb=>by
  obtain⟨o,e⟩:=o4 _ hb;have l:=Zc (Ze e) hCs
  rcases Zi.mp hp with z|z
  .subst z;exact absurd (Nat.lt_trans l hCa) (Nat.lt_irrefl _)
  .exact absurd (Nat.lt_trans (Nat.lt_trans l hCa) (hQ p z)) (Nat.lt_irrefl _)
 have afs:a∉X'.fs:=λhz=>by
  rw[eFs]at hz;have l4:s4.heap.objs.size<=a:=Zl hCs (Nat.le_of_lt hCa)
  rcases Zi.mp (I4.stkSub a hz)with z|z
  .exact absurd I4.lt (by rw[<-z];exact Nat.not_lt.mpr l4)
  .exact I4.nofs l4 z
 have setg:∀(s:Zsh)(x:GenState),(s.setGen gi x).gens=s.gens.setIfInBounds gi x:=λs x=>rfl;have hSS:∀{Q:List (Addr×Obj)}{i:Nat}{H:Hp}{s:Zsh},(∀p∈Q,a<p.1)->Inv X' ((a,gob)::Q) (cu own σ capI) H s->s.heap.get? a=some gob/\s.gens[gi]? =some .running/\
   ∀(x:GenState)(h':Heap)(tk:Nat),x.bare=true->(∀b o,s.heap.get? b=some o->h'.get? b=some o)->Inv X (pins++Q) σ H { s.setGen gi x with heap:=h',toks:=tk}:=λ{Q i H s} hQ I'=>by
  have pa:=(I'.pin (a,gob) (by simp)).1
  have gr:s.gens[gi]? =some .running:=I'.bare.kept gi .running (by rw[eS,<-hgi];simp)
  refine⟨pa,gr,λx h' tk hx hk=>?_⟩;have ub:=I'.base;rw[eFs,eEx,eS,eH]at ub;have hok:=I'.hok;rw[eP,eW]at hok;refine Inv.more ?_ λp hp=>by
   have q:=I'.pin p (by simp[hp])
   have l4:s4.heap.objs.size<=p.1:=Zl hCs (Nat.le_of_lt (Nat.lt_trans hCa (hQ p hp)));exact⟨hk _ _ q.1,q.2.1,λz=>absurd I4.lt (by rw[<-z];exact Nat.not_lt.mpr l4),I4.nofs l4,q.2.2.2.2⟩
  refine I4.call' (ch:=fp) (s':={ s.setGen gi x with heap:=h',toks:=tk}) (by have:=I'.os;rw[eS]at this;exact this)
   ⟨λb o e n hb hx'=>hk b o (ub.keep b o e n hb hx'),λb o e n hb hx'=>let⟨sl,q⟩:=ub.slot b o e n hb hx';⟨sl,hk b _ q⟩,ub.free,λb o e hx'=>let⟨o',q⟩:=ub.there b o e hx';⟨o',hk b o' q⟩,ub.tups,ub.frzs,ub.tbls⟩
   (hok.kept hk) ⟨λy hy=>?_,λk y e=>?_⟩ λb hb=>?_
  .have hy':y∈s.gens.setIfInBounds gi x:=hy
   rcases Array.mem_or_eq_of_mem_setIfInBounds hy' with z|z
   .exact I'.bare.bare y z
   .rw[z];exact hx
  .have hlt:k<gi:=by
    rw[<-hgi]
    rcases Nat.lt_or_ge k s4.gens.size with z|z
    .exact z
    .rw[Array.getElem?_eq_none z]at e;cases e
   have q:=I'.bare.kept k y (by rw[eS];show(s4.gens.push .running)[k]? =some y;rw[Array.getElem?_push_lt (by rw[hgi];exact hlt),<-Array.getElem?_eq_getElem (by rw[hgi];exact hlt)];exact e)
   show(s.gens.setIfInBounds gi x)[k]? =some y;rw[Array.getElem?_setIfInBounds_ne (Nat.ne_of_gt hlt)];exact q
  .obtain⟨q0,q1,q2,q3,q4,q5⟩:=f4 b hb;exact⟨q3,q1,q4,q5⟩
 refine⟨a+1,λQ i H s=>(∀p∈Q,a<p.1)/\Inv X (pins++Q) σ H s/\(∃gs,s.gens[gi]? =some gs/\gs.bare=true/\(gs= .fresh (genS elt tg iter scope pos it X'.env)∨∃k l p cl,gs= .suspended k l (mF elt tg iter scope pos it X'.env) p [] cl/\k (.send .none)= .pure (.again (mF elt tg iter scope pos it X'.env))))/\
   Inv X' ((a,gob)::Q) (cu own σ capI) H (s.setGen gi .running)/\tn i s.heap/\∀b∈fp,H b=none,tX.mk' (λst=>st.2.1) (λst=>st.1) ?_ ?_ ?_ ?_ ?_ ?_,?_,Nat.lt_succ_self _,?_,λQ i H s st=>⟨gi,isg (hSS (i:=i) st.1 st.2.2.2.1).1⟩⟩
 .
  rintro PP i H s Q E ⟨hQ,I1,⟨gs,hgs,hb,hgs'⟩,Ib,st,fr⟩ ⟨go,step⟩;have tr:=Mx (A1:=A'.in1) (elt:=elt) (tg:=tg) (iter:=iter) (scope:=scope) (pos:=pos) T' eA eC eEx ePn eCo eX hg' he' (pfp hQ) Ib st fr go step;have oa:=(hSS (i:=i) hQ Ib).1;rw[eP,eW]at tr;refine ni hAh I1.nolimit (by have:=hr.dp;lia) (isg oa) hgs (Φ:=λe s'=>∃v k p y H',e= .susp v false [] k (mF elt tg iter scope pos it X'.env) p []/\k (.send .none)= .pure (.again (mF elt tg iter scope pos it X'.env))/\cI y v/\Q y H'/\Inv X' ((a,gob)::PP) (cu own σ capI) H' s'/\tn (i+1) s'.heap/\∀b∈fp,H' b=none) ?_ ?_ ?_
  .rcases hgs' with e|⟨k,l,p,cl,e,ek⟩
   .subst e;exact xR (i:=i) T st tr
   .subst e;show aZ _ _ _ (k (.send .none)) [] _ _;rw[ek];exact aZ.again rfl tr
  .rintro e s' ⟨v,k,p,y,H',rfl,_⟩;rfl
  .rintro e s' ⟨v,k,p,y,H',rfl,ek,ry,qy,I',st',fr'⟩
   left
   refine⟨v,false,[],k,_,p,[],rfl,v,y,H',rfl,ry,qy,?_⟩;obtain⟨oa',gr',mk⟩:=hSS (i:=i) hQ I';have e1:((s'.setGen gi (End.susp v false [] k (mF elt tg iter scope pos it X'.env) p []).genState).setGen gi .running)=s':=by
    have hl:gi<s'.gens.size:=by
     rcases Nat.lt_or_ge gi s'.gens.size with z|z
     .exact z
     .rw[Array.getElem?_eq_none z]at gr';cases gr'
    obtain⟨hh,gg,dd,tt,oo⟩:=s';show(Shared.mk hh ((gg.setIfInBounds gi _).setIfInBounds gi .running) dd tt oo)=_;congr 1
    apply Array.ext_getElem?;intro j;by_cases hj:gi=j
    .subst hj;have gr'':gg[gi]? =some .running:=gr';have hl':gi<gg.size:=hl;rw[gr''];simp[hl']
    .simp[hj]
   refine⟨hQ,mk _ s'.heap s'.toks rfl λb o e=>e,⟨_,setGen_self gr',rfl,.inr ⟨k,[],p,_,rfl,ek⟩⟩,by rw[e1];exact I',st',fr'⟩
 .
  rintro PP i H s Q E ⟨hQ,I1,⟨gs,hgs,hb,hgs'⟩,Ib,st,fr⟩ ⟨hfin,hq⟩;have tr:=Lz (A1:=A'.in1) (elt:=elt) (tg:=tg) (iter:=iter) (scope:=scope) (pos:=pos) T' eA eC eEx ePn (pfp hQ) Ib st fr hfin;have oa:=(hSS (i:=i) hQ Ib).1;rw[eP,eW]at tr;refine ni hAh I1.nolimit (by have:=hr.dp;lia) (isg oa) hgs (Φ:=λe s'=>e= .ret (.ok .next)/\Inv X' ((a,gob)::PP) (cu own σ capI) H s') ?_ ?_ ?_
  .rcases hgs' with e|⟨k,l,p,cl,e,ek⟩
   .subst e;exact xR (i:=i) T st tr
   .subst e;show aZ _ _ _ (k (.send .none)) [] _ _;rw[ek];exact aZ.again rfl tr
  .rintro e s' ⟨rfl,_⟩;rfl
  .rintro e s' ⟨rfl,I'⟩
   right
   obtain⟨oa',gr',mk⟩:=hSS (i:=i) hQ I';exact⟨rfl,λh' hk=>⟨rfl,H,hq,mk .finished h' s'.toks rfl hk⟩⟩
 .
  rintro PP i H s h' tk ⟨hQ,I1,hgs,Ib,st,fr⟩ hk;exact⟨hQ,I1.kept hk,hgs,Ib.kept (s:=s.setGen gi .running) hk,T.keep _ _ _ st λb _ o e=>hk b o e,fr⟩
 .
  rintro PP i H s D o ⟨hQ,I1,hgs,Ib,st,fr⟩ hD ho hn hcell;have hDa:a<D:=hD;have hD4:s4.heap.objs.size<=D:=Nat.le_of_lt (Nat.lt_of_le_of_lt hCs (Nat.lt_trans hCa hDa));refine⟨λp hp=>?_,?_,hgs,?_,st,fr⟩
  .rcases Zi.mp hp with z|z
   .subst z;exact hDa
   .exact hQ p z
  .refine I1.pins_of λp hp=>?_
   rcases Zm.mp hp with z|z
   .exact I1.pin p (by simp[z])
   .rcases Zi.mp z with z|z
    .subst z;exact⟨ho,hn,λz=>absurd I4.lt (by rw[<-z];exact Nat.not_lt.mpr hD4),I4.nofs hD4,hcell⟩
    .exact I1.pin p (by simp[z])
  .refine Ib.pins_of λp hp=>?_
   rcases Zi.mp hp with z|z
   .exact Ib.pin p (by simp[z])
   .rcases Zi.mp z with z|z
    .subst z;refine⟨ho,hn,by rw[eL];exact Nat.ne_of_gt (Nat.lt_trans hCa hDa),λhz=>?_,hcell⟩
     rw[eFs]at hz
     rcases Zi.mp (I4.stkSub D hz)with z|z
     .exact absurd I4.lt (by rw[<-z];exact Nat.not_lt.mpr hD4)
     .exact I4.nofs hD4 z
    .exact Ib.pin p (by simp[z])
 .
  rintro p PP i H s ⟨hQ,I1,hgs,Ib,st,fr⟩;exact⟨λq hq=>hQ q (ZE _ hq),I1.pins_of λq hq=>I1.pin q (by rcases Zm.mp hq with z|z<;>simp[z]),hgs,Ib.pins_of λq hq=>Ib.pin q (by rcases Zi.mp hq with z|z<;>simp[z]),st,fr⟩
 .
  rintro PP i H s h' tk D ⟨hQ,I1,hgs,Ib,st,fr⟩ hD hn hPD hk;have hDa:a<D:=hD;have hDC:C<D:=Nat.lt_trans hCa hDa;have hD4:s4.heap.objs.size<=D:=Nat.le_of_lt (Nat.lt_of_le_of_lt hCs hDC);have l4:∀b,b<s4.heap.objs.size->b≠D:=λb hb=>Zk (Zc hb hD4);have cl4:∀x c,X.env.cells.lookup x=some c->c≠D:=λx c e=>let⟨v,q⟩:=I4.cell x c e;l4 c q.lt;refine⟨hQ,I1.turned hk hn (Ne.symm (l4 _ I4.lt)) (.inr (Zl I4.sz hD4)) cl4 (λp hp=>?_),hgs,Ib.turned (s:=s.setGen gi .running) hk hn (by rw[eL];exact Nat.ne_of_gt hDC) (.inr (by rw[eS];exact hD4)) (λx c e=>?_) (λp hp=>?_),T.keep _ _ _ st λb hb o e=>hk b o ?_ e,fr⟩
  .rcases Zm.mp hp with z|z
   .exact l4 _ (Ze (I4.pin p (by simp[z])).1)
   .rcases Zm.mp z with z|z
    .exact l4 _ (Ze (I4.pin p (by simp[z])).1)
    .exact hPD p z
  .obtain⟨v,q⟩:=Ib.cell x c e;have e':(dM X.env scope.names []).lookup x=some c:=by rw[<-hX']at e;exact e
   exact cl4 x c ((oJ (Zt e')).elim (λz=>by simp at z) id)
  .rw[ePn,List.nil_append]at hp
   rcases Zi.mp hp with z|z
   .subst z;exact Zk hDa
   .exact hPD p z
  .obtain⟨o',e'⟩:=o4 b hb;exact l4 b (Ze e')
 .
  have Ib0:Inv X' [] (cu own σ capI) H4 { s4 with heap:=h6,toks:=s4.toks+1+1+1,gens:=s4.gens.push .running}:=by
   rw[<-hX'];refine I4.gen B hown hnc f4 o4 k46 hCs (hn5.at' λo e=>k6 _ o e) ?_ hAh;rw[hcenv];exact zK hAf
  refine⟨λp hp=>absurd hp (by simp),by rw[List.append_nil];exact(I4.grown k46 gk6:Inv X pins σ H4 _),⟨_,gi6,rfl,.inl (by rw[eE])⟩,?_,T.keep _ _ _ st4 λb _ o e=>k46 b o e,hfr4⟩
  have e1:(Shared.setGen { s4 with gens:=s4.gens.push (.fresh (genS elt tg iter scope pos it cenv)),toks:=s4.toks+1+1+1,heap:=h6} gi .running)={ s4 with heap:=h6,toks:=s4.toks+1+1+1,gens:=s4.gens.push .running}:=by
   show Shared.mk _ ((s4.gens.push _).setIfInBounds gi .running) _ _ _=_;congr 1
   rw[<-hgi];apply Array.ext_getElem?;intro j;by_cases hj:s4.gens.size=j
   .subst hj;simp
   .simp[hj,Array.getElem?_push,Ne.symm hj]
  rw[e1];exact Ib0.pins_of λp hp=>by
   obtain rfl:p=(a,gob):=by simpa using hp
   refine⟨oa6,?_,by rw[eL];exact Nat.ne_of_gt hCa,afs,λv z=>?_⟩
   .exact I4.hok.fresh (Zl hCs (Nat.le_of_lt hCa))
   .rw[<-hgo]at z;cases z
 .show a+1<=h6.objs.size;rw[<-hh6,Heap.size_push,ha];exact Zg _
end
section
variable {M:Model} {A:Zar} {c:Code} {fs:List Frame} {s:Zsh} {Φ:End->Zsh->Prop}
theorem aZ.call(hc:∀p,aZ M A c' (M.den c') (.ret k h g l c p []::fs) s Φ):aZ M A c (.call c' h g l k) fs s Φ:=by
 rintro Γ p rfl hΓ;obtain⟨e,s',hr,he⟩:=hc p (Γ.goto c') p rfl (hΓ.goto c');exact⟨e,s',runs_call_seg hr,he⟩
theorem aZ.pop(r:Result)(hk:aZ M A c₁ (k r) fs s Φ):aZ M A c (leafOf r) (.ret k h g l c₁ p₁ kp::fs) s Φ:=by
 rintro Γ p rfl hΓ;obtain⟨e,s',hr,he⟩:=hk (Γ.goto c₁) p₁ rfl (hΓ.goto c₁);exact⟨e,s',Runs.pop r hr,he⟩
end
abbrev ge2(elt t1 i1 t2 i2:Expr)(f1 f2:List Expr)(scope:Scope)(pos:Pos):Expr:=.GeneratorExp elt [⟨t1,i1,f1,0⟩,⟨t2,i2,f2,0⟩] scope pos
section
variable {elt t1 i1 t2 i2:Expr} {f1 f2:List Expr} {scope:Scope} {pos:Pos} {it acc:Value} {env:Env}
theorem Dp:compTurn (ge2 elt t1 i1 t2 i2 f1 f2 scope pos) 0 it acc env=(do
   standAt i1.pos
   match<-pyNext it with
   |none=>pure (.done .next)
   |some v=>
    letOwnedTupleGo t1 it v
    assign t1 env v
    let mut ok:=true
    for c in f1 do
     if ok then ok<-isTrue c env (eval c env)
    if ok then
     let x<-eval i2 env
     standAt i2.pos
     let x<-foldedSetIterable i2 env x
     let _<-runOwn (.compStart (ge2 elt t1 i1 t2 i2 f1 f2 scope pos) 1 (<-holding [x] (pyIter x)) acc env) env
     again (.compLoop (ge2 elt t1 i1 t2 i2 f1 f2 scope pos) 0 it acc env)
    else again (.compLoop (ge2 elt t1 i1 t2 i2 f1 f2 scope pos) 0 it acc env)):=by rfl
theorem Ed:compTurn (ge2 elt t1 i1 t2 i2 f1 f2 scope pos) 1 it acc env=(do
   standAt i2.pos
   match<-pyNext it with
   |none=>pure (.done .next)
   |some v=>
    letOwnedTupleGo t2 it v
    assign t2 env v
    let mut ok:=true
    for c in f2 do
     if ok then ok<-isTrue c env (eval c env)
    if ok then
     (do let v<-eval elt env;standAt elt.pos;let _<-yieldOut env v)
    again (.compLoop (ge2 elt t1 i1 t2 i2 f1 f2 scope pos) 1 it acc env)):=by rfl
end
abbrev ju(elt t1 i1 t2 i2:Expr)(f1 f2:List Expr)(scope:Scope)(pos:Pos)(d:Nat)(it:Addr)(cenv:Env):Code:=.compLoop (ge2 elt t1 i1 t2 i2 f1 f2 scope pos) d (.ref it) .none cenv
abbrev BP(elt t1 i1 t2 i2:Expr)(f1 f2:List Expr)(scope:Scope)(pos:Pos)(d:Nat)(it:Addr)(cenv:Env):Code:=.compStart (ge2 elt t1 i1 t2 i2 f1 f2 scope pos) d (.ref it) .none cenv
def Ec(F:Frame)(c:Code):Prop:=∃k l p kp,F= .ret k none false l c p kp/\k (.ok .next)= .pure (.again c)
section
variable {elt t1 i1 t2 i2:Expr} {f1 f2:List Expr} {scope:Scope} {pos:Pos}
theorem Od{A:Zar}{F:Frame}{it1 it2:Addr}{cenv:Env}(h:Ec F (ju elt t1 i1 t2 i2 f1 f2 scope pos 0 it1 cenv)):
  A.over (ju elt t1 i1 t2 i2 f1 f2 scope pos 1 it2 cenv) [F]=A.over (ju elt t1 i1 t2 i2 f1 f2 scope pos 0 it1 cenv) []:=by
 obtain⟨k,l,p,kp,rfl,_⟩:=h;rfl
end
structure Two(J1:It)(g1 g2:TG)(tt1 tt2:TT)(wi2:TI)(te:TE)(σb:St)(Y:V->Nat->St->It->Nat->Hp->Prop)(E:Hp->Prop)(O:Nat->Nat->Hp->Prop)(N:Nat->St->It->Nat->Nat->Hp->Prop):Prop where
 out:∀i m H,O i m H->(J1.stop i H/\E H)∨(J1.go i H/\∀x H',J1.yld i H x H'->g1 x σb H' λσ1 H2=>Fits σb σ1/\tt1 σ1 H2 λb H3=>
  if b=true then wi2 σ1 H3 λJ2 H4=>∃m',m'<m/\N (i+1) σ1 J2 0 m' H4 else∃m',m'<m/\O (i+1) m' H3)
 inn:∀i σ1 J2 j m H,N i σ1 J2 j m H->(J2.stop j H/\∃m',m'<m/\O i m' H)∨(J2.go j H/\∀x H',J2.yld j H x H'->g2 x σ1 H' λσ2 H2=>Fits σ1 σ2/\tt2 σ2 H2 λb H3=>
  if b=true then te σ2 H3 λy H4=>Y y i σ1 J2 (j+1) H4 else∃m',m'<m/\N i σ1 J2 (j+1) m' H3)
def HR(X:Cx)(t2:Expr)(P:List (Addr×Obj))(fp:List Addr)(tn:Nat->Heap->Prop)(σb:St)(i:Nat)(σ1:St)(J2:It)(j:Nat)(it2:Addr)(H:Hp)(s:Zsh):Prop:=
 ∃fp2 tn2,sG X.prog X.w X.K t2 J2 fp2 it2 tn2/\Inv X P σ1 H s/\Fits σb σ1/\tn i s.heap/\(∀b∈fp,H b=none)/\tn2 j s.heap/\(∀b∈fp2,mL X P H b)/\∀b∈fp2,b∉fp
section
variable {X:Cx} {A1:Zar} {elt t1 i1 t2 i2:Expr} {f1 f2:List Expr} {scope:Scope} {pos:Pos} {it:Addr} {fp:List Addr} {tn:Nat->Heap->Prop} {J1:It} {σb:St} {g1 g2:TG} {tt1 tt2:TT} {wi2:TI} {te:TE}
def GC(X:Cx)(elt t1 i1 t2 i2:Expr)(f1 f2:List Expr)(scope:Scope)(pos:Pos)(it:Addr)(P:List (Addr×Obj))(fp:List Addr)(tn:Nat->Heap->Prop)(σb:St)(Y:V->Nat->St->It->Nat->Hp->Prop)(E:Hp->Prop)(e:End)(s':Zsh):Prop:=
 (∃v k p y i σ1 J2 j it2 F H',e= .susp v false [] k (ju elt t1 i1 t2 i2 f1 f2 scope pos 1 it2 X.env) p [F]/\k (.send .none)= .pure (.again (ju elt t1 i1 t2 i2 f1 f2 scope pos 1 it2 X.env))/\
  Ec F (ju elt t1 i1 t2 i2 f1 f2 scope pos 0 it X.env)/\cI y v/\Y y i σ1 J2 j H'/\HR X t2 P fp tn σb i σ1 J2 j it2 H' s')∨
 (e= .ret (.ok .next)/\∃H',Inv X P σb H' s'/\E H')
theorem Ge(T:sG X.prog X.w X.K t1 J1 fp it tn)(hA:X.A=A1.over (ju elt t1 i1 t2 i2 f1 f2 scope pos 0 it X.env) [])(hc:X.calm=true)(hpn:X.pn=[])(hco:X.env.scope.isCoroutine=false)
  (hxe:X.xe=λ_ _=>False) (hg1:PG X t1 g1) (ht1:PIf X f1 tt1) (hi2:PI X t2 i2 wi2) (hg2:PG X t2 g2) (ht2:PIf X f2 tt2) (he:PE X elt te) (hs2:∀x,foldedSetIterable i2 X.env x=pure x)
  {P:List (Addr×Obj)} (hst:∀b∈fp,b≠X.env.locals/\b∉X.fs/\(b∈X.ex∨X.s₀.heap.objs.size<=b)/\(∀x c,X.env.cells.lookup x=some c->c≠b)) (hP:∀p∈P,p.1∉fp)
  {Y:V->Nat->St->It->Nat->Hp->Prop} {E:Hp->Prop} {O:Nat->Nat->Hp->Prop} {N:Nat->St->It->Nat->Nat->Hp->Prop} (R:Two J1 g1 g2 tt1 tt2 wi2 te σb Y E O N):∀m,
  (∀i H s,O i m H->Inv X P σb H s->tn i s.heap->(∀b∈fp,H b=none)->aZ (model X.prog X.w) A1 (ju elt t1 i1 t2 i2 f1 f2 scope pos 0 it X.env) ((model X.prog X.w).den (ju elt t1 i1 t2 i2 f1 f2 scope pos 0 it X.env)) [] s (GC X elt t1 i1 t2 i2 f1 f2 scope pos it P fp tn σb Y E))/\
  (∀i σ1 J2 j it2 F H s,N i σ1 J2 j m H->HR X t2 P fp tn σb i σ1 J2 j it2 H s->Ec F (ju elt t1 i1 t2 i2 f1 f2 scope pos 0 it X.env)->
   aZ (model X.prog X.w) A1 (ju elt t1 i1 t2 i2 f1 f2 scope pos 1 it2 X.env) ((model X.prog X.w).den (ju elt t1 i1 t2 i2 f1 f2 scope pos 1 it2 X.env)) [F] s (GC X elt t1 i1 t2 i2 f1 f2 scope pos it P fp tn σb Y E)):=by
 have stat:∀{H':Hp},(∀b∈fp,H' b=none)->∀b∈fp,mL X P H' b:=λ{H'} hn b hb=>by
  obtain⟨q1,q2,q3,q4⟩:=hst b hb;exact⟨hn b hb,q1,q2,q3,q4,λp hp e=>by rw[hpn]at hp;exact hP p hp (e▸hb)⟩
 intro m
 induction m using Nat.strongRecOn with
 |ind m ih=>
  refine⟨λi H s ho I st fr=>?_,λi σ1 J2 j it2 F H s hn hin hF=>?_⟩
  .show aZ _ A1 _ ((compTurn (ge2 elt t1 i1 t2 i2 f1 f2 scope pos) 0 (.ref it) .none X.env).onRaise (leaving X.env)) [] s _;rw[Dp,Sem.onRaise_eq_wrap];refine aZ.bindWrap (wpAny_standAt ?_)
   rcases R.out i m H ho with⟨stop,hE⟩|⟨go,step⟩
   .have q:=T.done X rfl rfl rfl hc i P s σb H (λ_ _=>False) I (stat fr) st stop;rw[hA]at q;refine aZ.bindWrap (Zy q (λr s1 ⟨hr,I1⟩=>?_) λ_ _ z=>z.elim);subst hr;exact aZ.end (.ok .next) (.inr ⟨rfl,H,I1,hE⟩)
   .have q:=T.item X rfl rfl rfl hc i P s σb H (λ_ _=>False) I (stat fr) st go;rw[hA]at q;refine aZ.bindWrap (Zy q (λr s1 ⟨u,hr,h1⟩=>?_) λ_ _ z=>z.elim);subst hr;refine aZ.bindWrap (Zy h1 (λ_ s2 ⟨x,H2,I2,r2,y2,st2,fr2⟩=>?_) λ_ _ z=>z.elim);have I2':=I2.pinned (stat fr2) (T.obj _ _ st2);have a1:=hg1 _ s2 σb H2 x u _ I2' r2 (step x H2 y2);rw[hA,hxe]at a1;refine aZ.bindWrap (Zy a1 (λ_ s3 ⟨σ3,H3,I3,ft3,q3⟩=>?_) λ_ _ z=>z.elim);have a2:=ht1 _ s3 σ3 H3 _ I3 q3;rw[hA,hxe]at a2;refine aZ.bindWrap (Zy a2 (λok s4 ⟨H4,I4,q4⟩=>?_) λ_ _ z=>z.elim);have kept:∀{σ':St}{H':Hp}{s':Zsh},Inv X (P++mD fp s2.heap) σ' H' s'->tn (i+1) s'.heap/\∀b∈fp,H' b=none:=λ{σ' H' s'} I'=>by
     refine⟨T.keep _ _ _ st2 λb hb o e=>?_,λb hb=>?_⟩
     .exact(I'.pin (b,o) (Zn _ (Zn _ (dg hb e)))).1
     .obtain⟨o,e,d⟩:=T.obj _ _ st2 b hb;exact(I'.pin (b,o) (Zn _ (Zn _ (dg hb e)))).2.1
    cases ok with
    |false=>
     rw[if_neg Zr]at q4;obtain⟨m',hm,w4⟩:=q4;obtain⟨st4,fr4⟩:=kept I4;exact aZ.again rfl ((ih m' hm).1 (i+1) H4 s4 w4 (I4.weak ft3.1.symm ft3.2).unpinned st4 fr4)
    |true=>
     rw[if_pos rfl]at q4;have a3:=hi2 _ s4 σ3 H4 _ I4 q4;rw[hA,hxe]at a3;refine aZ.bindWrap (Zy a3 (λv2 s5 h5=>?_) λ_ _ z=>z.elim);refine aZ.bindWrap (wpAny_standAt (aZ.bindWrap (wpAny_of_eq (hs2 v2) (aZ.bindWrap (wpAny_holding (Zy h5 (λitv s6 h6=>?_) λ_ _ z=>z.elim))))));obtain⟨it2,fp2,tn2,J2,H6,e,I6,T2,st6,f6,m',hm,w6⟩:=h6;subst e;obtain⟨st1',fr1'⟩:=kept I6;have hno:∀b∈fp2,b∉fp:=λb hb z=>by
      obtain⟨o,e,d⟩:=T.obj _ _ st2 b z;exact(f6 b hb).2.2.2.2.2 (b,o) (Zn _ (Zn _ (dg z e))) rfl
     have hin:HR X t2 P fp tn σb (i+1) σ3 J2 0 it2 H6 s6:=⟨fp2,tn2,T2,I6.unpinned,ft3,st1',fr1',st6,λb hb=>by
      obtain⟨q0,q1,q2,q3,q4,q5⟩:=f6 b hb;exact⟨q0,q1,q2,q3,q4,λp hp=>(Zm.mp hp).elim (λz=>q5 p (List.mem_append_left _ z)) λz=>q5 p (Zn _ (List.mem_append_left _ z))⟩,hno⟩
     refine aZ.call λp=>?_;generalize hF:(Frame.ret _ none _ _ _ p []:Frame)=F;have hFr:Ec F (ju elt t1 i1 t2 i2 f1 f2 scope pos 0 it X.env):=⟨_,_,_,_,hF.symm,rfl⟩;have run:=(ih m' hm).2 (i+1) σ3 J2 0 it2 F H6 s6 w6 hin hFr;show aZ _ A1 _ ((compStart (ge2 elt t1 i1 t2 i2 f1 f2 scope pos) 1 (.ref it2) .none X.env).onRaise (λx=>do noteFrame x X.env;standAt theWindowsPlace)) [F] s6 _
     unfold compStart;rw[Sem.onRaise_eq_wrap];show aZ _ A1 _ ((ask >>= _).wrap _ _ _ _) [F] s6 _;refine aZ.bindWrap (wpAny_askSetting ?_);split
     .exact aZ.again rfl run
     .first
       |exact aZ.bindWrap (wpAny_rule (aZ.bindWrap (wpAny_standAt (aZ.bindWrap (T2.self _ 0 s6 _ _ st6 (aZ.again rfl run))))))
       |(refine aZ.bindWrap (wpAny_rule ?_);show aZ _ A1 _ ((standAt i2.pos >>= _).wrap _ _ _ _) [F] s6 _;exact aZ.bindWrap (wpAny_standAt (aZ.bindWrap (T2.self _ 0 s6 _ _ st6 (aZ.again rfl run)))))
  .obtain⟨fp2,tn2,T2,I,ft,st,fr,st2,f2',hno⟩:=hin;have hA2:X.A=A1.over (ju elt t1 i1 t2 i2 f1 f2 scope pos 1 it2 X.env) [F]:=hA.trans (Od hF).symm;have Ip:=I.pinned (stat fr) (T.obj _ _ st);have stat2:∀{H':Hp},(∀b∈fp2,H' b=none)->∀b∈fp2,mL X (P++mD fp s.heap) H' b:=λ{H'} hn b hb=>by
    obtain⟨q0,q1,q2,q3,q4,q5⟩:=f2' b hb;refine⟨hn b hb,q1,q2,q3,q4,λp hp=>?_⟩
    rcases Zm.mp hp with z|z
    .exact q5 p (List.mem_append_left _ z)
    .rcases Zm.mp z with z|z
     .exact q5 p (Zn _ z)
     .exactλe=>hno b hb (e▸(xO z).1)
   have fr2:∀b∈fp2,H b=none:=λb hb=>(f2' b hb).1;have kept:∀{Q:List (Addr×Obj)}{σ':St}{H':Hp}{s':Zsh},Inv X (P++mD fp s.heap++Q) σ' H' s'->tn i s'.heap/\∀b∈fp,H' b=none:=λ{Q σ' H' s'} I'=>by
    refine⟨T.keep _ _ _ st λb hb o e=>?_,λb hb=>?_⟩
    .exact(I'.pin (b,o) (Zn _ (List.mem_append_left _ (Zn _ (dg hb e))))).1
    .obtain⟨o,e,d⟩:=T.obj _ _ st b hb;exact(I'.pin (b,o) (Zn _ (List.mem_append_left _ (Zn _ (dg hb e))))).2.1
   show aZ _ A1 _ ((compTurn (ge2 elt t1 i1 t2 i2 f1 f2 scope pos) 1 (.ref it2) .none X.env).onRaise (λx=>do noteFrame x X.env;theTreesLotGoes x)) [F] s _
   rw[Ed,Sem.onRaise_eq_wrap];refine aZ.bindWrap (wpAny_standAt ?_)
   rcases R.inn i σ1 J2 j m H hn with⟨stop,m',hm,ho⟩|⟨go,step⟩
   .have q:=T2.done X rfl rfl rfl hc j _ s σ1 H (λ_ _=>False) Ip (stat2 fr2) st2 stop;rw[hA2]at q;refine aZ.bindWrap (Zy q (λr s1 ⟨hr,I1⟩=>?_) λ_ _ z=>z.elim);subst hr;obtain⟨st1,fr1⟩:=kept (Q:=[]) (by rw[List.append_nil];exact I1)
    have run:=(ih m' hm).1 i H s1 ho (I1.weak ft.1.symm ft.2).unpinned st1 fr1;obtain⟨k,l,p,kp,rfl,hk⟩:=hF;refine aZ.pop (.ok .next) ?_;rw[hk];exact aZ.again rfl run
   .have q:=T2.item X rfl rfl rfl hc j _ s σ1 H (λ_ _=>False) Ip (stat2 fr2) st2 go;rw[hA2]at q;refine aZ.bindWrap (Zy q (λr s1 ⟨u,hr,h1⟩=>?_) λ_ _ z=>z.elim);subst hr;refine aZ.bindWrap (Zy h1 (λ_ s2 ⟨x,H2,I2,r2,y2,st2',fr2'⟩=>?_) λ_ _ z=>z.elim);have I2':=I2.pinned (stat2 fr2') (T2.obj _ _ st2');have a1:=hg2 _ s2 σ1 H2 x u _ I2' r2 (step x H2 y2);rw[hA2,hxe]at a1;refine aZ.bindWrap (Zy a1 (λ_ s3 ⟨σ3,H3,I3,ft3,q3⟩=>?_) λ_ _ z=>z.elim);have a2:=ht2 _ s3 σ3 H3 _ I3 q3;rw[hA2,hxe]at a2;refine aZ.bindWrap (Zy a2 (λok s4 ⟨H4,I4,q4⟩=>?_) λ_ _ z=>z.elim);have kept2:∀{H':Hp}{s':Zsh},Inv X (P++mD fp s.heap++mD fp2 s2.heap) σ3 H' s'->HR X t2 P fp tn σb i σ1 J2 (j+1) it2 H' s':=λ{H' s'} I'=>by
     obtain⟨st',fr'⟩:=kept I';refine⟨fp2,tn2,T2,((I'.weak ft3.1.symm ft3.2).unpinned).unpinned,ft,st',fr',T2.keep _ _ _ st2' λb hb o e=>?_,λb hb=>?_,hno⟩
     .exact(I'.pin (b,o) (Zn _ (Zn _ (dg hb e)))).1
     .obtain⟨q0,q1,q2,q3,q4,q5⟩:=f2' b hb;obtain⟨o,e,d⟩:=T2.obj _ _ st2' b hb;exact⟨(I'.pin (b,o) (Zn _ (Zn _ (dg hb e)))).2.1,q1,q2,q3,q4,q5⟩
    cases ok with
    |false=>
     rw[if_neg Zr]at q4;obtain⟨m',hm,w4⟩:=q4;exact aZ.again rfl ((ih m' hm).2 i σ1 J2 (j+1) it2 F H4 s4 w4 (kept2 I4) hF)
    |true=>
     rw[if_pos rfl]at q4;simp only[if_true];have hy:∀v,yieldOut X.env v=yieldValue v:=λv=>by simp only[yieldOut,hco,Bool.false_eq_true,if_false]
     simp only[hy];rw[Sem.bind_eq_wrap',Sem.bind_eq_wrap',Sem.wrap_wrap,Sem.wrap_wrap];have a3:=he _ s4 σ3 H4 _ I4 q4;rw[hA2,hxe]at a3;refine aZ.wrap (Zy a3 (λv s5 ⟨y,H5,I5,r5,q5⟩=>?_) λ_ _ z=>z.elim);have hsp:splitAtGen [F]=none:=by obtain⟨k,l,p,kp,rfl,hk⟩:=hF;rfl
     refine aZ.at (aZ.yield hsp λp=>.inl ⟨v,_,p,y,i,σ1,J2,j+1,it2,F,H5,rfl,rfl,hF,r5,q5,kept2 I5⟩)
end
section
variable {M:Model} {A:Zar} {E:Value->Zsh->Prop} {s:Zsh} {elt t1 i1 t2 i2:Expr} {f1 f2:List Expr} {scope:Scope} {pos:Pos} {env:Env}
theorem Jm(hco:scope.isCoroutine=false):eval (ge2 elt t1 i1 t2 i2 f1 f2 scope pos) env=(do
   let x0<-eval i1 env
   standAt i1.pos
   let x1<-genFold i1 env x0
   let walk<-holding [x1] (pyIter x1)
   enterFrame
   let clo<-closureFor scope env
   let cv<-genexprCode env pos (env.qual++"<genexpr>") scope
   let bv<-builtinsFor env.globals env.builtins
   let inner<-newFunctionEnv scope env.globals clo [(".0",walk)] (env.qual++"<genexpr>.") none cv none bv
   newGenerator (.compStart (ge2 elt t1 i1 t2 i2 f1 f2 scope pos) 0 walk .none inner) "<genexpr>" (env.qual++"<genexpr>")):=by
 rw[arm_eval_GeneratorExp];simp only[hco,Bool.false_eq_true,if_false];cases i1<;>rfl
theorem Qz{α:Type}{m:Sem α}{P Q:α->Zsh->Prop}(h:wpAny M A m P E s)(k:∀a s',P a s'->Q a s'):wpAny M A m Q E s:=Zy h k λ_ _ z=>z
theorem Kg{cl:List (Str×Addr)}{Q:Value->Zsh->Prop}(hco:scope.isCoroutine=false)(hcl:closureFor scope env=pure cl)(hnc:∀y∈scope.names,y.2≠ .cell)(h0:scope.names.lookup (".0":Str)=some NameKind.local)(hk:scope.kind= .function)(hroom:A.depth<recursionLimit)(hs:∀x,genFold i1 env x=pure x)
  (h:wpAny M A (eval i1 env) (λx0 s1=>wpAny M A (pyIter x0) (λwalk s2=>s2.heap.NoLimit/\wpAny M A (genexprCode env pos (env.qual++"<genexpr>") scope) (λcv s3=>wpAny M A (builtinsFor env.globals env.builtins) (λbv s4=>
   ∀h5,h5.Ns s4.heap.objs.size (λy=>if y=".0" then some walk else none)->Heap.SameBut s4.heap.objs.size (s4.heap.push { cls:=.type "frame",data:=.dict #[] }) h5->
    Q (.ref h5.objs.size) { s4 with gens:=s4.gens.push (.fresh (.compStart (ge2 elt t1 i1 t2 i2 f1 f2 scope pos) 0 walk .none (genEnv scope cl s4.heap.objs.size cv bv env))),toks:=s4.toks+1+1+1,heap:=h5.push { cls:=.type "generator",data:=.fields #[.int s4.gens.size 0,.str "<genexpr>" (s4.toks+1),.str (env.qual++"<genexpr>") (s4.toks+1+1)] } }) E s3) E s2) E s1) E s):
  wpAny M A (eval (ge2 elt t1 i1 t2 i2 f1 f2 scope pos) env) Q E s:=by
 have one:∀(u:Value),(λy:Str=>([((".0":Str),u)]:List (Str×Value)).reverse.lookup y)=λy:Str=>if y=(".0":Str)then some u else none:=λu=>by
  funext y
  rw[List.reverse_singleton,List.lookup_cons];by_cases z:y=".0"
  .simp[z]
  .rw[show(y==(".0":Str))=false from by simpa using z,if_neg z];rfl
 rw[Jm hco,hcl];refine Zv (Qz h λx0 s1 q1=>Zv (wpAny_standAt (Zv (wpAny_of_eq (hs x0) (Zv (wpAny_holding (Qz q1 λwalk s2 q2=>?_)))))));obtain⟨nl,q2⟩:=q2;refine Zv (wpAny_enterFrame nl hroom (Zv (Zx (Zv (Qz q2 λcv s3 q3=>Zv (Qz q3 λbv s4 q4=>?_))))));refine Zv (wpAny_newFunctionEnv hnc (λy hy=>by rw[ZI.mp hy];exact h0) (λh5 hn5 hs5=>?_) hk)
 rw[one]at hn5;simp only[newGenerator,newFields];exact Zv (wpAny_newGen (Zv (wpAny_mkText (Zv (wpAny_mkText (Zz (q4 h5 hn5 hs5) (by size_fits)))))))
end
abbrev S2:=Option (Nat×St×It×Nat)
def At2(O:Nat->Nat->Hp->Prop)(N:Nat->St->It->Nat->Nat->Hp->Prop)(st:S2)(H:Hp):Prop:=match st with
 |none=>∃m,O 0 m H
 |some (i,σ1,J2,j)=>∃m,N i σ1 J2 j m H
def Tq(J1:It)(g1 g2:TG)(tt1 tt2:TT)(wi2:TI)(te:TE)(σb:St)(st:S2)(H:Hp)(Y:V->Nat->St->It->Nat->Hp->Prop)(E:Hp->Prop):Prop:=
 ∃O N,Two J1 g1 g2 tt1 tt2 wi2 te σb Y E O N/\At2 O N st H
def Gn(J1:It)(g1 g2:TG)(tt1 tt2:TT)(wi2:TI)(te:TE)(σb:St)(R:Nat->S2->Hp->Prop):nO where
 nxt:=λn H Q=>∀st,R n st H->Tq J1 g1 g2 tt1 tt2 wi2 te σb st H (λy i σ1 J2 j H'=>Q y H'/\R (n+1) (some (i,σ1,J2,j)) H') (λ_=>False)
 fin:=λn H Q=>∀st,R n st H->Tq J1 g1 g2 tt1 tt2 wi2 te σb st H (λ_ _ _ _ _ _=>False) Q
def Ye(own:List Str)(capI:List Nat)(P:Addr)(wi1:TI)(g1:TG)(tt1:TT)(wi2:TI)(g2:TG)(tt2:TT)(te:TE):wH:=λσ H R=>wi1 σ H λJ H1=>∃ps,H1 P=some (.tbl ps)/\TOk H1 ps/\
 ∀lo H2 ps',Mh lo P ps ps' H1 H2->∃R0:Nat->S2->Hp->Prop,R0 0 none H2/\R (Gn J g1 g2 tt1 tt2 wi2 te (cu own σ capI) R0) H2
section
variable {elt t1 i1 t2 i2:Expr} {f1 f2:List Expr} {scope:Scope} {pos:Pos} {it:Addr} {cenv:Env}
theorem yE{A:Zar}{l:List Env}(h:A.frames=some l):(A.over (ju elt t1 i1 t2 i2 f1 f2 scope pos 0 it cenv) []).frames=some (cenv::l):=by
 unfold Around.over;show pushEnvs (Code.envs (ju elt t1 i1 t2 i2 f1 f2 scope pos 0 it cenv)) (pushEnvs (envsOf []) A.frames)=_;rw[h];rfl
theorem Ds{X:Cx}{A':Zar}(hh:A'.handled=none)(hd:A'.depth<=X.A.depth+1)(hu:A'.units<=X.A.units+8):
  ∀k,dH (k+1) X.A->dH k (A'.in1.over (ju elt t1 i1 t2 i2 f1 f2 scope pos 0 it cenv) []):=λk r=>by
 have e1:(A'.in1.over (ju elt t1 i1 t2 i2 f1 f2 scope pos 0 it cenv) []).depth=A'.depth+1:=rfl;have e2:(A'.in1.over (ju elt t1 i1 t2 i2 f1 f2 scope pos 0 it cenv) []).units=A'.units+1+3:=rfl;have e3:(A'.in1.over (ju elt t1 i1 t2 i2 f1 f2 scope pos 0 it cenv) []).handled=A'.handled:=rfl;have:=r.dp;have:=r.un;exact⟨e3.trans hh,by rw[e1];lia,by rw[e2];lia⟩
theorem vG{A0:Zar}{P:Zpr}{w:World}{K:Zw}{fp:List Addr}{tn:Nat->Heap->Prop}{J:It}{Φ:End->Zsh->Prop}{s:Zsh}{i:Nat}(T:sG P w K t1 J fp it tn)(st:tn i s.heap)
  (h:aZ (model P w) A0 (ju elt t1 i1 t2 i2 f1 f2 scope pos 0 it cenv) ((model P w).den (ju elt t1 i1 t2 i2 f1 f2 scope pos 0 it cenv)) [] s Φ):
  aZ (model P w) A0 (BP elt t1 i1 t2 i2 f1 f2 scope pos 0 it cenv) ((model P w).den (BP elt t1 i1 t2 i2 f1 f2 scope pos 0 it cenv)) [] s Φ:=by
 show aZ _ A0 _ ((compStart (ge2 elt t1 i1 t2 i2 f1 f2 scope pos) 0 (.ref it) .none cenv).onRaise (leaving cenv)) [] s _;unfold compStart;rw[Sem.onRaise_eq_wrap];show aZ _ A0 _ ((ask >>= _).wrap _ _ _ _) [] s _;refine aZ.bindWrap (wpAny_askSetting ?_);split
 .exact aZ.again rfl h
 .first
   |exact aZ.bindWrap (wpAny_rule (aZ.bindWrap (wpAny_standAt (aZ.bindWrap (T.self _ i s _ _ st (aZ.again rfl h))))))
   |(refine aZ.bindWrap (wpAny_rule ?_);show aZ _ A0 _ ((standAt i1.pos >>= _).wrap _ _ _ _) [] s _;exact aZ.bindWrap (wpAny_standAt (aZ.bindWrap (T.self _ i s _ _ st (aZ.again rfl h)))))
end
theorem Inv.put(I:Inv Y (L++(D,o)::B) σ H s)(h1:D∈Y.ex∨Y.s₀.heap.objs.size<=D)(h2:∀x c,Y.env.cells.lookup x=some c->c≠D)(h3:∀p∈Y.pn++(L++B),p.1≠D)
  (hk:∀b u,b≠D->s.heap.get? b=some u->h'.get? b=some u) (ho:h'.get? D=some o') (hc:∀v,o'.data≠ .cell v):Inv Y (L++(D,o')::B) σ H { s with heap:=h',toks:=tk}:=by
 have pd:=I.pin (D,o) (by simp)
 have I1:Inv Y (L++B) σ H s:=I.pins_of λp hp=>I.pin p (Zn _ ((Zm.mp hp).elim (λz=>List.mem_append_left _ z) λz=>Zn _ (ZE _ z)));have I2:=I1.turned (t':=tk) hk pd.2.1 pd.2.2.1 h1 h2 h3;refine I2.pins_of λp hp=>?_
 rcases Zm.mp hp with z|z
 .exact I2.pin p (Zn _ (List.mem_append_left _ z))
 .rcases Zi.mp z with z|z
  .subst z;exact⟨ho,pd.2.1,pd.2.2.1,pd.2.2.2.1,hc⟩
  .exact I2.pin p (Zn _ (Zn _ z))
section
variable {X:Cx} {elt t1 i1 t2 i2:Expr} {f1 f2:List Expr} {wi1 wi2:TI} {g1 g2:TG} {tt1 tt2:TT} {te:TE} {own cap:List Str} {capI:List Nat} {scope:Scope} {pos:Pos} {P:Addr} {kr:Nat}
theorem Hs(hc:X.calm=true)(hr:dH kr X.A)(B:fV X own cap capI scope)(hown:∀x∈own,(x,NameKind.free)∉scope.names)(hnc:∀y∈scope.names,y.2≠ .cell)(h0:scope.names.lookup (".0":Str)=some NameKind.local)
  (hco:scope.isCoroutine=false) (htb:∃c,X.env.code= .ref c/\ZB X.base c P) (hi1:PI X t1 i1 wi1)
  (hg1:∀AG cs C code fp s2 H2,PG (jr X AG own cap scope cs C code fp s2 H2) t1 g1)
  (ht1:∀AG cs C code fp s2 H2,(∀k,dH (k+1) X.A->dH k AG)->PIf (jr X AG own cap scope cs C code fp s2 H2) f1 tt1)
  (hi2:∀AG cs C code fp s2 H2,(∀k,dH (k+1) X.A->dH k AG)->PI (jr X AG own cap scope cs C code fp s2 H2) t2 i2 wi2)
  (hg2:∀AG cs C code fp s2 H2,PG (jr X AG own cap scope cs C code fp s2 H2) t2 g2)
  (ht2:∀AG cs C code fp s2 H2,(∀k,dH (k+1) X.A->dH k AG)->PIf (jr X AG own cap scope cs C code fp s2 H2) f2 tt2)
  (he:∀AG cs C code fp s2 H2,(∀k,dH (k+1) X.A->dH k AG)->PE (jr X AG own cap scope cs C code fp s2 H2) elt te) (hs:∀x,genFold i1 X.env x=pure x:=by intro _;rfl)
  (hs2:∀env x,foldedSetIterable i2 env x=pure x:=by intro _ _;rfl):
  wg X (ge2 elt t1 i1 t2 i2 f1 f2 scope pos) (Ye own capI P wi1 g1 tt1 wi2 g2 tt2 te):=by
 intro pins s σ H R I h;obtain⟨c,hcode,hhd⟩:=htb;refine Kg hco (kZ (B.cells I)) hnc h0 B.kind hr.depth hs ?_;refine thn (hi1 pins s σ H _ I h) λv s1 h1=>thn h1 λitv s2 h2=>?_;obtain⟨it,fp,tn,J,H2,e,I2,T,st2,f2',ps,hP,htr,hR⟩:=h2;subst e;refine⟨I2.nolimit,TJ I2 hcode hhd hP htr λcode s4 H4 ps' hG I4 hgens hk4=>?_⟩;obtain⟨bm,ob,b1,b2,b3,b4,b5,b6⟩:=I4.mod.bmain;refine wpAny_builtinsFor (bm:=bm) (by rw[I4.ok.glob];exact I4.mod.glob.keeps I4.bk) b1 b2 (I4.bk _ _ b3) b4 b5 b6 ?_
 intro h5 hn5 hs5;generalize hC:s4.heap.objs.size=C at hn5 hs5 ⊢;have hCs:s4.heap.objs.size<=C:=Nat.le_of_eq hC;obtain⟨R0,hR0,hR'⟩:=hR _ H4 ps' hG;have k5:∀b o,s4.heap.get? b=some o->h5.get? b=some o:=λb o e=>hs5.extBut b o (Zk (Zc (Ze e) hCs)) (Zb _ e);have sz5:h5.objs.size=C+1:=by rw[hs5.1,Heap.size_push,hC]
 generalize ha:h5.objs.size=a;have hCa:C<a:=by rw[<-ha,sz5];exact Nat.lt_succ_self _
 generalize hgi:s4.gens.size=gi;generalize hgo:({ cls:=.type "generator",data:=.fields #[.int (gi:Int) 0,.str "<genexpr>" (s4.toks+1),.str (X.env.qual++"<genexpr>") (s4.toks+1+1)] }:Obj)=gob;generalize hh6:h5.push gob=h6;have k6:∀b o,h5.get? b=some o->h6.get? b=some o:=λb o e=>by rw[<-hh6];exact Zb _ e
 have k46:∀b o,s4.heap.get? b=some o->h6.get? b=some o:=λb o e=>k6 b o (k5 b o e);have oa6:h6.get? a=some gob:=by rw[<-hh6,<-ha];refine Zf _ ?_;rw[<-hgo];rfl
 have isg:∀{h:Heap},h.get? a=some gob->h.IsGen a gi:=λ{h} e=>⟨gob,.str "<genexpr>" (s4.toks+1),.str (X.env.qual++"<genexpr>") (s4.toks+1+1),e,by rw[<-hgo],by rw[<-hgo],by rw[<-hgo]⟩
 have hfr4:∀b∈fp,H4 b=none:=λb hb=>let⟨o,e,_⟩:=T.obj 0 _ st2 b hb;hG.none b (Ze e) (f2' b hb).1;have f4:∀b∈fp,mL X pins H4 b:=λb hb=>⟨hfr4 b hb,(f2' b hb).2⟩;have hbP:∀b∈fp,b≠P:=λb hb z=>by have n2:=(f2' b hb).1;rw[z,hP]at n2;cases n2
 have o4:∀b∈fp,∃o,s4.heap.get? b=some o:=λb hb=>let⟨o,e,_⟩:=T.obj 0 _ st2 b hb;⟨o,hk4 b o (hbP b hb) e⟩;have st4:tn 0 s4.heap:=T.keep _ _ _ st2 λb hb o e=>hk4 b o (hbP b hb) e;have hfa:∀b∈fp,b≠a/\b≠C:=λb hb=>let⟨o,e⟩:=o4 b hb
  have l:=Zc (Ze e) hCs
  ⟨Zk (Nat.lt_trans l hCa),Zk l⟩
 generalize hcenv:genEnv scope (dM X.env scope.names []) C code builtinsNs X.env=cenv;have gk6:GK s4.gens (s4.gens.push (.fresh (BP elt t1 i1 t2 i2 f1 f2 scope pos 0 it cenv))):=by
  refine⟨AllBare.push I4.bare.bare rfl,λk x e=>?_⟩;have hlt:k<s4.gens.size:=by
   rcases Nat.lt_or_ge k s4.gens.size with z|z
   .exact z
   .rw[Array.getElem?_eq_none z]at e;cases e
  rw[Array.getElem?_push_lt hlt,<-Array.getElem?_eq_getElem hlt];exact e
 refine⟨a,Gn J g1 g2 tt1 tt2 wi2 te (cu own σ capI) R0,H4,rfl,I4.grown k46 gk6,?_,hR'⟩;intro A' hAh hAf hAd hAu;have gi6:(s4.gens.push (.fresh (BP elt t1 i1 t2 i2 f1 f2 scope pos 0 it cenv)))[gi]? =some (.fresh (BP elt t1 i1 t2 i2 f1 f2 scope pos 0 it cenv)):=by rw[<-hgi];simp
 generalize hX':jr X (A'.in1.over (ju elt t1 i1 t2 i2 f1 f2 scope pos 0 it cenv) []) own cap scope (dM X.env scope.names []) C code fp s4 H4=X';have eP:X'.prog=X.prog:=by rw[<-hX'];rfl
 have eW:X'.w=X.w:=by rw[<-hX'];rfl
 have eK:X'.K=X.K:=by rw[<-hX'];rfl
 have eFs:X'.fs=frs X.stack:=by rw[<-hX'];rfl
 have eEx:X'.ex=fp:=by rw[<-hX'];rfl
 have eS:X'.s₀={ s4 with gens:=s4.gens.push .running}:=by rw[<-hX'];rfl
 have eH:X'.H₀=H4:=by rw[<-hX'];rfl
 have eL:X'.env.locals=C:=by rw[<-hX'];rfl
 have eC:X'.calm=true:=by rw[<-hX'];rfl
 have eX:X'.xe=λ_ _=>False:=by rw[<-hX'];rfl
 have ePn:X'.pn=[]:=by rw[<-hX'];rfl
 have eE:X'.env=cenv:=by rw[<-hX',<-hcenv];rfl
 have eA:X'.A=A'.in1.over (ju elt t1 i1 t2 i2 f1 f2 scope pos 0 it X'.env) []:=by rw[eE,<-hX'];rfl
 have eCo:X'.env.scope.isCoroutine=false:=by rw[<-hX'];exact hco
 have room:=Ds (X:=X) (elt:=elt) (t1:=t1) (i1:=i1) (t2:=t2) (i2:=i2) (f1:=f1) (f2:=f2) (scope:=scope) (pos:=pos) (it:=it) (cenv:=cenv) hAh hAd hAu;have hg1':PG X' t1 g1:=by rw[<-hX'];exact hg1 _ _ _ _ _ _ _
 have hg2':PG X' t2 g2:=by rw[<-hX'];exact hg2 _ _ _ _ _ _ _
 have ht1':PIf X' f1 tt1:=by rw[<-hX'];exact ht1 _ _ _ _ _ _ _ room
 have ht2':PIf X' f2 tt2:=by rw[<-hX'];exact ht2 _ _ _ _ _ _ _ room
 have hi2':PI X' t2 i2 wi2:=by rw[<-hX'];exact hi2 _ _ _ _ _ _ _ room
 have he':PE X' elt te:=by rw[<-hX'];exact he _ _ _ _ _ _ _ room
 have T':sG X'.prog X'.w X'.K t1 J fp it tn:=by rw[eP,eW,eK];exact T
 have pfp:∀{Q:List (Addr×Obj)},(∀p∈Q,a<p.1)->∀p∈(a,gob)::Q,p.1∉fp:=λ{Q} hQ p hp hb=>by
  obtain⟨o,e⟩:=o4 _ hb;have l:=Zc (Ze e) hCs
  rcases Zi.mp hp with z|z
  .subst z;exact absurd (Nat.lt_trans l hCa) (Nat.lt_irrefl _)
  .exact absurd (Nat.lt_trans (Nat.lt_trans l hCa) (hQ p z)) (Nat.lt_irrefl _)
 have afs:a∉X'.fs:=λhz=>by
  rw[eFs]at hz;have l4:s4.heap.objs.size<=a:=Zl hCs (Nat.le_of_lt hCa)
  rcases Zi.mp (I4.stkSub a hz)with z|z
  .exact absurd I4.lt (by rw[<-z];exact Nat.not_lt.mpr l4)
  .exact I4.nofs l4 z
 have setg:∀(s:Zsh)(x:GenState),(s.setGen gi x).gens=s.gens.setIfInBounds gi x:=λs x=>rfl;have hSS:∀{Q:List (Addr×Obj)}{σ':St}{H:Hp}{s:Zsh},(∀p∈Q,a<p.1)->Inv X' ((a,gob)::Q) σ' H s->s.heap.get? a=some gob/\s.gens[gi]? =some .running/\
   ∀(x:GenState)(h':Heap)(tk:Nat),x.bare=true->(∀b o,s.heap.get? b=some o->h'.get? b=some o)->Inv X (pins++Q) σ H { s.setGen gi x with heap:=h',toks:=tk}:=λ{Q σ' H s} hQ I'=>by
  have pa:=(I'.pin (a,gob) (by simp)).1
  have gr:s.gens[gi]? =some .running:=I'.bare.kept gi .running (by rw[eS,<-hgi];simp)
  refine⟨pa,gr,λx h' tk hx hk=>?_⟩;have ub:=I'.base;rw[eFs,eEx,eS,eH]at ub;have hok:=I'.hok;rw[eP,eW]at hok;refine Inv.more ?_ λp hp=>by
   have q:=I'.pin p (by simp[hp])
   have l4:s4.heap.objs.size<=p.1:=Zl hCs (Nat.le_of_lt (Nat.lt_trans hCa (hQ p hp)));exact⟨hk _ _ q.1,q.2.1,λz=>absurd I4.lt (by rw[<-z];exact Nat.not_lt.mpr l4),I4.nofs l4,q.2.2.2.2⟩
  refine I4.call' (ch:=fp) (s':={ s.setGen gi x with heap:=h',toks:=tk}) (by have:=I'.os;rw[eS]at this;exact this)
   ⟨λb o e n hb hx'=>hk b o (ub.keep b o e n hb hx'),λb o e n hb hx'=>let⟨sl,q⟩:=ub.slot b o e n hb hx';⟨sl,hk b _ q⟩,ub.free,λb o e hx'=>let⟨o',q⟩:=ub.there b o e hx';⟨o',hk b o' q⟩,ub.tups,ub.frzs,ub.tbls⟩
   (hok.kept hk) ⟨λy hy=>?_,λk y e=>?_⟩ λb hb=>?_
  .have hy':y∈s.gens.setIfInBounds gi x:=hy
   rcases Array.mem_or_eq_of_mem_setIfInBounds hy' with z|z
   .exact I'.bare.bare y z
   .rw[z];exact hx
  .have hlt:k<gi:=by
    rw[<-hgi]
    rcases Nat.lt_or_ge k s4.gens.size with z|z
    .exact z
    .rw[Array.getElem?_eq_none z]at e;cases e
   have q:=I'.bare.kept k y (by rw[eS];show(s4.gens.push .running)[k]? =some y;rw[Array.getElem?_push_lt (by rw[hgi];exact hlt),<-Array.getElem?_eq_getElem (by rw[hgi];exact hlt)];exact e)
   show(s.gens.setIfInBounds gi x)[k]? =some y;rw[Array.getElem?_setIfInBounds_ne (Nat.ne_of_gt hlt)];exact q
  .obtain⟨q0,q1,q2,q3,q4,q5⟩:=f4 b hb;exact⟨q3,q1,q4,q5⟩
 have Ib0:Inv X' [] (cu own σ capI) H4 { s4 with heap:=h6,toks:=s4.toks+1+1+1,gens:=s4.gens.push .running}:=by
  rw[<-hX'];refine I4.gen B hown hnc f4 o4 k46 hCs (hn5.at' λo e=>k6 _ o e) ?_ hAh;rw[hcenv];exact yE hAf
 have hexl:∀b∈fp,b≠X'.env.locals/\b∉X'.fs/\(b∈X'.ex∨X'.s₀.heap.objs.size<=b)/\(∀x c,X'.env.cells.lookup x=some c->c≠b):=λb hb=>
  ⟨(Ib0.ok.exf b (by rw[eEx];exact hb)).1,Ib0.ok.exfs b (by rw[eEx];exact hb),.inl (by rw[eEx];exact hb),(Ib0.ok.exf b (by rw[eEx];exact hb)).2⟩
 have fsp:∀{F:Frame}{c:Code}{v g l k c' p},Ec F c->(End.susp v g l k c' p [F]).quiet= !g:=λ{F c v g l k c' p} hF=>by
  obtain⟨k,l,p,kp,rfl,_⟩:=hF;simp[End.quiet,Frame.guarded]
 have back:∀{s:Zsh}{x:GenState},s.gens[gi]? =some .running->(s.setGen gi x).setGen gi .running=s:=λ{s x} gr'=>by
  have hl:gi<s.gens.size:=by
   rcases Nat.lt_or_ge gi s.gens.size with z|z
   .exact z
   .rw[Array.getElem?_eq_none z]at gr';cases gr'
  obtain⟨hh,gg,dd,tt,oo⟩:=s;show(Shared.mk hh ((gg.setIfInBounds gi _).setIfInBounds gi .running) dd tt oo)=_;congr 1
  apply Array.ext_getElem?;intro j;by_cases hj:gi=j
  .subst hj;have gr'':gg[gi]? =some .running:=gr';have hl':gi<gg.size:=hl;rw[gr''];simp[hl']
  .simp[hj]
 have l4:∀b,b<s4.heap.objs.size->∀D,a<D->b≠D:=λb hb D hD=>Zk (Zc hb (Zl hCs (Nat.le_of_lt (Nat.lt_trans hCa hD))));have putX:∀{PP:List (Addr×Obj)}{H:Hp}{s:Zsh}{h':Heap}{tk:Nat}{D:Addr}{o o':Obj},a<D->(∀p∈PP,p.1≠D)->Inv X (pins++(D,o)::PP) σ H s->(∀b u,b≠D->s.heap.get? b=some u->h'.get? b=some u)->h'.get? D=some o'->(∀v,o'.data≠ .cell v)->Inv X (pins++(D,o')::PP) σ H { s with heap:=h',toks:=tk}:=λ{PP H s h' tk D o o'} hDa hPD I1 hk ho hc'=>by
  refine I1.put (.inr (Zl I4.sz (Zl hCs (Nat.le_of_lt (Nat.lt_trans hCa hDa))))) (λx c e=>let⟨v,q⟩:=I4.cell x c e;l4 c q.lt D hDa) (λp hp=>?_) hk ho hc'
  rcases Zm.mp hp with z|z
  .exact l4 _ (Ze (I4.pin p (List.mem_append_left _ z)).1) D hDa
  .rcases Zm.mp z with z|z
   .exact l4 _ (Ze (I4.pin p (Zn _ z)).1) D hDa
   .exact hPD p z
 have putB:∀{PP:List (Addr×Obj)}{σ':St}{H:Hp}{s:Zsh}{h':Heap}{tk:Nat}{D:Addr}{o o':Obj},a<D->(∀p∈PP,p.1≠D)->Inv X' ((a,gob)::(D,o)::PP) σ' H s->(∀b u,b≠D->s.heap.get? b=some u->h'.get? b=some u)->h'.get? D=some o'->(∀v,o'.data≠ .cell v)->Inv X' ((a,gob)::(D,o')::PP) σ' H { s with heap:=h',toks:=tk}:=λ{PP σ' H s h' tk D o o'} hDa hPD Ib hk ho hc'=>by
  refine Inv.put (L:=[(a,gob)]) Ib (.inr (by rw[eS];exact Zl hCs (Nat.le_of_lt (Nat.lt_trans hCa hDa)))) (λx c e=>?_) (λp hp=>?_) hk ho hc'
  .have e':(dM X.env scope.names []).lookup x=some c:=by rw[<-hX']at e;exact e
   obtain⟨v,q⟩:=I4.cell x c ((oJ (Zt e')).elim (λz=>by simp at z) id)
   exact l4 c q.lt D hDa
  .rw[ePn,List.nil_append]at hp
   rcases Zi.mp hp with z|z
   .subst z;exact Zk hDa
   .exact hPD p z
 refine⟨a+1,λQ n H s=>(∀p∈Q,a<p.1)/\Inv X (pins++Q) σ H s/\∃st:S2,R0 n st H/\((st=none/\n=0/\s.gens[gi]? =some (.fresh (BP elt t1 i1 t2 i2 f1 f2 scope pos 0 it X'.env))/\Inv X' ((a,gob)::Q) (cu own σ capI) H (s.setGen gi .running)/\tn 0 s.heap/\∀b∈fp,H b=none)∨
   (∃i σ1 J2 j k l p it2 F,st=some (i,σ1,J2,j)/\n≠0/\s.gens[gi]? =some (.suspended k l (ju elt t1 i1 t2 i2 f1 f2 scope pos 1 it2 X'.env) p [F] false)/\k (.send .none)= .pure (.again (ju elt t1 i1 t2 i2 f1 f2 scope pos 1 it2 X'.env))/\
    Ec F (ju elt t1 i1 t2 i2 f1 f2 scope pos 0 it X'.env)/\HR X' t2 ((a,gob)::Q) fp tn (cu own σ capI) i σ1 J2 j it2 H (s.setGen gi .running))),
  ⟨λst=>st.2.1,?_,?_,?_,?_,?_⟩,?_,Nat.lt_succ_self _,?_,λQ n H s st=>⟨gi,isg ?_⟩⟩
 .
  rintro PP n H s Q E ⟨hQ,I1,st,hR1,q⟩ hn;obtain⟨O,N,R,hat⟩:=hn st hR1;have run:=Ge (A1:=A'.in1) (elt:=elt) (f1:=f1) (f2:=f2) (scope:=scope) (pos:=pos) (P:=(a,gob)::PP) T' eA eC ePn eCo eX hg1' ht1' hi2' hg2' ht2' he' (hs2 _) hexl (pfp hQ) R;rw[eP,eW]at run;have done:∀gs,s.gens[gi]? =some gs->s.heap.get? a=some gob->Gy (model X.prog X.w) A'.in1 gs (s.setGen gi .running) (GC X' elt t1 i1 t2 i2 f1 f2 scope pos it ((a,gob)::PP) fp tn (cu own σ capI) (λy i σ1 J2 j H'=>Q y H'/\R0 (n+1) (some (i,σ1,J2,j)) H') (λ_=>False))->
    wpAny (model X.prog X.w) A' (pyNext (.ref a)) (λr s1=>∃u y H',r=some u/\cI y u/\Q y H'/\((∀p∈PP,a<p.1)/\Inv X (pins++PP) σ H' s1/\∃st:S2,R0 (n+1) st H'/\((st=none/\n+1=0/\s1.gens[gi]? =some (.fresh (BP elt t1 i1 t2 i2 f1 f2 scope pos 0 it X'.env))/\Inv X' ((a,gob)::PP) (cu own σ capI) H' (s1.setGen gi .running)/\tn 0 s1.heap/\∀b∈fp,H' b=none)∨
     (∃i σ1 J2 j k l p it2 F,st=some (i,σ1,J2,j)/\n+1≠0/\s1.gens[gi]? =some (.suspended k l (ju elt t1 i1 t2 i2 f1 f2 scope pos 1 it2 X'.env) p [F] false)/\k (.send .none)= .pure (.again (ju elt t1 i1 t2 i2 f1 f2 scope pos 1 it2 X'.env))/\
      Ec F (ju elt t1 i1 t2 i2 f1 f2 scope pos 0 it X'.env)/\HR X' t2 ((a,gob)::PP) fp tn (cu own σ capI) i σ1 J2 j it2 H' (s1.setGen gi .running))))) E s:=λgs hgs oa goes=>by
   refine ni hAh I1.nolimit (by have:=hr.dp;lia) (isg oa) hgs goes ?_ ?_
   .rintro e s' (⟨v,k,p,y,i,σ1,J2,j,it2,F,H',rfl,_,hF,_⟩|⟨rfl,_⟩)
    .rw[fsp hF];rfl
    .rfl
   .rintro e s' (⟨v,k,p,y,i,σ1,J2,j,it2,F,H',rfl,ek,hF,ry,qy,hin⟩|⟨rfl,H',_,z⟩)
    .left
     obtain⟨fp2,tn2,T2,Ib',ft',stt',fr',st2',f2'',hno'⟩:=hin;obtain⟨oa',gr',mk⟩:=hSS hQ Ib';have eg:(End.susp v false [] k (ju elt t1 i1 t2 i2 f1 f2 scope pos 1 it2 X'.env) p [F]).genState= .suspended k [] (ju elt t1 i1 t2 i2 f1 f2 scope pos 1 it2 X'.env) p [F] false:=by
      obtain⟨k,l,p,kp,rfl,_⟩:=hF;rfl
     rw[eg];refine⟨v,false,[],k,_,p,[F],rfl,v,y,H',rfl,ry,qy.1,hQ,mk _ s'.heap s'.toks rfl λb o e=>e,some (i,σ1,J2,j),qy.2,.inr ⟨i,σ1,J2,j,k,[],p,it2,F,rfl,Nat.succ_ne_zero _,setGen_self gr',ek,hF,?_⟩⟩;rw[back gr'];exact⟨fp2,tn2,T2,Ib',ft',stt',fr',st2',f2'',hno'⟩
    .exact z.elim
  rcases q with⟨rfl,rfl,hgs,Ib,st0,fr⟩|⟨i,σ1,J2,j,k,l,p,it2,F,rfl,hn0,hgs,ek,hF,hin⟩
  .obtain⟨m,hO⟩:=hat;exact done _ hgs (hSS hQ Ib).1 (vG (i:=0) T st0 ((run m).1 0 H _ hO Ib st0 fr))
  .obtain⟨m,hN⟩:=hat;refine done _ hgs (hSS hQ hin.choose_spec.choose_spec.2.1).1 ?_;show aZ _ _ _ (k (.send .none)) [F] _ _;rw[ek];exact aZ.again rfl ((run m).2 i σ1 J2 j it2 F H _ hN hin hF)
 .
  rintro PP n H s Q E ⟨hQ,I1,st,hR1,q⟩ hn;obtain⟨O,N,R,hat⟩:=hn st hR1;have run:=Ge (A1:=A'.in1) (elt:=elt) (f1:=f1) (f2:=f2) (scope:=scope) (pos:=pos) (P:=(a,gob)::PP) T' eA eC ePn eCo eX hg1' ht1' hi2' hg2' ht2' he' (hs2 _) hexl (pfp hQ) R;rw[eP,eW]at run;have done:∀gs,s.gens[gi]? =some gs->s.heap.get? a=some gob->Gy (model X.prog X.w) A'.in1 gs (s.setGen gi .running) (GC X' elt t1 i1 t2 i2 f1 f2 scope pos it ((a,gob)::PP) fp tn (cu own σ capI) (λ_ _ _ _ _ _=>False) Q)->
    wpAny (model X.prog X.w) A' (pyNext (.ref a)) (λr s1=>r=none/\∃H',Q H'/\Inv X (pins++PP) σ H' s1) E s:=λgs hgs oa goes=>by
   refine ni hAh I1.nolimit (by have:=hr.dp;lia) (isg oa) hgs goes ?_ ?_
   .rintro e s' (⟨v,k,p,y,i,σ1,J2,j,it2,F,H',rfl,_,hF,_⟩|⟨rfl,_⟩)
    .rw[fsp hF];rfl
    .rfl
   .rintro e s' (⟨v,k,p,y,i,σ1,J2,j,it2,F,H',rfl,ek,hF,ry,qy,hin⟩|⟨rfl,H',I',z⟩)
    .exact qy.elim
    .right
     obtain⟨oa',gr',mk⟩:=hSS hQ I';exact⟨rfl,λh' hk=>⟨rfl,H',z,mk .finished h' s'.toks rfl hk⟩⟩
  rcases q with⟨rfl,rfl,hgs,Ib,st0,fr⟩|⟨i,σ1,J2,j,k,l,p,it2,F,rfl,hn0,hgs,ek,hF,hin⟩
  .obtain⟨m,hO⟩:=hat;exact done _ hgs (hSS hQ Ib).1 (vG (i:=0) T st0 ((run m).1 0 H _ hO Ib st0 fr))
  .obtain⟨m,hN⟩:=hat;refine done _ hgs (hSS hQ hin.choose_spec.choose_spec.2.1).1 ?_;show aZ _ _ _ (k (.send .none)) [F] _ _;rw[ek];exact aZ.again rfl ((run m).2 i σ1 J2 j it2 F H _ hN hin hF)
 .
  rintro PP n H s h' tk ⟨hQ,I1,st,hR1,q⟩ hk;refine⟨hQ,I1.kept hk,st,hR1,?_⟩
  rcases q with⟨rfl,rfl,hgs,Ib,st0,fr⟩|⟨i,σ1,J2,j,k,l,p,it2,F,rfl,hn0,hgs,ek,hF,fp2,tn2,T2,Ib,ft,st1,fr,st2',f2'',hno⟩
  .exact .inl ⟨rfl,rfl,hgs,Ib.kept (s:=s.setGen gi .running) hk,T.keep _ _ _ st0 λb _ o e=>hk b o e,fr⟩
  .exact .inr ⟨i,σ1,J2,j,k,l,p,it2,F,rfl,hn0,hgs,ek,hF,fp2,tn2,T2,Ib.kept (s:=s.setGen gi .running) hk,ft,T.keep _ _ _ st1 λb _ o e=>hk b o e,fr,T2.keep _ _ _ st2' λb _ o e=>hk b o e,f2'',hno⟩
 .
  rintro PP H s D o ⟨hQ,I1,st,hR1,q⟩ hD ho hn hcell;have hDa:a<D:=hD;have hD4:s4.heap.objs.size<=D:=Nat.le_of_lt (Nat.lt_of_le_of_lt hCs (Nat.lt_trans hCa hDa))
  rcases q with⟨rfl,_,hgs,Ib,st0,fr⟩|⟨i,σ1,J2,j,k,l,p,it2,F,rfl,hn0,_⟩
  .refine⟨λp hp=>?_,?_,none,hR1,.inl ⟨rfl,rfl,hgs,?_,st0,fr⟩⟩
   .rcases Zi.mp hp with z|z
    .subst z;exact hDa
    .exact hQ p z
   .refine I1.pins_of λp hp=>?_
    rcases Zm.mp hp with z|z
    .exact I1.pin p (by simp[z])
    .rcases Zi.mp z with z|z
     .subst z;exact⟨ho,hn,λz=>absurd I4.lt (by rw[<-z];exact Nat.not_lt.mpr hD4),I4.nofs hD4,hcell⟩
     .exact I1.pin p (by simp[z])
   .refine Ib.pins_of λp hp=>?_
    rcases Zi.mp hp with z|z
    .exact Ib.pin p (by simp[z])
    .rcases Zi.mp z with z|z
     .subst z;refine⟨ho,hn,by rw[eL];exact Nat.ne_of_gt (Nat.lt_trans hCa hDa),λhz=>?_,hcell⟩
      rw[eFs]at hz
      rcases Zi.mp (I4.stkSub D hz)with z|z
      .exact absurd I4.lt (by rw[<-z];exact Nat.not_lt.mpr hD4)
      .exact I4.nofs hD4 z
     .exact Ib.pin p (by simp[z])
  .exact absurd rfl hn0
 .
  rintro PP n H s h' tk D o o' ⟨hQ,I1,st,hR1,q⟩ hPD hk ho hc';have hDa:a<D:=hQ (D,o) List.mem_cons_self;have hfpD:∀b∈fp,b≠D:=λb hb=>let⟨o',e'⟩:=o4 b hb;l4 b (Ze e') D hDa;refine⟨λp hp=>?_,putX hDa hPD I1 hk ho hc',st,hR1,?_⟩
  .rcases Zi.mp hp with z|z
   .subst z;exact hDa
   .exact hQ p (ZE _ z)
  .rcases q with⟨rfl,rfl,hgs,Ib,st0,fr⟩|⟨i,σ1,J2,j,k,l,p,it2,F,rfl,hn0,hgs,ek,hF,fp2,tn2,T2,Ib,ft,st1,fr,st2',f2'',hno⟩
   .exact .inl ⟨rfl,rfl,hgs,putB (s:=s.setGen gi .running) hDa hPD Ib hk ho hc',T.keep _ _ _ st0 λb hb o e=>hk b o (hfpD b hb) e,fr⟩
   .refine .inr ⟨i,σ1,J2,j,k,l,p,it2,F,rfl,hn0,hgs,ek,hF,fp2,tn2,T2,putB (s:=s.setGen gi .running) hDa hPD Ib hk ho hc',ft,T.keep _ _ _ st1 λb hb o e=>hk b o (hfpD b hb) e,fr,T2.keep _ _ _ st2' λb hb u e=>hk b u (λz=>?_) e,λb hb=>?_,hno⟩
    .exact(f2'' b hb).2.2.2.2.2 (D,o) (by simp) z.symm
    .obtain⟨q0,q1,q2,q3,q4,q5⟩:=f2'' b hb;refine⟨q0,q1,q2,q3,q4,λp hp=>?_⟩
     rcases Zm.mp hp with z|z
     .exact q5 p (List.mem_append_left _ z)
     .rcases Zi.mp z with z|z
      .exact q5 p (by simp[z])
      .rcases Zi.mp z with z|z
       .subst z;exact q5 (D,o) (by simp)
       .exact q5 p (by simp[z])
 .
  refine⟨λp hp=>absurd hp (by simp),by rw[List.append_nil];exact(I4.grown k46 gk6:Inv X pins σ H4 _),none,hR0,.inl ⟨rfl,rfl,by rw[eE];exact gi6,?_,T.keep _ _ _ st4 λb _ o e=>k46 b o e,hfr4⟩⟩
  have e1:(Shared.setGen { s4 with gens:=s4.gens.push (.fresh (BP elt t1 i1 t2 i2 f1 f2 scope pos 0 it cenv)),toks:=s4.toks+1+1+1,heap:=h6} gi .running)={ s4 with heap:=h6,toks:=s4.toks+1+1+1,gens:=s4.gens.push .running}:=by
   show Shared.mk _ ((s4.gens.push _).setIfInBounds gi .running) _ _ _=_;congr 1
   rw[<-hgi];apply Array.ext_getElem?;intro j;by_cases hj:s4.gens.size=j
   .subst hj;simp
   .simp[hj,Array.getElem?_push,Ne.symm hj]
  rw[e1];exact Ib0.pins_of λp hp=>by
   obtain rfl:p=(a,gob):=by simpa using hp
   refine⟨oa6,?_,by rw[eL];exact Nat.ne_of_gt hCa,afs,λv z=>?_⟩
   .exact I4.hok.fresh (Zl hCs (Nat.le_of_lt hCa))
   .rw[<-hgo]at z;cases z
 .show a+1<=h6.objs.size;rw[<-hh6,Heap.size_push,ha];exact Zg _
 .obtain⟨hQ,I1,st',hR1,q⟩:=st
  rcases q with⟨_,_,_,Ib,_⟩|⟨i,σ1,J2,j,k,l,p,it2,F,_,_,_,_,_,fp2,tn2,_,Ib,_⟩
  .exact(hSS hQ Ib).1
  .exact(hSS hQ Ib).1
end
section
variable {X:Cx} {tg iter elt:Expr} {ifs:List Expr} {wi:TI} {g:TG} {tt:TT} {te:TE} {own cap:List Str} {capI:List Nat} {scope:Scope} {pos:Pos}
theorem ZP(hN:X.N.Nodup)(hi₀:X.N[i₀]? =some x₀)(hx₀:Loc X.env.scope x₀)(hc:X.calm=true)(B:fV X own cap capI scope)(hown:∀x∈own,(x,NameKind.free)∉scope.names)(hi:PI X tg iter wi)
  (hg:∀cs C fp s2 H2,PG (gb X own cap scope cs C fp s2 H2) tg g) (ht:∀cs C fp s2 H2,PIf (gb X own cap scope cs C fp s2 H2) ifs tt) (he:∀cs C fp s2 H2,PE (gb X own cap scope cs C fp s2 H2) elt te)
  (hs:∀x,foldedSetIterable iter X.env x=pure x:=by intro _;rfl) (hsw:swapsWith (.ListComp elt [⟨tg,iter,ifs,0⟩] scope pos) (some (.Name x₀ px₀)) spos.line X.env=pure true:=by rfl)
  (hf₀:X.fn x₀=true∨X.env.scope.names.lookup x₀=some .local:=by first|exact .inl rfl|exact .inr rfl|assumption):
  PS X (.Assign [.Name x₀ px₀] (.ListComp elt [⟨tg,iter,ifs,0⟩] scope pos) spos) (Vy (tLC own capI wi g tt te) (Kc i₀)):=by
 intro pins s σ H D I h;rw[exec_Assign_Name_used _ _ _ _ hsw];refine Zv (wpAny_standAt (Zv ?_));show wpAny _ X.A (do let _<-comprehension (.ListComp elt [⟨tg,iter,ifs,0⟩] scope pos) scope X.env _ (newList []) false (eval iter X.env) (some (assign (.Name x₀ px₀) X.env))) _ _ s
 refine Zv (Zy (wpAny_comprehension_free (use:=some (assign (.Name x₀ px₀) X.env)) (Q:=λ_ s'=>SP X pins D .next s') (cl:=dM X.env scope.names []) rfl hs (kZ (B.cells I)) B.kind (λy hy e=>gC B.nd (by rw[<-e];exact hy)) ?_) (λ_ s' hq=>Zx (Zx hq)) λ_ _ e=>e)
 refine thn (hi pins s σ H _ I h) λv s1 h1=>thn h1 λitv s2 h2=>?_;obtain⟨it,fp,tn,J,H2,e,I2,T,st2,f2,W,⟨m0,w0⟩,turn⟩:=h2;subst e;refine Zz (qU ?_);dsimp only;generalize hl:s2.heap.objs.size=l;generalize hh0:s2.heap.push { cls:=.type "list",dict:=none,data:=.seq ([]:List Value).toArray}=h0;have hsz0:h0.objs.size=l+1:=by rw[<-hh0,Heap.size_push,hl]
 generalize hC:h0.objs.size=C;generalize hh1:pushCells (h0.push { cls:=.type (if(some X.env).isSome=true then "dict" else "frame"),data:=.dict #[] }) scope.names=h1;have hl0:h0.get? l=some (cF [] 0):=by rw[<-hh0,<-hl];exact Zf _ rfl
 have hk0:∀b o,s2.heap.get? b=some o->h0.get? b=some o:=λb o e=>by rw[<-hh0];exact Zb _ e
 have hlC:l≠C:=by rw[<-hC,hsz0];exact Zk (Nat.lt_succ_self _)
 have hls:s2.heap.objs.size<=l:=Nat.le_of_eq hl;have hCs:s2.heap.objs.size<=C:=by rw[<-hC,hsz0,hl];exact Nat.le_succ _
 have ho2:∀b∈fp,∃o,s2.heap.get? b=some o:=λb hb=>let⟨o,e,_⟩:=T.obj 0 _ st2 b hb;⟨o,e⟩;have hfl:∀b∈fp,b≠l/\b≠C:=λb hb=>let⟨o,e⟩:=ho2 b hb;⟨Zk (Zc (Ze e) hls),Zk (Zc (Ze e) hCs)⟩;have hl1:h1.get? l=some (cF [] 0):=by rw[<-hh1];exact pushCells_keeps _ _ _ _ (Zb _ hl0)
 have keep1:∀b o,s2.heap.get? b=some o->h1.get? b=some o:=λb o e=>by rw[<-hh1];exact pushCells_keeps _ _ _ _ (Zb _ (hk0 b o e))
 generalize hcs:cellsFrom (C+1) scope.names (dM X.env scope.names [])=cs;have I0:Inv (gb X own cap scope cs C fp s2 H2) [] (cu own σ capI) H2 { s2 with heap:=h1}:=by
  have q:=I2.comp (tk:=s2.toks) B hown f2 ho2 hk0 (by rw[hsz0,hl];exact Nat.le_succ _) hC.symm hh1.symm
  rw[hcs]at q;exact q
 have henv:(newEnv scope C X.env.globals cs X.env.qual none .none (some X.env) builtinsNs)={ compEnvC scope cs C X.env with scope:=scope}:=rfl
 have henv2:({ newEnv scope C X.env.globals cs X.env.qual none .none (some X.env) builtinsNs with scope:=relabel scope X.env}:Env)=(gb X own cap scope cs C fp s2 H2).env:=rfl
 generalize hX':gb X own cap scope cs C fp s2 H2=X' at I0 henv2;have eP:X'.prog=X.prog:=by rw[<-hX'];rfl
 have eW:X'.w=X.w:=by rw[<-hX'];rfl
 have eK:X'.K=X.K:=by rw[<-hX'];rfl
 have eA:X'.A=X.A:=by rw[<-hX'];rfl
 have eFs:X'.fs=frs X.stack:=by rw[<-hX'];rfl
 have eEx:X'.ex=fp:=by rw[<-hX'];rfl
 have eS:X'.s₀=s2:=by rw[<-hX'];rfl
 have eH:X'.H₀=H2:=by rw[<-hX'];rfl
 have eL:X'.env.locals=C:=by rw[<-hX'];rfl
 have eC:X'.calm=true:=by rw[<-hX'];exact hc
 have eX:X'.xe=λ_ _=>False:=by rw[<-hX'];rfl
 have ePn:X'.pn=[]:=by rw[<-hX'];rfl
 have hg':PG X' tg g:=by rw[<-hX'];exact hg cs C fp s2 H2
 have ht':PIf X' ifs tt:=by rw[<-hX'];exact ht cs C fp s2 H2
 have he':PE X' elt te:=by rw[<-hX'];exact he cs C fp s2 H2
 have stat:∀{H':Hp}{P:List (Addr×Obj)},X'.Ok->(∀b∈fp,H' b=none)->(∀p∈P,p.1=l)->∀b∈fp,mL X' P H' b:=λ{H' P} ok hn hP b hb=>by
  refine⟨hn b hb,?_,?_,.inl (by rw[eEx];exact hb),?_,λp hp=>?_⟩
  .exact(ok.exf b (by rw[eEx];exact hb)).1
  .exact ok.exfs b (by rw[eEx];exact hb)
  .exact(ok.exf b (by rw[eEx];exact hb)).2
  .rw[ePn,List.nil_append]at hp;rw[hP p hp];exact Ne.symm (hfl b hb).1
 have lfs:X'.Ok->l∉X'.fs:=λok hz=>by
  rw[eFs]at hz;exact(Inv.nofs (X:=X) I2 hls) ((Zi.mp (I2.stkSub l hz)).elim (λz=>absurd I2.lt (by rw[<-z,hl];exact Nat.lt_irrefl _)) id)
 have pinL:∀{σ':St}{H':Hp}{s':Zsh}{us:List Value}{k:Nat},Inv X' [] σ' H' s'->s'.heap.get? l=some (cF us k)->H' l=none->Inv X' [(l,cF us k)] σ' H' s':=λ{σ' H' s' us k} I' e n=>
  I'.pins_of λp hp=>by
   obtain rfl:p=(l,cF us k):=by simpa using hp
   exact⟨e,n,by rw[eL];exact hlC,lfs I'.ok,λv z=>by cases z⟩
 have loop:∀s3:Zsh,s3={ s2 with heap:=h1}->codeAny (model X.prog X.w) X.A (.compLoop (.ListComp elt [⟨tg,iter,ifs,0⟩] scope pos) 0 (.ref it) (.ref l) X'.env) (compPost (model X.prog X.w) X.A X.xe (some (assign (.Name x₀ px₀) X.env)) (λ_ s'=>SP X pins D .next s') (.ref l) C) s3:=by
  rintro s3 rfl;refine yh (E':=λ_ _=>False) (λn s'=>∃i ys us k H',Inv X' [] (cu own σ capI) H' s'/\tn i s'.heap/\(∀b∈fp,H' b=none)/\W i n ys H'/\bM ys us/\s'.heap.get? l=some (cF us k)/\H' l=none/\ys.length<=sizeLine) (λ_ _ z=>z.elim) ?_ m0
   ⟨0,[],[],0,H2,I0,T.keep _ _ _ st2 λb _ o e=>keep1 b o e,λb hb=>(f2 b hb).1,w0,.nil,hl1,I2.hok.fresh hls,Nat.zero_le _⟩
  rintro n s3 ⟨i,ys,us,k,H3,I3,st3,fr3,w3,v3,o3,n3,z3⟩;have I3p:=pinL I3 o3 n3;have P1:∀p∈[(l,cF us k)],p.1=l:=λp hp=>by
   obtain rfl:p=(l,cF us k):=by simpa using hp
   rfl
  rcases turn i n ys H3 w3 with⟨stop,qn⟩|⟨go,hlt,step⟩
  .have q:=T.done X' eP eW eK eC i _ s3 _ H3 (λ_ _=>False) I3p (stat I3.ok fr3 P1) st3 stop;rw[eA]at q;refine Zy q (λr s4 ⟨hr,I4⟩=>?_) λ_ _ z=>z;subst hr;have pl:=I4.pin (l,cF us k) (by simp)
   obtain⟨m4,hn4,_⟩:=I4.loc;rw[eL]at hn4;have fC:H3 C=none:=by have:=I4.free;rw[eL]at this;exact this
   have IE:Inv X pins σ (upd H3 l (.lst ys)) s4:=by
    have:=I2.compEnd f2 eP eW eFs eEx eS eH eL I4 hls hlC hCs pl.1 n3 v3 z3 (Heap.SameBut.refl C s4.heap);exact this
   show wpAny _ X.A (assign (.Name x₀ px₀) X.env (.ref l)) _ _ s4;refine wpAny_assign_Name (xV IE hN hi₀ hx₀ (v:=.ref l) rfl (λs5 I5 ⟨a,sa,ha⟩=>?_) hf₀);have hnL:C≠X.env.locals:=Nat.ne_of_gt (Zc I2.lt hCs);have hnc:∀y c,X.env.cells.lookup y=some c->c≠C:=λy c e=>by
    obtain⟨v,q⟩:=I2.cell y c e;exact Zk (Zc q.lt hCs)
   have haC:C≠a:=by
    rcases ha with q|q
    .rw[q];exact hnL
    .exact Ne.symm (hnc _ _ q)
   obtain⟨o4,es4,ep4,ho4,r4⟩:=hn4;refine⟨m4,⟨o4,es4,ep4,(sa.2 C haC).trans ho4,r4⟩,λh' sb=>⟨_,_,?_,qn l n3⟩⟩;refine I5.turned (t':=s5.toks) (it:=C) (λb o hb e=>(sb.2 b hb).trans e) (by rw[aV (Ne.symm hlC)];exact fC) hnL (.inr (Zl I2.sz hCs)) hnc λp hp=>?_
   exact Zk (Zc (Ze (I2.pin p hp).1) hCs)
  .have q:=T.item X' eP eW eK eC i _ s3 _ H3 (λ_ _=>False) I3p (stat I3.ok fr3 P1) st3 go;rw[eA]at q;refine Zy q (λr s4 ⟨u,hr,h4⟩=>?_) λ_ _ z=>z;subst hr;refine Zy h4 (λ_ s5 ⟨x,H5,I5,r5,y5,st5,fr5⟩=>?_) λ_ _ z=>z;have I5':=I5.pinned (stat I5.ok fr5 P1) (T.obj _ _ st5);have a1:=hg' _ s5 _ H5 x u _ I5' r5 (step x H5 y5);rw[eP,eW,eA,eX]at a1;refine Zy a1 (λ_ s6 ⟨σ6,H6,I6,ft6,q6⟩=>?_) λ_ _ z=>z;have a2:=ht' _ s6 σ6 H6 _ I6 q6;rw[eP,eW,eA,eX]at a2;refine Zy a2 (λok s7 ⟨H7,I7,q7⟩=>?_) λ_ _ z=>z;have back:∀{H8:Hp}{s8:Zsh},Inv X' ([(l,cF us k)]++mD fp s5.heap) σ6 H8 s8->Inv X' [] (cu own σ capI) H8 s8/\tn (i+1) s8.heap/\(∀b∈fp,H8 b=none)/\s8.heap.get? l=some (cF us k)/\H8 l=none:=λ{H8 s8} I8=>by
    have pl:=I8.pin (l,cF us k) (by simp)
    refine⟨(I8.weak ft6.1.symm ft6.2).pins_of λp hp=>absurd hp (by simp),T.keep _ _ _ st5 λb hb o e=>?_,λb hb=>?_,pl.1,pl.2.1⟩
    .exact(I8.pin (b,o) (Zn _ (Zn _ (dg hb e)))).1
    .obtain⟨o,e,d⟩:=T.obj _ _ st5 b hb;exact(I8.pin (b,o) (Zn _ (Zn _ (dg hb e)))).2.1
   cases ok with
   |false=>
    rw[if_neg Zr];rw[if_neg Zr]at q7;obtain⟨m',hm,w7⟩:=q7;obtain⟨I8,st8,fr8,o8,n8⟩:=back I7;exact⟨m',hm,i+1,ys,us,k,H7,I8,st8,fr8,w7,v3,o8,n8,z3⟩
   |true=>
    rw[if_pos rfl];rw[if_pos rfl]at q7;have a3:=he' _ s7 σ6 H7 _ I7 q7;rw[eP,eW,eA,eX]at a3;refine Zy a3 (λyv s8 ⟨y,H8,I8',r8,m',hm,w8⟩=>?_) λ_ _ z=>z;obtain⟨I8,st8,fr8,o8,n8⟩:=back I8';refine append_at (hsz:=by show us.toArray.size<=sizeLine;rw[Zd,<-v3.length];exact z3) o8 λh9 sb9 o9=>?_
    have I9:Inv X' [] (cu own σ capI) H8 { s8 with heap:=h9}:=I8.turned (t':=s8.toks) (λb o hb e=>(sb9.2 b hb).trans e) n8 (by rw[eL];exact hlC) (.inr (by rw[eS];exact hls)) (λx c e=>by
     rintro rfl;obtain⟨v',ho',hd',hd''⟩:=I8.cell x c e;rw[o8]at hd';cases hd';cases hd'') (λp hp=>by rw[ePn]at hp;exact absurd hp (by simp))
    refine⟨m',hm,i+1,ys++[y],us++[yv],k+1,H8,I9,T.keep _ _ _ st8 λb hb o e=>(sb9.2 b (hfl b hb).1).trans e,fr8,w8,v3.append (.cons r8 .nil),?_,n8,?_⟩
    .rw[o9];simp[cF]
    .rw[ZG];exact hlt
 have T0:=T.keep 0 s2.heap h1 st2 λb _ o e=>keep1 b o e;rw[henv2];exact codeAny_compStart_list (loop _ rfl) (T.self X.A 0 _ _ _ T0 (loop _ rfl))
end
end L2
namespace L3
open PySem PySem.Spec PyProof.Rows L2
inductive D where
 |non|bl (b:Bool)|int (i:Int)|str (x:Str)|tup (ds:List D)|lst (ds:List D)|ro (ds:List D)|dic (kvs:List (Key×D))|cell (n:Nat)
abbrev Mu:=List (Option (List D))
abbrev En:=List (Option D)
mutual
def bN(K:Zw)(F:Hp)(ad:List Addr):D->V->Prop
 | .non,v=>v= .non
 | .bl b,v=>v= .bl b
 | .int i,v=>v= .int i
 | .str x,v=>v= .str x
 | .tup ds,v=>∃a xs,v= .ref a/\SqT K F a xs/\aG K F ad ds xs
 | .lst ds,v=>∃a xs,v= .ref a/\F a=some (.lst xs)/\aG K F ad ds xs
 | .ro ds,v=>∃a xs,v= .ref a/\SqL K F a xs/\aG K F ad ds xs
 | .dic kvs,v=>∃a ps,v= .ref a/\F a=some (.dK ps)/\jk K F ad kvs ps
 | .cell n,v=>∃a,v= .ref a/\ad[n]? =some a
def aG(K:Zw)(F:Hp)(ad:List Addr):List D->List V->Prop
 | [],vs=>vs=[]
 |d::ds,vs=>∃u us,vs=u::us/\bN K F ad d u/\aG K F ad ds us
def jk(K:Zw)(F:Hp)(ad:List Addr):List (Key×D)->List (Key×V)->Prop
 | [],vs=>vs=[]
 |p::ds,vs=>∃u us,vs=u::us/\(u.1=p.1/\bN K F ad p.2 u.2)/\jk K F ad ds us
end
def qK(a b:List Addr):Prop:=∀(i:Nat) x,a[i]? =some x->b[i]? =some x
theorem qK.refl(a:List Addr):qK a a:=λ_ _ e=>e
theorem qK.trans(x:qK a b)(y:qK b c):qK a c:=λi z e=>y i z (x i z e)
theorem SqT.mono{K:Zw}{F F':Hp}{a:Addr}{xs:List V}(s:pK F F')(h:SqT K F a xs):SqT K F' a xs:=by
 rcases h with(h|⟨o,h⟩)|h
 .exact .inl (.inl (s _ _ h))
 .exact .inl (.inr ⟨o,s _ _ h⟩)
 .exact .inr h
theorem SqL.mono{K:Zw}{F F':Hp}{a:Addr}{xs:List V}(s:pK F F')(h:SqL K F a xs):SqL K F' a xs:=by
 rcases h with(h|⟨o,h⟩)|h
 .exact .inl (.inl (s _ _ h))
 .exact .inl (.inr ⟨o,s _ _ h⟩)
 .exact .inr h
section
variable {K:Zw} {F F':Hp} {ad ad':List Addr}
mutual
theorem bN.mono(s:pK F F')(l:qK ad ad'):∀(d:D)(v:V),bN K F ad d v->bN K F' ad' d v
 | .non,v,h=>by unfold bN at h ⊢;exact h
 | .bl _,v,h=>by unfold bN at h ⊢;exact h
 | .int _,v,h=>by unfold bN at h ⊢;exact h
 | .str _,v,h=>by unfold bN at h ⊢;exact h
 | .tup ds,v,h=>by
  unfold bN at h ⊢;obtain⟨a,xs,e,q,r⟩:=h;exact⟨a,xs,e,SqT.mono s q,aG.mono s l ds xs r⟩
 | .lst ds,v,h=>by
  unfold bN at h ⊢;obtain⟨a,xs,e,q,r⟩:=h;exact⟨a,xs,e,s _ _ q,aG.mono s l ds xs r⟩
 | .ro ds,v,h=>by
  unfold bN at h ⊢;obtain⟨a,xs,e,q,r⟩:=h;exact⟨a,xs,e,SqL.mono s q,aG.mono s l ds xs r⟩
 | .dic kvs,v,h=>by
  unfold bN at h ⊢;obtain⟨a,ps,e,q,r⟩:=h;exact⟨a,ps,e,s _ _ q,jk.mono s l kvs ps r⟩
 | .cell n,v,h=>by
  unfold bN at h ⊢;obtain⟨a,e,q⟩:=h;exact⟨a,e,l _ _ q⟩
theorem aG.mono(s:pK F F')(l:qK ad ad'):∀(ds:List D)(vs:List V),aG K F ad ds vs->aG K F' ad' ds vs
 | [],vs,h=>by unfold aG at h ⊢;exact h
 |d::ds,vs,h=>by
  unfold aG at h ⊢;obtain⟨u,us,e,p,r⟩:=h;exact⟨u,us,e,bN.mono s l d u p,aG.mono s l ds us r⟩
theorem jk.mono(s:pK F F')(l:qK ad ad'):∀(ds:List (Key×D))(vs:List (Key×V)),jk K F ad ds vs->jk K F' ad' ds vs
 | [],vs,h=>by unfold jk at h ⊢;exact h
 |p::ds,vs,h=>by
  unfold jk at h ⊢;obtain⟨u,us,e,⟨p1,p2⟩,r⟩:=h;exact⟨u,us,e,⟨p1,bN.mono s l p.2 u.2 p2⟩,jk.mono s l ds us r⟩
end
theorem aG.nil:aG K F ad [] []:=by unfold aG;rfl
theorem aG.cons(h:bN K F ad d v)(r:aG K F ad ds vs):aG K F ad (d::ds) (v::vs):=by unfold aG;exact⟨v,vs,rfl,h,r⟩
theorem aG.length:∀{ds:List D}{vs:List V},aG K F ad ds vs->ds.length=vs.length
 | [],vs,h=>by unfold aG at h;subst h;rfl
 |d::ds,vs,h=>by
  unfold aG at h;obtain⟨u,us,rfl,_,r⟩:=h;rw[ZH,ZH,aG.length r]
theorem aG.get:∀{ds:List D}{vs:List V}{i:Nat}{d:D},aG K F ad ds vs->ds[i]? =some d->∃v,vs[i]? =some v/\bN K F ad d v
 | [],_,_,_,_,e=>by simp at e
 |d::ds,vs,0,x,h,e=>by
  unfold aG at h;obtain⟨u,us,rfl,p,r⟩:=h;simp at e;subst e;exact⟨u,rfl,p⟩
 |d::ds,vs,i+1,x,h,e=>by
  unfold aG at h;obtain⟨u,us,rfl,p,r⟩:=h;obtain⟨v,e1,e2⟩:=aG.get (i:=i) r (by simpa using e)
  exact⟨v,by simpa using e1,e2⟩
theorem aG.append:∀{ds es:List D}{vs us:List V},aG K F ad ds vs->aG K F ad es us->aG K F ad (ds++es) (vs++us)
 | [],es,vs,us,h,r=>by unfold aG at h;subst h;exact r
 |d::ds,es,vs,us,h,r=>by
  unfold aG at h;obtain⟨u,ws,rfl,p,q⟩:=h;exact aG.cons p (aG.append q r)
theorem aG.drop:∀{ds:List D}{vs:List V}(n:Nat),aG K F ad ds vs->aG K F ad (ds.drop n) (vs.drop n)
 |ds,vs,0,h=>h
 | [],vs,n+1,h=>by unfold aG at h;subst h;exact aG.nil
 |d::ds,vs,n+1,h=>by
  unfold aG at h;obtain⟨u,ws,rfl,p,q⟩:=h;exact aG.drop n q
theorem aG.take:∀{ds:List D}{vs:List V}(n:Nat),aG K F ad ds vs->aG K F ad (ds.take n) (vs.take n)
 |ds,vs,0,h=>aG.nil
 | [],vs,n+1,h=>by unfold aG at h;subst h;exact aG.nil
 |d::ds,vs,n+1,h=>by
  unfold aG at h;obtain⟨u,ws,rfl,p,q⟩:=h;exact aG.cons p (aG.take n q)
theorem aG.two(h:aG K F ad [d,e] vs):∃u v,vs=[u,v]/\bN K F ad d u/\bN K F ad e v:=by
 unfold aG at h;obtain⟨u,us,rfl,p,h⟩:=h;unfold aG at h;obtain⟨v,ws,rfl,q,h⟩:=h;unfold aG at h;subst h;exact⟨u,v,rfl,p,q⟩
theorem aG.one(h:aG K F ad [d] vs):∃u,vs=[u]/\bN K F ad d u:=by
 unfold aG at h;obtain⟨u,us,rfl,p,h⟩:=h;unfold aG at h;subst h;exact⟨u,rfl,p⟩
theorem aG.zero(h:aG K F ad [] vs):vs=[]:=by unfold aG at h;exact h
end
structure Wd where
 H:Hp
 ad:List Addr
 mu:Mu
def qN(ad:List Addr)(mu:Mu)(b:Addr):Prop:=∃(i:Nat)(ds:List D),ad[i]? =some b/\mu[i]? =some (some ds)
open Classical in
def Wd.fz(tb:List Addr)(W:Wd):Hp:=λb=>if qN W.ad W.mu b∨b∈tb then none else W.H b
abbrev Den(K:Zw)(tb:List Addr)(W:Wd):D->V->Prop:=bN K (W.fz tb) W.ad
abbrev dN(K:Zw)(tb:List Addr)(W:Wd):List D->List V->Prop:=aG K (W.fz tb) W.ad
structure WOk(K:Zw)(tb:List Addr)(W:Wd):Prop where
 len:W.ad.length=W.mu.length
 cont:∀(i:Nat) a ds,W.ad[i]? =some a->W.mu[i]? =some (some ds)->∃xs,W.H a=some (.lst xs)/\dN K tb W ds xs
 inj:∀(i j:Nat) a ds es,W.ad[i]? =some a->W.ad[j]? =some a->W.mu[i]? =some (some ds)->W.mu[j]? =some (some es)->i=j
 tab:∀P∈tb,∃ps,W.H P=some (.tbl ps)/\TOk W.H ps
structure Le(tb:List Addr)(W W':Wd):Prop where
 same:pK (W.fz tb) (W'.fz tb)
 ad:qK W.ad W'.ad
theorem Le.refl(W:Wd):Le tb W W:=⟨pK.refl _,qK.refl _⟩
theorem Le.trans(a:Le tb W W1)(b:Le tb W1 W2):Le tb W W2:=⟨a.same.trans b.same,a.ad.trans b.ad⟩
section
variable {K:Zw} {tb:List Addr} {W W':Wd} {d:D} {v:V} {ds:List D} {vs:List V}
theorem Den.mono'(h:Den K tb W d v)(l:Le tb W W'):Den K tb W' d v:=bN.mono l.same l.ad d v h
theorem dN.mono'(h:dN K tb W ds vs)(l:Le tb W W'):dN K tb W' ds vs:=aG.mono l.same l.ad ds vs h
theorem gw(h:W.fz tb b=some o):W.H b=some o/\¬qN W.ad W.mu b/\b∉tb:=by
 unfold Wd.fz at h;split at h
 .cases h
 .rename_i q;exact⟨h,λz=>q (.inl z),λz=>q (.inr z)⟩
theorem rZ(h1:¬qN W.ad W.mu b)(h2:b∉tb):W.fz tb b=W.H b:=by
 unfold Wd.fz;rw[if_neg];rintro(z|z)
 .exact h1 z
 .exact h2 z
theorem SqT.fz(h:SqT K (W.fz tb) a xs):SqT K W.H a xs:=by
 rcases h with(h|⟨o,h⟩)|h
 .exact .inl (.inl (gw h).1)
 .exact .inl (.inr ⟨o,(gw h).1⟩)
 .exact .inr h
theorem SqL.fz(h:SqL K (W.fz tb) a xs):SqL K W.H a xs:=by
 rcases h with(h|⟨o,h⟩)|h
 .exact .inl (.inl (gw h).1)
 .exact .inl (.inr ⟨o,(gw h).1⟩)
 .exact .inr h
theorem WOk.live(ok:WOk K tb W)(h:qN W.ad W.mu b):∃xs,W.H b=some (.lst xs):=by
 obtain⟨i,ds,e1,e2⟩:=h;obtain⟨xs,e,_⟩:=ok.cont i b ds e1 e2;exact⟨xs,e⟩
theorem WOk.alloc(ok:WOk K tb W)(hp:W.H p=none):WOk K tb ⟨upd W.H p o,W.ad,W.mu⟩/\Le tb W ⟨upd W.H p o,W.ad,W.mu⟩/\(Wd.fz tb ⟨upd W.H p o,W.ad,W.mu⟩) p=some o:=by
 have nl:¬qN W.ad W.mu p:=λz=>by obtain⟨xs,e⟩:=ok.live z;rw[hp]at e;cases e
 have nt:p∉tb:=λz=>by obtain⟨ps,e,_⟩:=ok.tab p z;rw[hp]at e;cases e
 have le:Le tb W ⟨upd W.H p o,W.ad,W.mu⟩:=⟨λb u e=>by
  obtain⟨e1,e2,e3⟩:=gw e;have hb:b≠p:=dZ e1 hp;have q:=rZ (tb:=tb) (W:=⟨upd W.H p o,W.ad,W.mu⟩) e2 e3;rw[q];show upd W.H p o b=some u;rw[aV hb];exact e1,qK.refl _⟩
 refine⟨⟨ok.len,λi a ds e1 e2=>?_,ok.inj,λP hP=>?_⟩,le,?_⟩
 .obtain⟨xs,e,r⟩:=ok.cont i a ds e1 e2;refine⟨xs,?_,dN.mono' r le⟩;show upd W.H p o a=_;rw[aV (dZ e hp)];exact e
 .obtain⟨ps,e,r⟩:=ok.tab P hP;refine⟨ps,?_,r.mono λc u q=>(aV (dZ q hp)).trans q⟩;show upd W.H p o P=_;rw[aV (dZ e hp)];exact e
 .have q:=rZ (tb:=tb) (W:=⟨upd W.H p o,W.ad,W.mu⟩) nl nt;rw[q];exact ie
theorem WOk.new(ok:WOk K tb W)(hp:W.H p=none)(r:dN K tb W ds vs):
  WOk K tb ⟨upd W.H p (.lst vs),W.ad++[p],W.mu++[some ds]⟩/\Le tb W ⟨upd W.H p (.lst vs),W.ad++[p],W.mu++[some ds]⟩/\Den K tb ⟨upd W.H p (.lst vs),W.ad++[p],W.mu++[some ds]⟩ (.cell W.mu.length) (.ref p):=by
 have adl:qK W.ad (W.ad++[p]):=λi x e=>by
  rw[Zs (Zh.mp e).1];exact e
 have lv:∀b,qN (W.ad++[p]) (W.mu++[some ds]) b->qN W.ad W.mu b∨b=p:=λb zq1=>by
  obtain⟨i,es,e1,e2⟩:=zq1;by_cases hi:i<W.ad.length
  .rw[Zs hi]at e1;rw[Zs (by rw[<-ok.len];exact hi)]at e2
   exact .inl ⟨i,es,e1,e2⟩
  .rw[List.getElem?_append_right (Nat.le_of_not_lt hi)]at e1
   right
   have:(i-W.ad.length)=0:=by
    have:=(Zh.mp e1).1;simp at this
    lia
   rw[this]at e1;simpa using e1.symm
 have le:Le tb W ⟨upd W.H p (.lst vs),W.ad++[p],W.mu++[some ds]⟩:=⟨λb u e=>by
  obtain⟨e1,e2,e3⟩:=gw e;have hb:b≠p:=dZ e1 hp;have q:=rZ (tb:=tb) (W:=⟨upd W.H p (.lst vs),W.ad++[p],W.mu++[some ds]⟩) (b:=b) (λz=>(lv b z).elim e2 hb) e3;rw[q];show upd W.H p (.lst vs) b=some u;rw[aV hb];exact e1,adl⟩
 refine⟨⟨by simp[ok.len],λi a es e1 e2=>?_,λi j a es fs e1 e2 e3 e4=>?_,λP hP=>?_⟩,le,?_⟩
 .by_cases hi:i<W.ad.length
  .have e1':W.ad[i]? =some a:=by rw[<-Zs (l₂:=[p]) hi];exact e1
   have e2':W.mu[i]? =some (some es):=by rw[<-Zs (l₂:=[some ds]) (by rw[<-ok.len];exact hi)];exact e2
   obtain⟨xs,e,q⟩:=ok.cont i a es e1' e2';refine⟨xs,?_,dN.mono' q le⟩;show upd W.H p (.lst vs) a=_;rw[aV (dZ e hp)];exact e
  .have h0:i=W.ad.length:=by
    have h1:i<(W.ad++[p]).length:=(Zh.mp e1).1;simp at h1
    lia
   have e1':(W.ad++[p])[i]? =some a:=e1;have e2':(W.mu++[some ds])[i]? =some (some es):=e2;rw[h0]at e1' e2';rw[ok.len]at e2';simp at e1' e2';subst e1' e2';exact⟨vs,ie,dN.mono' r le⟩
 .have old:∀(k:Nat) es,(W.ad++[p])[k]? =some a->(W.mu++[some ds])[k]? =some (some es)->(k<W.ad.length/\W.ad[k]? =some a/\W.mu[k]? =some (some es))∨(k=W.ad.length/\a=p):=λk es q1 q2=>by
   by_cases hk:k<W.ad.length
   .left
    refine⟨hk,?_,?_⟩
    .rw[<-Zs (l₂:=[p]) hk];exact q1
    .rw[<-Zs (l₂:=[some ds]) (by rw[<-ok.len];exact hk)];exact q2
   .right
    have h1:k<(W.ad++[p]).length:=(Zh.mp q1).1;simp at h1;have h0:k=W.ad.length:=by lia
    subst h0;simp at q1;exact⟨rfl,q1.symm⟩
  rcases old i es e1 e3 with⟨_,a1,a2⟩|⟨a1,a2⟩<;>rcases old j fs e2 e4 with⟨_,b1,b2⟩|⟨b1,b2⟩
  .exact ok.inj i j a es fs a1 b1 a2 b2
  .obtain⟨xs,e,_⟩:=ok.cont i a es a1 a2;rw[b2,hp]at e;cases e
  .obtain⟨xs,e,_⟩:=ok.cont j a fs b1 b2;rw[a2,hp]at e;cases e
  .rw[a1,b1]
 .obtain⟨ps,e,q⟩:=ok.tab P hP;refine⟨ps,?_,q.mono λc u q=>(aV (dZ q hp)).trans q⟩;show upd W.H p (.lst vs) P=_;rw[aV (dZ e hp)];exact e
 .show bN K _ _ (.cell W.mu.length) (.ref p);unfold bN;refine⟨p,rfl,?_⟩;rw[<-ok.len];simp
theorem WOk.write(ok:WOk K tb W)(e1:W.ad[i]? =some a)(e2:W.mu[i]? =some (some es))(r:dN K tb W ds vs):
  WOk K tb ⟨upd W.H a (.lst vs),W.ad,W.mu.set i (some ds)⟩/\Le tb W ⟨upd W.H a (.lst vs),W.ad,W.mu.set i (some ds)⟩:=by
 have hi:i<W.mu.length:=(Zh.mp e2).1;have lv:∀b,qN W.ad (W.mu.set i (some ds)) b->qN W.ad W.mu b:=λb zq2=>by
  obtain⟨j,fs,q1,q2⟩:=zq2;by_cases hj:i=j
  .subst hj;exact⟨i,es,q1,e2⟩
  .rw[List.getElem?_set_ne hj]at q2;exact⟨j,fs,q1,q2⟩
 have la:qN W.ad W.mu a:=⟨i,es,e1,e2⟩;have le:Le tb W ⟨upd W.H a (.lst vs),W.ad,W.mu.set i (some ds)⟩:=⟨λb u e=>by
  obtain⟨p1,p2,p3⟩:=gw e;have hb:b≠a:=λz=>p2 (z▸la);have q:=rZ (tb:=tb) (W:=⟨upd W.H a (.lst vs),W.ad,W.mu.set i (some ds)⟩) (b:=b) (λz=>p2 (lv b z)) p3;rw[q];show upd W.H a (.lst vs) b=some u;rw[aV hb];exact p1,qK.refl _⟩
 refine⟨⟨by show W.ad.length=(W.mu.set i (some ds)).length;rw[List.length_set];exact ok.len,λj b fs q1 q2=>?_,λj k b fs gs q1 q2 q3 q4=>?_,λP hP=>?_⟩,le⟩
 .have q2':(W.mu.set i (some ds))[j]? =some (some fs):=q2;by_cases hj:i=j
  .subst hj;have q1':W.ad[i]? =some b:=q1;rw[e1]at q1';cases q1';rw[List.getElem?_set_self hi]at q2';cases q2';exact⟨vs,ie,dN.mono' r le⟩
  .rw[List.getElem?_set_ne hj]at q2';obtain⟨xs,e,q⟩:=ok.cont j b fs q1 q2';refine⟨xs,?_,dN.mono' q le⟩;show upd W.H a (.lst vs) b=_;have hba:b≠a:=by
    intro z;subst z;exact hj (ok.inj i j b es fs e1 q1 e2 q2')
   rw[aV hba];exact e
 .have up:∀(j:Nat) fs,(W.mu.set i (some ds))[j]? =some (some fs)->∃gs,W.mu[j]? =some (some gs):=λj fs q=>by
   by_cases hj:i=j
   .subst hj;exact⟨es,e2⟩
   .rw[List.getElem?_set_ne hj]at q;exact⟨fs,q⟩
  obtain⟨fs',q3'⟩:=up j fs q3;obtain⟨gs',q4'⟩:=up k gs q4;exact ok.inj j k b fs' gs' q1 q2 q3' q4'
 .obtain⟨ps,e,q⟩:=ok.tab P hP;obtain⟨xs,ea,_⟩:=ok.cont i a es e1 e2;refine⟨ps,?_,q.mono λc u q=>(aV (Gf q ea (by intro z;cases z))).trans q⟩
  show upd W.H a (.lst vs) P=_;rw[aV (Gf e ea (by intro z;cases z))];exact e
theorem WOk.freeze(ok:WOk K tb W)(e1:W.ad[i]? =some a)(e2:W.mu[i]? =some (some es)):
  WOk K tb ⟨W.H,W.ad,W.mu.set i none⟩/\Le tb W ⟨W.H,W.ad,W.mu.set i none⟩/\Den K tb ⟨W.H,W.ad,W.mu.set i none⟩ (.lst es) (.ref a):=by
 have hi:i<W.mu.length:=(Zh.mp e2).1;have up:∀(j:Nat) fs,(W.mu.set i none)[j]? =some (some fs)->i≠j/\W.mu[j]? =some (some fs):=λj fs q=>by
  by_cases hj:i=j
  .subst hj;rw[List.getElem?_set_self hi]at q;cases q
  .rw[List.getElem?_set_ne hj]at q;exact⟨hj,q⟩
 have lv:∀b,qN W.ad (W.mu.set i none) b->qN W.ad W.mu b:=λb ⟨j,fs,q1,q2⟩=>⟨j,fs,q1,(up j fs q2).2⟩;have le:Le tb W ⟨W.H,W.ad,W.mu.set i none⟩:=⟨λb u e=>by
  obtain⟨p1,p2,p3⟩:=gw e;have q:=rZ (tb:=tb) (W:=⟨W.H,W.ad,W.mu.set i none⟩) (b:=b) (λz=>p2 (lv b z)) p3;rw[q];exact p1,qK.refl _⟩
 obtain⟨xs,ea,ra⟩:=ok.cont i a es e1 e2;refine⟨⟨by show W.ad.length=(W.mu.set i none).length;rw[List.length_set];exact ok.len,λj b fs q1 q2=>?_,λj k b fs gs q1 q2 q3 q4=>?_,ok.tab⟩,le,?_⟩
 .obtain⟨xs,e,q⟩:=ok.cont j b fs q1 (up j fs q2).2;exact⟨xs,e,dN.mono' q le⟩
 .exact ok.inj j k b fs gs q1 q2 (up j fs q3).2 (up k gs q4).2
 .show bN K _ _ (.lst es) (.ref a);unfold bN;refine⟨a,xs,rfl,?_,dN.mono' ra le⟩;have nl:¬qN W.ad (W.mu.set i none) a:=λzq3=>by
   obtain⟨j,fs,q1,q2⟩:=zq3;obtain⟨hj,q⟩:=up j fs q2;exact hj (ok.inj i j a es fs e1 q1 e2 q)
  have nt:a∉tb:=λz=>by
   obtain⟨ps,e,_⟩:=ok.tab a z;rw[ea]at e;cases e
  have q:=rZ (tb:=tb) (W:=⟨W.H,W.ad,W.mu.set i none⟩) nl nt;rw[q];exact ea
theorem WOk.tbl(ok:WOk K tb W){P:Addr}{lo:Nat}{ps ps':Array Value}{H':Hp}(hP:P∈tb)(e:W.H P=some (.tbl ps))(hG:Mh lo P ps ps' W.H H'):
  WOk K tb ⟨H',W.ad,W.mu⟩/\Le tb W ⟨H',W.ad,W.mu⟩:=by
 have le:Le tb W ⟨H',W.ad,W.mu⟩:=⟨λb u q=>by
  obtain⟨p1,p2,p3⟩:=gw q;have q:=rZ (tb:=tb) (W:=⟨H',W.ad,W.mu⟩) (b:=b) p2 p3;rw[q];exact hG.keep b u (λz=>p3 (z▸hP)) p1,qK.refl _⟩
 refine⟨⟨ok.len,λi a ds e1 e2=>?_,ok.inj,λQ hQ=>?_⟩,le⟩
 .obtain⟨xs,ea,r⟩:=ok.cont i a ds e1 e2;exact⟨xs,hG.keep a _ (Gf ea e (by intro z;cases z)) ea,dN.mono' r le⟩
 .by_cases hq:Q=P
  .subst hq;exact⟨ps',hG.tab,hG.ok⟩
  .obtain⟨qs,e',r⟩:=ok.tab Q hQ;exact⟨qs,hG.keep Q _ hq e',r.mono λc u q=>hG.keep c _ (Gf q e (by intro z;cases z)) q⟩
end
abbrev SV:=L2.St
abbrev EF:=En->Mu->Option (D×Mu)
abbrev AF:=En->Mu->Option (List D×Mu)
abbrev TF:=En->Mu->Option (Bool×Mu)
inductive Fl where
 |nx|bk|ct|rt (d:D)
abbrev SF:=En->Mu->Option (Fl×En×Mu)
def jF(K:Zw)(tb:List Addr)(W:Wd)(δ:En)(σ:SV):Prop:=δ.length=σ.length/\∀(i:Nat) d,δ[i]? =some (some d)->∃v,σ[i]? =some (some v)/\Den K tb W d v
section
variable {K:Zw} {tb:List Addr} {W W':Wd} {δ:En} {σ:SV}
theorem jF.mono'(h:jF K tb W δ σ)(l:Le tb W W'):jF K tb W' δ σ:=⟨h.1,λi d e=>let⟨v,e1,e2⟩:=h.2 i d e;⟨v,e1,Den.mono' e2 l⟩⟩
theorem jF.set(h:jF K tb W δ σ)(r:Den K tb W d v):jF K tb W (δ.set i (some d)) (σ.set i (some v)):=by
 refine⟨by rw[List.length_set,List.length_set];exact h.1,λj e q=>?_⟩
 by_cases hj:i=j
 .subst hj;have hi:i<δ.length:=by
   have:=(Zh.mp q).1
   rwa[List.length_set]at this
  rw[List.getElem?_set_self hi]at q;cases q;exact⟨v,by rw[List.getElem?_set_self (by rw[<-h.1];exact hi)],r⟩
 .rw[List.getElem?_set_ne hj]at q ⊢;exact h.2 j e q
end
inductive tD(K:Zw)(tb:List Addr)(f:EF)(σ:SV)(H:Hp)(Q:VK):Prop
 |mk (W) (δ) (d) (μ'):(W.H=H)->(WOk K tb W)->(jF K tb W δ σ)->(f δ W.mu=some (d,μ'))->(∀v W',WOk K tb W'->Le tb W W'->W'.mu=μ'->Den K tb W' d v->Q v W'.H)->tD K tb f σ H Q
inductive tDA(K:Zw)(tb:List Addr)(f:AF)(σ:SV)(H:Hp)(Q:List V->Hp->Prop):Prop
 |mk (W) (δ) (ds) (μ'):(W.H=H)->(WOk K tb W)->(jF K tb W δ σ)->(f δ W.mu=some (ds,μ'))->(∀vs W',WOk K tb W'->Le tb W W'->W'.mu=μ'->dN K tb W' ds vs->Q vs W'.H)->tDA K tb f σ H Q
inductive tDT(K:Zw)(tb:List Addr)(f:TF)(σ:SV)(H:Hp)(Q:Bool->Hp->Prop):Prop
 |mk (W) (δ) (b) (μ'):(W.H=H)->(WOk K tb W)->(jF K tb W δ σ)->(f δ W.mu=some (b,μ'))->(∀W',WOk K tb W'->Le tb W W'->W'.mu=μ'->Q b W'.H)->tDT K tb f σ H Q
def EndD(K:Zw)(tb:List Addr)(E:Ends)(fl:Fl)(σ:SV)(W:Wd):Prop:=match fl with
 | .nx=>E.nx σ W.H
 | .bk=>E.bk σ W.H
 | .ct=>E.ct σ W.H
 | .rt d=>∀v,Den K tb W d v->E.rt v W.H
inductive tDS(K:Zw)(tb:List Addr)(g:SF)(E:Ends)(σ:SV)(H:Hp):Prop
 |mk (W) (δ) (fl) (δ') (μ'):(W.H=H)->(WOk K tb W)->(jF K tb W δ σ)->(g δ W.mu=some (fl,δ',μ'))->(∀σ' W',WOk K tb W'->Le tb W W'->W'.mu=μ'->jF K tb W' δ' σ'->EndD K tb E fl σ' W')->tDS K tb g E σ H
def PD(X:Cx)(tb:List Addr)(e:Expr)(f:EF):Prop:=PE X e (tD X.K tb f)
def PAD(X:Cx)(tb:List Addr)(es:List Expr)(f:AF):Prop:=PA X es (tDA X.K tb f)
def PTD(X:Cx)(tb:List Addr)(e:Expr)(f:TF):Prop:=PT X e (tDT X.K tb f)
def PWD(X:Cx)(tb:List Addr)(e:Expr)(f:TF):Prop:=PW X e (tDT X.K tb f)
def PSD(X:Cx)(tb:List Addr)(st:Stmt)(g:SF):Prop:=PS X st (tDS X.K tb g)
def ut(X:Cx)(tb:List Addr)(st:List Stmt)(g:SF):Prop:=PSs X st (tDS X.K tb g)
theorem gW(h:PE X e t)(k:∀σ H Q,t' σ H Q->t σ H Q):PE X e t':=λpins s σ H Q I hq=>h pins s σ H Q I (k σ H Q hq)
theorem Ko(h:PA X e t)(k:∀σ H Q,t' σ H Q->t σ H Q):PA X e t':=λpos pins s σ H Q I hq=>h pos pins s σ H Q I (k σ H Q hq)
theorem Gj(h:PT X e t)(k:∀σ H Q,t' σ H Q->t σ H Q):PT X e t':=λpins s σ H Q I hq=>h pins s σ H Q I (k σ H Q hq)
theorem Tr(h:PW X e t)(k:∀σ H Q,t' σ H Q->t σ H Q):PW X e t':=λwh pins s σ H Q I hq=>h wh pins s σ H Q I (k σ H Q hq)
theorem mX(h:PS X e t)(k:∀E σ H,t' E σ H->t E σ H):PS X e t':=λpins s σ H E I hq=>h pins s σ H E I (k E σ H hq)
theorem Oh(h:PSs X e t)(k:∀E σ H,t' E σ H->t E σ H):PSs X e t':=λpins s σ H E I hq=>h pins s σ H E I (k E σ H hq)
def aq(i:Nat):EF:=λδ μ=>match δ[i]? with
 |some (some d)=>some (d,μ)
 |_=>none
def mC(d:D):EF:=λ_ μ=>some (d,μ)
def M1(fa:EF)(op:D->Mu->Option (D×Mu)):EF:=λδ μ=>(fa δ μ).bind λr=>op r.1 r.2
def M2(fa fb:EF)(op:D->D->Mu->Option (D×Mu)):EF:=λδ μ=>(fa δ μ).bind λr=>(fb δ r.2).bind λq=>op r.1 q.1 q.2
def az:AF:=λ_ μ=>some ([],μ)
def ao(f:EF)(fs:AF):AF:=λδ μ=>(f δ μ).bind λr=>(fs δ r.2).bind λq=>some (r.1::q.1,q.2)
def MC(fs:AF)(op:List D->Mu->Option (D×Mu)):EF:=λδ μ=>(fs δ μ).bind λr=>op r.1 r.2
def RD1(K:Zw)(tb:List Addr)(r:V->Hp->VK->Prop)(op:D->Mu->Option (D×Mu)):Prop:=∀(W:Wd)(x:D)(v:V)(d:D)(μ':Mu)(Q:VK),WOk K tb W->Den K tb W x v->op x W.mu=some (d,μ')->
 (∀v W',WOk K tb W'->Le tb W W'->W'.mu=μ'->Den K tb W' d v->Q v W'.H)->r v W.H Q
def RD2(K:Zw)(tb:List Addr)(r:R2)(op:D->D->Mu->Option (D×Mu)):Prop:=∀(W:Wd)(x y:D)(v u:V)(d:D)(μ':Mu)(Q:VK),WOk K tb W->Den K tb W x v->Den K tb W y u->op x y W.mu=some (d,μ')->
 (∀v W',WOk K tb W'->Le tb W W'->W'.mu=μ'->Den K tb W' d v->Q v W'.H)->r v u W.H Q
def RDN(K:Zw)(tb:List Addr)(r:List V->Hp->VK->Prop)(op:List D->Mu->Option (D×Mu)):Prop:=∀(W:Wd)(xs:List D)(vs:List V)(d:D)(μ':Mu)(Q:VK),WOk K tb W->dN K tb W xs vs->op xs W.mu=some (d,μ')->
 (∀v W',WOk K tb W'->Le tb W W'->W'.mu=μ'->Den K tb W' d v->Q v W'.H)->r vs W.H Q
section
variable {K:Zw} {tb:List Addr}
theorem put{W:Wd}{Q:VK}{d:D}{v:V}(ok:WOk K tb W)(h:∀v W',WOk K tb W'->Le tb W W'->W'.mu=W.mu->Den K tb W' d v->Q v W'.H)(r:Den K tb W d v):Q v W.H:=h v W ok (Le.refl _) rfl r
theorem gk:Den K tb W (.int i) (.int i):=by show bN _ _ _ _ _;unfold bN;rfl
theorem gK:Den K tb W (.bl b) (.bl b):=by show bN _ _ _ _ _;unfold bN;rfl
theorem uH:Den K tb W .non .non:=by show bN _ _ _ _ _;unfold bN;rfl
theorem Fv:Den K tb W (.str x) (.str x):=by show bN _ _ _ _ _;unfold bN;rfl
theorem bF(h:Den K tb W (.int i) v):v= .int i:=by have h:bN _ _ _ _ _:=h;unfold bN at h;exact h
theorem lN(h:Den K tb W (.bl b) v):v= .bl b:=by have h:bN _ _ _ _ _:=h;unfold bN at h;exact h
theorem rM(h:Den K tb W .non v):v= .non:=by have h:bN _ _ _ _ _:=h;unfold bN at h;exact h
theorem nG(h:Den K tb W (.str x) v):v= .str x:=by have h:bN _ _ _ _ _:=h;unfold bN at h;exact h
theorem jP(h:Den K tb W (.tup ds) v):∃a xs,v= .ref a/\SqT K (W.fz tb) a xs/\dN K tb W ds xs:=by have h:bN _ _ _ _ _:=h;unfold bN at h;exact h
theorem qD(h:Den K tb W (.lst ds) v):∃a xs,v= .ref a/\W.fz tb a=some (.lst xs)/\dN K tb W ds xs:=by have h:bN _ _ _ _ _:=h;unfold bN at h;exact h
theorem ph(h:Den K tb W (.lst ds) v):∃a xs,v= .ref a/\SqL K (W.fz tb) a xs/\dN K tb W ds xs:=let⟨a,xs,e,q,r⟩:=qD h;⟨a,xs,e,SqL.of q,r⟩
theorem zR(h:Den K tb W (.ro ds) v):∃a xs,v= .ref a/\SqL K (W.fz tb) a xs/\dN K tb W ds xs:=by have h:bN _ _ _ _ _:=h;unfold bN at h;exact h
theorem Uy(h:Den K tb W (.dic kvs) v):∃a ps,v= .ref a/\W.fz tb a=some (.dK ps)/\jk K (W.fz tb) W.ad kvs ps:=by have h:bN _ _ _ _ _:=h;unfold bN at h;exact h
theorem jB(h:Den K tb W (.cell n) v):∃a,v= .ref a/\W.ad[n]? =some a:=by have h:bN _ _ _ _ _:=h;unfold bN at h;exact h
theorem oZ{W:Wd}{Q:VK}{ds:List D}{vs:List V}{p:Addr}(ok:WOk K tb W)(h:∀v W',WOk K tb W'->Le tb W W'->W'.mu=W.mu->Den K tb W' (.tup ds) v->Q v W'.H)(r:dN K tb W ds vs)(hp:W.H p=none):Q (.ref p) (upd W.H p (.tup vs)):=by
 obtain⟨ok',le,e⟩:=ok.alloc (o:=.tup vs) hp;refine h (.ref p) _ ok' le rfl ?_;show bN _ _ _ _ _;unfold bN;exact⟨p,vs,rfl,.inl (.inl e),dN.mono' r le⟩
theorem mZ{W:Wd}{Q:VK}{ds:List D}{vs:List V}{p:Addr}(ok:WOk K tb W)(h:∀v W',WOk K tb W'->Le tb W W'->W'.mu=W.mu->Den K tb W' (.lst ds) v->Q v W'.H)(r:dN K tb W ds vs)(hp:W.H p=none):Q (.ref p) (upd W.H p (.lst vs)):=by
 obtain⟨ok',le,e⟩:=ok.alloc (o:=.lst vs) hp;refine h (.ref p) _ ok' le rfl ?_;show bN _ _ _ _ _;unfold bN;exact⟨p,vs,rfl,e,dN.mono' r le⟩
end
section
variable {X:Cx} {tb:List Addr} {a b c e:Expr} {fa fb fc f:EF} {pos:Pos}
theorem Uu{i:Nat}{x:Str}(hN:X.N[i]? =some x)(hv:Vis X.env.scope x)(hd:(x==("__debug__":Str))=false:=by decide)(hcd:(x==("__classdict__":Str))=false:=by decide):PD X tb (.Name x pos) (aq i):=
 gW (Uk hN hv hd hcd) λσ H Q zq1=>by
  obtain⟨W,δ,d,μ',e,ok,hd,hf,h⟩:=zq1;subst e;unfold aq at hf;split at hf
  .rename_i d' e;cases hf;obtain⟨v,ev,r⟩:=hd.2 i _ e;exact⟨v,ev,put ok h r⟩
  .cases hf
theorem ql{d:D}{v:V}(hp:PE X e (tC v))(hd:∀W,Den X.K tb W d v):PD X tb e (mC d):=
 gW hp λσ H Q zq2=>by
  obtain⟨W,δ,d',μ',e,ok,_,hf,h⟩:=zq2;subst e;cases hf;exact put ok h (hd W)
theorem aA{i j}:PD X tb (.Constant (.int i) j pos) (mC (.int i)):=ql Lh λ_=>gk
theorem fM{i j}:PD X tb (.Constant (.bool i) j pos) (mC (.bl i)):=ql Xv λ_=>gK
theorem Dk{j}:PD X tb (.Constant .none j pos) (mC .non):=ql Ue λ_=>uH
theorem CT{i j}:PD X tb (.Constant (.str i) j pos) (mC (.str i)):=ql Uv λ_=>Fv
structure GD(K:Zw)(mg:Str->Option Value)(x:Str)(d:D):Prop where
 is:∃u v,mg x=some u/\cI v u/\∀F ad,bN K F ad d v
theorem Ss(G:GD X.K X.mg x d)(hg:Gl X x)(hd:(x==("__debug__":Str))=false:=by decide):PD X tb (.Name x pos) (mC d):=by
 obtain⟨u,v,e,r,q⟩:=G.is;exact ql (Te hg e r hd) λW=>q _ _
theorem VR{r:V->Hp->VK->Prop}(hp:∀ta,PE X a ta->PE X e (tUn r ta))(ho:RD1 X.K tb r op)(ha:PD X tb a fa):PD X tb e (M1 fa op):=
 gW (hp _ ha) λσ H Q zq3=>by
  obtain⟨W,δ,d,μ',e,ok,hd,hf,h⟩:=zq3;unfold M1 at hf;obtain⟨⟨x,μ1⟩,e1,e2⟩:=Zbs hf;exact⟨W,δ,x,μ1,e,ok,hd,e1,λv W1 ok1 l1 m1 d1=>ho W1 x v d μ' Q ok1 d1 (by rw[m1];exact e2) λv' W' ok' l' m' d'=>h v' W' ok' (l1.trans l') m' d'⟩
theorem DY(hp:∀ta tb,PE X a ta->PE X b tb->PE X e (tOp r ta tb))(ho:RD2 X.K tb r op)(ha:PD X tb a fa)(hb:PD X tb b fb):PD X tb e (M2 fa fb op):=
 gW (hp _ _ ha hb) λσ H Q zq4=>by
  obtain⟨W,δ,d,μ',e,ok,hd,hf,h⟩:=zq4;unfold M2 at hf;obtain⟨⟨x,μ1⟩,e1,hf⟩:=Zbs hf;obtain⟨⟨y,μ2⟩,e2,e3⟩:=Zbs hf;refine⟨W,δ,x,μ1,e,ok,hd,e1,λv W1 ok1 l1 m1 d1=>⟨W1,δ,y,μ2,rfl,ok1,hd.mono' l1,(by rw[m1];exact e2),λu W2 ok2 l2 m2 d2=>?_⟩⟩
  exact ho W2 x y v u d μ' Q ok2 (Den.mono' d1 l2) d2 (by rw[m2];exact e3) λv' W' ok' l' m' d'=>h v' W' ok' ((l1.trans l2).trans l') m' d'
theorem au:PAD X tb [] az:=Ko yp λσ H Q zq5=>by
 obtain⟨W,δ,d,μ',e,ok,hd,hf,h⟩:=zq5;subst e;cases hf;exact h [] W ok (Le.refl _) rfl aG.nil
theorem aa(ha:PD X tb e f)(hr:PAD X tb es fs)(hs:starEach (e::es) X.env=(false,eval e X.env)::starEach es X.env:=by rfl):PAD X tb (e::es) (ao f fs):=
 Ko (sH ha hr hs) λσ H Q zq6=>by
  obtain⟨W,δ,ds,μ',e,ok,hd,hf,h⟩:=zq6;unfold ao at hf;obtain⟨⟨x,μ1⟩,e1,hf⟩:=Zbs hf;obtain⟨⟨xs,μ2⟩,e2,e3⟩:=Zbs hf;cases e3;refine⟨W,δ,x,μ1,e,ok,hd,e1,λv W1 ok1 l1 m1 d1=>⟨W1,δ,xs,_,rfl,ok1,hd.mono' l1,(by rw[m1];exact e2),λvs W2 ok2 l2 m2 d2=>?_⟩⟩
  exact h (v::vs) W2 ok2 (l1.trans l2) m2 (aG.cons (Den.mono' d1 l2) d2)
theorem Ak{r:List V->Hp->VK->Prop}(hp:∀ta,PA X es ta->PE X e (tCB r ta))(ho:RDN X.K tb r op)(ha:PAD X tb es fs):PD X tb e (MC fs op):=
 gW (hp _ ha) λσ H Q zq7=>by
  obtain⟨W,δ,d,μ',e,ok,hd,hf,h⟩:=zq7;unfold MC at hf;obtain⟨⟨x,μ1⟩,e1,e2⟩:=Zbs hf;exact⟨W,δ,x,μ1,e,ok,hd,e1,λv W1 ok1 l1 m1 d1=>ho W1 x v d μ' Q ok1 d1 (by rw[m1];exact e2) λv' W' ok' l' m' d'=>h v' W' ok' (l1.trans l') m' d'⟩
def bz(ds:List D)(μ:Mu):Option (D×Mu):=if ds.length<=sizeLine then some (.tup ds,μ)else none
def gU(ds:List D)(μ:Mu):Option (D×Mu):=if ds.length<=sizeLine then some (.lst ds,μ)else none
theorem aQ{es:List Expr}{fs:AF}{x1}(h:PAD X tb es fs):PD X tb (.Tuple es x1 pos) (MC fs bz):=
 Ak (r:=λxs H Q=>xs.length<=sizeLine/\∀p,H p=none->Q (.ref p) (upd H p (.tup xs))) (λta h=>Uc h) (λW xs vs d μ' Q ok r ho h=>by
  unfold bz at ho;split at ho
  .rename_i hl;cases ho;exact⟨by rw[<-aG.length r];exact hl,λp hp=>oZ ok h r hp⟩
  .cases ho) h
theorem gV{es:List Expr}{fs:AF}(h:PAD X tb es fs):PD X tb (.List es pos) (MC fs gU):=
 Ak (r:=λxs H Q=>xs.length<=sizeLine/\∀p,H p=none->Q (.ref p) (upd H p (.lst xs))) (λta h=>MN h) (λW xs vs d μ' Q ok r ho h=>by
  unfold gU at ho;split at ho
  .rename_i hl;cases ho;exact⟨by rw[<-aG.length r];exact hl,λp hp=>mZ ok h r hp⟩
  .cases ho) h
def zO:D->Mu->Option Bool
 | .bl b,_=>some b
 | .int i,_=>some (i != 0)
 | .non,_=>some false
 | .tup ds,_=>some !ds.isEmpty
 | .lst ds,_=>some !ds.isEmpty
 | .cell n,μ=>match μ[n]? with
  |some (some ds)=>some !ds.isEmpty
  |_=>none
 |_,_=>none
end
section
variable {K:Zw} {tb:List Addr}
theorem QM(ok:WOk K tb W)(h:Den K tb W x v)(e:zO x W.mu=some k):Vf K v W.H k:=by
 cases x with
 |non=>rw[rM h];cases e;rfl
 |bl b=>rw[lN h];cases e;rfl
 |int i=>rw[bF h];cases e;rfl
 |str y=>cases e
 |dic y=>cases e
 |ro y=>cases e
 |tup ds=>
  obtain⟨a,xs,rfl,q,r⟩:=jP h;cases e;refine .inr (.inl ⟨xs,SqT.fz q,?_⟩);have:=aG.length r;cases ds<;>cases xs<;>simp_all
 |lst ds=>
  obtain⟨a,xs,rfl,q,r⟩:=ph h;cases e;refine .inl ⟨xs,SqL.fz q,?_⟩;have:=aG.length r;cases ds<;>cases xs<;>simp_all
 |cell n=>
  obtain⟨a,rfl,q⟩:=jB h;have e':(match W.mu[n]? with|some (some ds)=>some !ds.isEmpty|_=>none)=some k:=e
  cases e2:W.mu[n]? with
  |none=>rw[e2]at e';cases e'
  |some o=>
   cases o with
   |none=>rw[e2]at e';cases e'
   |some ds=>
    rw[e2]at e';have e'':some (!ds.isEmpty)=some k:=e';cases e'';obtain⟨xs,e3,r⟩:=ok.cont n a ds q e2;refine .inl ⟨xs,SqL.of e3,?_⟩;have:=aG.length r;cases ds<;>cases xs<;>simp_all
end
section
variable {X:Cx} {tb:List Addr} {a b c e:Expr} {fa fb fc f:EF} {ta tc:TF} {pos:Pos}
def gB(f:EF):TF:=λδ μ=>(f δ μ).bind λr=>(zO r.1 r.2).map λk=>(k,r.2)
theorem cN(h:PD X tb e f)(he:∀whole,isTrue e X.env whole=(do let v<-whole;standAt e.pos;holding [v] (truthy v)):=by intro _;rfl):PTD X tb e (gB f):=
 Gj (Km h he) λσ H Q zq1=>by
  obtain⟨W,δ,k,μ',e,ok,hd,hf,h⟩:=zq1;unfold gB at hf;obtain⟨⟨x,μ1⟩,e1,e2⟩:=Zbs hf;obtain⟨k',e3,e4⟩:=Zp.mp e2;cases (e4);exact⟨W,δ,x,_,e,ok,hd,e1,λv W1 ok1 l1 m1 d1=>⟨k,QM ok1 d1 (by rw[m1];exact e3),h W1 ok1 l1 m1⟩⟩
structure OpD(X:Cx)(tb:List Addr)(sem:Value->Value->Sem Value)(op:D->D->Mu->Option (D×Mu)):Prop where
 ex:∃r,OpR X sem r/\RD2 X.K tb r op
theorem aJ(ho:OpD X tb (binaryOp o) op)(ha:PD X tb a fa)(hb:PD X tb b fb):PD X tb (.BinOp a o b pos) (M2 fa fb op):=by
 obtain⟨r,h1,h2⟩:=ho.ex;exact DY (λta tb ha hb=>Ju h1 ha hb) h2 ha hb
theorem lJ(ho:OpD X tb (compareOp o) op)(ha:PD X tb a fa)(hb:PD X tb b fb)(hm:behindInMarks o b=false:=by first|exact Ae _ (by decide) (by decide)|rfl):PD X tb (.Compare a [o] [b] pos) (M2 fa fb op):=by
 obtain⟨r,h1,h2⟩:=ho.ex;exact DY (λta tb ha hb=>PJ h1 ha hb hm) h2 ha hb
def toB(f:EF):TF:=λδ μ=>(f δ μ).bind λr=>match r.1 with
 | .bl k=>some (k,r.2)
 |_=>none
theorem bJ(ho:OpD X tb (compareOp o) op)(ha:PD X tb a fa)(hb:PD X tb b fb)(hm:behindInMarks o b=false:=by first|exact Ae _ (by decide) (by decide)|rfl):PTD X tb (.Compare a [o] [b] pos) (toB (M2 fa fb op)):=by
 obtain⟨r,h1,h2⟩:=ho.ex;refine Gj (Pr h1 ha hb hm) λσ H Q zq2=>?_;obtain⟨W,δ,k,μ',e,ok,hd,hf,h⟩:=zq2;unfold toB at hf;obtain⟨⟨z,μz⟩,hf,ez⟩:=Zbs hf;unfold M2 at hf;obtain⟨⟨x,μ1⟩,e1,hf⟩:=Zbs hf;obtain⟨⟨y,μ2⟩,e2,e3⟩:=Zbs hf;cases z with
 |bl k'=>
  cases (ez);refine⟨W,δ,x,μ1,e,ok,hd,e1,λv W1 ok1 l1 m1 d1=>⟨W1,δ,y,μ2,rfl,ok1,hd.mono' l1,(by rw[m1];exact e2),λu W2 ok2 l2 m2 d2=>?_⟩⟩
  refine h2 W2 x y v u _ _ _ ok2 (Den.mono' d1 l2) d2 (by rw[m2];exact e3) λv' W' ok' l' m' d'=>?_
  exact⟨k,lN d',h W' ok' ((l1.trans l2).trans l') m'⟩
 |_=>cases (ez)
def MCh(fa fb fc:EF)(op op':D->D->Mu->Option (D×Mu)):EF:=λδ μ=>(fa δ μ).bind λr=>(fb δ r.2).bind λq=>(op r.1 q.1 q.2).bind λz=>match z.1 with
 | .bl true=>(fc δ z.2).bind λt=>op' q.1 t.1 t.2
 | .bl false=>some (.bl false,z.2)
 |_=>none
theorem BJ(h1:RD2 X.K tb r op)(h2:RD2 X.K tb r' op')(h:tD X.K tb (MCh fa fb fc op op') σ H Q):Dj r r' (tD X.K tb fa) (tD X.K tb fb) (tD X.K tb fc) σ H Q:=by
 obtain⟨W,δ,d,μ',e,ok,hd,hf,h⟩:=h;unfold MCh at hf;obtain⟨⟨x,μ1⟩,e1,hf⟩:=Zbs hf;obtain⟨⟨y,μ2⟩,e2,hf⟩:=Zbs hf;obtain⟨⟨z,μ3⟩,e3,hf⟩:=Zbs hf;refine⟨W,δ,x,μ1,e,ok,hd,e1,λv W1 ok1 l1 m1 d1=>⟨W1,δ,y,μ2,rfl,ok1,hd.mono' l1,(by rw[m1];exact e2),λu W2 ok2 l2 m2 d2=>?_⟩⟩
 refine h1 W2 x y v u _ _ _ ok2 (Den.mono' d1 l2) d2 (by rw[m2];exact e3) λv' W3 ok3 l3 m3 d3=>?_
 cases z with
 |bl k=>
  cases k with
  |true=>
  refine⟨true,lN d3,?_⟩;rw[if_pos rfl];obtain⟨⟨t,μ4⟩,e4,e5⟩:=Zbs hf;refine⟨W3,δ,t,μ4,rfl,ok3,hd.mono' ((l1.trans l2).trans l3),(by rw[m3];exact e4),λw' W4 ok4 l4 m4 d4=>?_⟩
  exact h2 W4 y t u w' _ _ _ ok4 (Den.mono' d2 (l3.trans l4)) d4 (by rw[m4];exact e5) λv'' W' ok' l' m' d'=>h v'' W' ok' ((((l1.trans l2).trans l3).trans l4).trans l') m' d'
  |false=>
  cases hf;refine⟨false,lN d3,?_⟩;rw[if_neg Zr];exact h _ W3 ok3 ((l1.trans l2).trans l3) m3 gK
 |_=>cases hf
theorem KH(ho:OpD X tb (compareOp o) op)(ho':OpD X tb (compareOp o') op')(ha:PD X tb a fa)(hb:PD X tb b fb)(hc:PD X tb c fc)
  (hm:lastMarks [o,o'] [b,c]=false:=by with_unfolding_all rfl):PD X tb (.Compare a [o,o'] [b,c] pos) (MCh fa fb fc op op'):=by
 obtain⟨r,h1,h2⟩:=ho.ex;obtain⟨r',h1',h2'⟩:=ho'.ex;exact gW (Lf h1 h1' ha hb hc hm) λσ H Q h=>BJ h2 h2' h
theorem Hu(ho:OpD X tb (compareOp o) op)(ho':OpD X tb (compareOp o') op')(ha:PD X tb a fa)(hb:PD X tb b fb)(hc:PD X tb c fc)
  (hm:lastMarks [o,o'] [b,c]=false:=by with_unfolding_all rfl):PTD X tb (.Compare a [o,o'] [b,c] pos) (toB (MCh fa fb fc op op')):=by
 obtain⟨r,h1,h2⟩:=ho.ex;obtain⟨r',h1',h2'⟩:=ho'.ex;refine Gj (Mg h1 h1' ha hb hc hm) λσ H Q zq3=>?_;obtain⟨W,δ,k,μ',e,ok,hd,hf,h⟩:=zq3;unfold toB at hf;obtain⟨⟨z,μz⟩,hf2,ez⟩:=Zbs hf;cases z with
 |bl k'=>
  cases (ez);exact BJ h2 h2' ⟨W,δ,_,_,e,ok,hd,hf2,λv W' ok' l' m' d'=>⟨k,lN d',h W' ok' l' m'⟩⟩
 |_=>cases (ez)
def pR(ta tc:TF):TF:=λδ μ=>(ta δ μ).bind λr=>if r.1=true then tc δ r.2 else some (false,r.2)
def gf(ta tc:TF):TF:=λδ μ=>(ta δ μ).bind λr=>if r.1=true then some (true,r.2)else tc δ r.2
def cO(ta:TF):TF:=λδ μ=>(ta δ μ).bind λr=>some (!r.1,r.2)
theorem Bt(ha:PTD X tb a ta):PWD X tb (.BoolOp .And [a] pos) ta:=Qm ha
theorem gR(ha:PTD X tb a ta):PWD X tb (.BoolOp .Or [a] pos) ta:=VD ha
theorem Fg{rest:List Expr}(ha:PTD X tb a ta)(hb:PWD X tb (.BoolOp .And (b::rest) pos) tc):PWD X tb (.BoolOp .And (a::b::rest) pos) (pR ta tc):=
 Tr (VF ha hb) λσ H Q zq4=>by
  obtain⟨W,δ,k,μ',e,ok,hd,hf,h⟩:=zq4;unfold pR at hf;obtain⟨⟨z,μz⟩,e1,e2⟩:=Zbs hf;refine⟨W,δ,z,μz,e,ok,hd,e1,λW1 ok1 l1 m1=>?_⟩;cases z with
  |true=>exact⟨W1,δ,k,μ',rfl,ok1,hd.mono' l1,(by rw[m1];exact e2),λW' ok' l' m'=>h W' ok' (l1.trans l') m'⟩
  |false=>cases e2;exact h W1 ok1 l1 m1
theorem fY{rest:List Expr}(ha:PTD X tb a ta)(hb:PWD X tb (.BoolOp .Or (b::rest) pos) tc):PWD X tb (.BoolOp .Or (a::b::rest) pos) (gf ta tc):=
 Tr (YX ha hb) λσ H Q zq5=>by
  obtain⟨W,δ,k,μ',e,ok,hd,hf,h⟩:=zq5;unfold gf at hf;obtain⟨⟨z,μz⟩,e1,e2⟩:=Zbs hf;refine⟨W,δ,z,μz,e,ok,hd,e1,λW1 ok1 l1 m1=>?_⟩;cases z with
  |false=>exact⟨W1,δ,k,μ',rfl,ok1,hd.mono' l1,(by rw[m1];exact e2),λW' ok' l' m'=>h W' ok' (l1.trans l') m'⟩
  |true=>cases e2;exact h W1 ok1 l1 m1
theorem iJ(h:PWD X tb a ta):PTD X tb a ta:=PW.pt h
theorem cJ(ha:PTD X tb a ta):PTD X tb (.UnaryOp .Not a pos) (cO ta):=
 Gj (UT ha) λσ H Q zq6=>by
  obtain⟨W,δ,k,μ',e,ok,hd,hf,h⟩:=zq6;unfold cO at hf;obtain⟨⟨z,μz⟩,e1,e2⟩:=Zbs hf;cases e2;exact⟨W,δ,z,_,e,ok,hd,e1,λW1 ok1 l1 m1=>h W1 ok1 l1 m1⟩
def lE(fa fb:EF):EF:=λδ μ=>(fa δ μ).bind λr=>match r.1 with
 | .bl true=>fb δ r.2
 | .bl false=>some (.bl false,r.2)
 |_=>none
def qw(fa:EF):EF:=λδ μ=>(fa δ μ).bind λr=>match r.1 with
 | .bl k=>some (.bl !k,r.2)
 |_=>none
theorem jQ{o}(ha:PD X tb a fa):PD X tb (.BoolOp o [a] pos) fa:=Uz ha
theorem lH{rest:List Expr}(ha:PD X tb a fa)(hb:PD X tb (.BoolOp .And (b::rest) pos) fb):PD X tb (.BoolOp .And (a::b::rest) pos) (lE fa fb):=
 gW (Wg ha hb) λσ H Q zq7=>by
  obtain⟨W,δ,d,μ',e,ok,hd,hf,h⟩:=zq7;unfold lE at hf;obtain⟨⟨z,μz⟩,e1,e2⟩:=Zbs hf;refine⟨W,δ,z,μz,e,ok,hd,e1,λv W1 ok1 l1 m1 d1=>?_⟩;cases z with
  |bl k=>
   cases k with
   |true=>
   refine⟨true,lN d1,?_⟩;rw[if_pos rfl];exact⟨W1,δ,d,μ',rfl,ok1,hd.mono' l1,(by rw[m1];exact e2),λv W' ok' l' m' d'=>h v W' ok' (l1.trans l') m' d'⟩
   |false=>
   cases e2;refine⟨false,lN d1,?_⟩;rw[if_neg Zr];exact h _ W1 ok1 l1 m1 gK
  |_=>cases e2
theorem vC(ha:PD X tb a fa):PD X tb (.UnaryOp .Not a pos) (qw fa):=
 gW (Vq ha) λσ H Q zq9=>by
  obtain⟨W,δ,d,μ',e,ok,hd,hf,h⟩:=zq9;unfold qw at hf;obtain⟨⟨z,μz⟩,e1,e2⟩:=Zbs hf;refine⟨W,δ,z,μz,e,ok,hd,e1,λv W1 ok1 l1 m1 d1=>?_⟩;cases z with
  |bl k=>
   cases e2;exact⟨k,lN d1,h _ W1 ok1 l1 m1 gK⟩
  |_=>cases e2
end
def bH:SF:=λδ μ=>some (.nx,δ,μ)
def uO:SF:=λδ μ=>some (.bk,δ,μ)
def aL(g h:SF):SF:=λδ μ=>(g δ μ).bind λr=>match r.1 with
 | .nx=>h r.2.1 r.2.2
 |_=>some r
def eY(f:EF):SF:=λδ μ=>(f δ μ).bind λr=>some (.nx,δ,r.2)
def bc(f:EF):SF:=λδ μ=>(f δ μ).bind λr=>some (.rt r.1,δ,r.2)
def sIf(c:TF)(g h:SF):SF:=λδ μ=>(c δ μ).bind λr=>if r.1=true then g δ r.2 else h δ r.2
def bw(i:Nat)(f:EF):SF:=λδ μ=>(f δ μ).bind λr=>some (.nx,δ.set i (some r.1),r.2)
section
variable {X:Cx} {tb:List Addr} {e:Expr} {f:EF} {g h:SF} {st:Stmt} {rest:List Stmt} {pos:Pos}
theorem bf:ut X tb [] bH:=Oh Oj λE σ H zq11=>by
 obtain⟨W,δ,fl,δ',μ',e,ok,hd,hf,h⟩:=zq11;subst e;cases hf;exact h σ W ok (Le.refl _) rfl hd
theorem aF(h1:PSD X tb st g):ut X tb [st] g:=Sw h1
theorem aB(h1:PSD X tb st g)(h2:ut X tb rest h):ut X tb (st::rest) (aL g h):=
 Oh (Kq h1 h2) λE σ H zq12=>by
  obtain⟨W,δ,fl,δ',μ',e,ok,hd,hf,k⟩:=zq12;unfold aL at hf;obtain⟨⟨fl1,δ1,μ1⟩,e1,e2⟩:=Zbs hf;refine⟨W,δ,fl1,δ1,μ1,e,ok,hd,e1,λσ1 W1 ok1 l1 m1 d1=>?_⟩;cases fl1 with
  |nx=>exact⟨W1,δ1,fl,δ',μ',rfl,ok1,d1,(by rw[m1];exact e2),λσ' W' ok' l' m' d'=>k σ' W' ok' (l1.trans l') m' d'⟩
  |bk=>cases e2;exact k σ1 W1 ok1 l1 m1 d1
  |ct=>cases e2;exact k σ1 W1 ok1 l1 m1 d1
  |rt d=>cases e2;exact k σ1 W1 ok1 l1 m1 d1
theorem Iz:PSD X tb (.Break pos) uO:=mX Kv λE σ H zq14=>by
 obtain⟨W,δ,fl,δ',μ',e,ok,hd,hf,h⟩:=zq14;subst e;cases hf;exact h σ W ok (Le.refl _) rfl hd
theorem fW(he:PD X tb e f)(hs:swapsWith e none pos.line X.env=pure false:=by rfl):PSD X tb (.Expr e pos) (eY f):=
 mX (Qc he hs) λE σ H zq16=>by
  obtain⟨W,δ,fl,δ',μ',e,ok,hd,hf,h⟩:=zq16;unfold eY at hf;obtain⟨⟨x,μ1⟩,e1,e2⟩:=Zbs hf;cases e2;exact⟨W,δ,x,_,e,ok,hd,e1,λv W1 ok1 l1 m1 d1=>h σ W1 ok1 l1 m1 (hd.mono' l1)⟩
theorem aK(he:PD X tb e f):PSD X tb (.Return (some e) pos) (bc f):=
 mX (Wj he) λE σ H zq17=>by
  obtain⟨W,δ,fl,δ',μ',e,ok,hd,hf,h⟩:=zq17;unfold bc at hf;obtain⟨⟨x,μ1⟩,e1,e2⟩:=Zbs hf;cases e2;exact⟨W,δ,x,_,e,ok,hd,e1,λv W1 ok1 l1 m1 d1=>h σ W1 ok1 l1 m1 (hd.mono' l1) v d1⟩
theorem cH(hc:PTD X tb c tc)(ha:ut X tb as g)(hb:ut X tb bs h):PSD X tb (.If c as bs pos) (sIf tc g h):=
 mX (YB hc ha hb) λE σ H zq18=>by
  obtain⟨W,δ,fl,δ',μ',e,ok,hd,hf,k⟩:=zq18;unfold sIf at hf;obtain⟨⟨z,μ1⟩,e1,e2⟩:=Zbs hf;refine⟨W,δ,z,μ1,e,ok,hd,e1,λW1 ok1 l1 m1=>?_⟩;cases z with
  |true=>exact⟨W1,δ,fl,δ',μ',rfl,ok1,hd.mono' l1,(by rw[m1];exact e2),λσ' W' ok' l' m' d'=>k σ' W' ok' (l1.trans l') m' d'⟩
  |false=>exact⟨W1,δ,fl,δ',μ',rfl,ok1,hd.mono' l1,(by rw[m1];exact e2),λσ' W' ok' l' m' d'=>k σ' W' ok' (l1.trans l') m' d'⟩
theorem aU(hN:X.N.Nodup)(he:PD X tb e f)(hi:X.N[i]? =some x:=by rfl)(hx:Loc X.env.scope x:=by first|exact Or.inl rfl|exact Or.inr rfl)(hs:swapsWith e (some (.Name x pos')) pos.line X.env=pure false:=by rfl)
  (hf:X.fn x=true∨X.env.scope.names.lookup x=some .local:=by first|exact .inl rfl|exact .inr rfl|assumption):PSD X tb (.Assign [.Name x pos'] e pos) (bw i f):=
 mX (Va hN hi hx he hs hf) λE σ H zq19=>by
  obtain⟨W,δ,fl,δ',μ',e,ok,hd,hf,h⟩:=zq19;unfold bw at hf;obtain⟨⟨x,μ1⟩,e1,e2⟩:=Zbs hf;cases e2;exact⟨W,δ,x,_,e,ok,hd,e1,λv W1 ok1 l1 m1 d1=>h _ W1 ok1 l1 m1 ((hd.mono' l1).set d1)⟩
def zr(i j:Nat)(fs:AF):SF:=λδ μ=>(fs δ μ).bind λr=>match r.1 with
 | [x,y]=>some (.nx,(δ.set i (some x)).set j (some y),r.2)
 |_=>none
theorem yj{kt k2 pt2}(hc:X.calm=true)(hN:X.N.Nodup)(ha:PAD X tb [a,b] fs)(hij:i≠j:=by decide)(hi:X.N[i]? =some x:=by rfl)(hj:X.N[j]? =some y:=by rfl)
  (hx:X.env.scope.names.lookup x=some .local:=by rfl) (hy:X.env.scope.names.lookup y=some .local:=by rfl)
  (hw:swappedStores [.Tuple [.Name x px,.Name y py] kt pt] (.Tuple [a,b] k2 pt2) X.env=pure (some [x,y]):=by rfl)
  (hs:swapsWithSole [.Tuple [.Name x px,.Name y py] kt pt] (.Tuple [a,b] k2 pt2) pos.line X.env=pure false:=by rfl):
  PSD X tb (.Assign [.Tuple [.Name x px,.Name y py] kt pt] (.Tuple [a,b] k2 pt2) pos) (zr i j fs):=
 mX (Vp hc hN hi hj hij hx hy ha hw hs) λE σ H zq20=>by
  obtain⟨W,δ,fl,δ',μ',e,ok,hd,hf,h⟩:=zq20;unfold zr at hf;obtain⟨⟨xs,μ1⟩,e1,e2⟩:=Zbs hf
  match xs,e1,e2 with
  | [x,y],e1,e2=>
   cases e2;refine⟨W,δ,_,_,e,ok,hd,e1,λvs W1 ok1 l1 m1 d1=>?_⟩;obtain⟨u,v,rfl,du,dv⟩:=aG.two d1;exact⟨u,v,rfl,h _ W1 ok1 l1 m1 (((hd.mono' l1).set du).set dv)⟩
def iM(c:TF)(b:SF):Nat->SF
 |0=>λ_ _=>none
 |n+1=>λδ μ=>(c δ μ).bind λr=>if r.1=true then(b δ r.2).bind λq=>match q.1 with
  | .nx=>iM c b n q.2.1 q.2.2
  | .ct=>iM c b n q.2.1 q.2.2
  | .bk=>some (.nx,q.2)
  | .rt d=>some (.rt d,q.2)
  else some (.nx,δ,r.2)
theorem nA:∀{n m:Nat}{δ:En}{μ:Mu}{r:Fl×En×Mu},n<=m->iM c b n δ μ=some r->iM c b m δ μ=some r
 |0,_,_,_,_,_,h=>by cases h
 |n+1,0,_,_,_,hl,_=>by lia
 |n+1,m+1,δ,μ,r,hl,h=>by
  unfold iM at h ⊢;obtain⟨q,e1,e2⟩:=Zbs h;rw[e1];show(if q.1=true then _ else _)=_;by_cases hq:q.1=true
  .rw[if_pos hq]at e2 ⊢;obtain⟨t,e3,e4⟩:=Zbs e2;rw[e3];show(match t.1 with| .nx=>_| .ct=>_| .bk=>_| .rt d=>_)=_
   cases ht:t.1 with
   |nx=>rw[ht]at e4;exact nA (by lia) e4
   |ct=>rw[ht]at e4;exact nA (by lia) e4
   |bk=>rw[ht]at e4;exact e4
   |rt d=>rw[ht]at e4;exact e4
  .rw[if_neg hq]at e2 ⊢;exact e2
open Classical in
def oV(c:TF)(b:SF):SF:=λδ μ=>if h:∃n r,iM c b n δ μ=some r then some (choose (choose_spec h))else none
theorem tQ(h:iM c b n δ μ=some r):oV c b δ μ=some r:=by
 have hx:∃n r,iM c b n δ μ=some r:=⟨n,r,h⟩;unfold oV;rw[dif_pos hx];have q:=Classical.choose_spec (Classical.choose_spec hx);have a:=nA (Nat.le_max_left n (Classical.choose hx)) h;have b:=nA (Nat.le_max_right n (Classical.choose hx)) q;rw[a]at b;exact b.symm
theorem HB(h:oV c b δ μ=some r):∃n,iM c b n δ μ=some r:=by
 unfold oV at h;split at h
 .rename_i hx;cases h;exact⟨_,Classical.choose_spec (Classical.choose_spec hx)⟩
 .cases h
theorem tR(hp:PassesOwn (model X.prog X.w) X.A X.env X.xe)(hc:PTD X tb c tc)(hb:ut X tb body g):PSD X tb (.While c body [] pos) (oV tc g):=
 mX (Lj hp hc hb) λE σ H zq21=>by
  obtain⟨W,δ,fl,δ',μ',e,ok,hd,hf,h⟩:=zq21;obtain⟨n0,hn0⟩:=HB hf;refine⟨λm σ1 H1=>∃W1 δ1,W1.H=H1/\WOk X.K tb W1/\Le tb W W1/\jF X.K tb W1 δ1 σ1/\iM tc g m δ1 W1.mu=some (fl,δ',μ'),⟨n0,W,δ,e,ok,Le.refl _,hd,hn0⟩,?_⟩;rintro m σ1 H1 ⟨W1,δ1,rfl,ok1,l1,d1,hn⟩;cases m with
  |zero=>cases hn
  |succ m=>
   unfold iM at hn;obtain⟨⟨k,μ2⟩,e1,e2⟩:=Zbs hn;refine⟨W1,δ1,k,μ2,rfl,ok1,d1,e1,λW2 ok2 l2 m2=>?_⟩;cases k with
   |false=>
    cases e2;rw[if_neg Zr];exact h σ1 W2 ok2 (l1.trans l2) m2 (d1.mono' l2)
   |true=>
    rw[if_pos rfl];obtain⟨⟨fl3,δ3,μ3⟩,e3,e4⟩:=Zbs e2;refine⟨λσ3 H3=>∃W3,W3.H=H3/\WOk X.K tb W3/\Le tb W W3/\jF X.K tb W3 δ3 σ3/\iM tc g m δ3 W3.mu=some (fl,δ',μ'),λσ3 H3 ⟨W3,q1,q2,q3,q4,q5⟩=>⟨m,Nat.lt_succ_self _,W3,δ3,q1,q2,q3,q4,q5⟩,?_⟩;refine⟨W2,δ1,fl3,δ3,μ3,rfl,ok2,d1.mono' l2,(by rw[m2];exact e3),λσ3 W3 ok3 l3 m3 d3=>?_⟩
    cases fl3 with
    |nx=>exact⟨W3,rfl,ok3,(l1.trans l2).trans l3,d3,by rw[m3];exact e4⟩
    |ct=>exact⟨W3,rfl,ok3,(l1.trans l2).trans l3,d3,by rw[m3];exact e4⟩
    |bk=>cases e4;exact h σ3 W3 ok3 ((l1.trans l2).trans l3) m3 d3
    |rt d=>cases e4;exact h σ3 W3 ok3 ((l1.trans l2).trans l3) m3 d3
end
abbrev GF:=D->En->Mu->Option En
abbrev GsF:=List D->En->Mu->Option En
inductive tDG(K:Zw)(tb:List Addr)(ts:List Nat)(h:GF)(v:V)(σ:SV)(H:Hp)(Q:SV->Hp->Prop):Prop
 |mk (W) (δ) (d) (δ'):(W.H=H)->(WOk K tb W)->(jF K tb W δ σ)->(Den K tb W d v)->(h d δ W.mu=some δ')->(∀σ',jF K tb W δ' σ'->σ'.length=σ.length->(∀i,i∉ts->σ'[i]? =σ[i]?)->Q σ' H)->tDG K tb ts h v σ H Q
inductive XC(K:Zw)(tb:List Addr)(ts:List Nat)(h:GsF)(vs:List V)(σ:SV)(H:Hp)(Q:SV->Hp->Prop):Prop
 |mk (W) (δ) (ds) (δ'):(W.H=H)->(WOk K tb W)->(jF K tb W δ σ)->(dN K tb W ds vs)->(h ds δ W.mu=some δ')->(∀σ',jF K tb W δ' σ'->σ'.length=σ.length->(∀i,i∉ts->σ'[i]? =σ[i]?)->Q σ' H)->XC K tb ts h vs σ H Q
def PGD(X:Cx)(tb:List Addr)(tg:Expr)(ts:List Nat)(h:GF):Prop:=PG X tg (tDG X.K tb ts h)
def Sy(X:Cx)(tb:List Addr)(tg:List Expr)(ts:List Nat)(h:GsF):Prop:=PGs X tg (XC X.K tb ts h)
theorem Tw(h:PG X e t)(k:∀v σ H Q,t' v σ H Q->t v σ H Q):PG X e t':=λpins s σ H v u Q I r hq=>h pins s σ H v u Q I r (k v σ H Q hq)
theorem Nx(h:PGs X e t)(k:∀v σ H Q,t' v σ H Q->t v σ H Q):PGs X e t':=λpins s σ H v u Q I r hq=>h pins s σ H v u Q I r (k v σ H Q hq)
def aC(i:Nat):GF:=λd δ _=>some (δ.set i (some d))
def eO:GsF:=λds δ _=>match ds with
 | []=>some δ
 |_=>none
def aN(h:GF)(hs:GsF):GsF:=λds δ μ=>match ds with
 | []=>none
 |d::r=>(h d δ μ).bind λδ1=>hs r δ1 μ
def eQ(n:Nat)(hs:GsF):GF:=λd δ μ=>match d with
 | .tup ds=>if ds.length=n then hs ds δ μ else none
 |_=>none
section
variable {X:Cx} {tb:List Addr} {e tg iter elt:Expr} {f:EF} {pos:Pos}
theorem aM(hN:X.N.Nodup)(hi:X.N[i]? =some x:=by rfl)(hx:Loc X.env.scope x:=by first|exact Or.inl rfl|exact Or.inr rfl)
  (hf:X.fn x=true∨X.env.scope.names.lookup x=some .local:=by first|exact .inl rfl|exact .inr rfl|assumption):PGD X tb (.Name x pos) [i] (aC i):=
 Tw (Td hN hi hx hf) λv σ H Q zq1=>by
  obtain⟨W,δ,d,δ',e,ok,hd,dv,hh,h⟩:=zq1;cases hh;refine h _ (hd.set dv) (by rw[List.length_set]) λj hj=>?_
  rw[List.getElem?_set_ne (λz=>hj (by simp[z]))]
theorem eN:Sy X tb [] [] eO:=
 Nx SJ λvs σ H Q zq2=>by
  obtain⟨W,δ,ds,δ',e,ok,hd,dv,hh,h⟩:=zq2
  match ds,dv,hh with
  | [],dv,hh=>
   cases hh;exact⟨aG.zero dv,h σ hd rfl λ_ _=>rfl⟩
theorem aX(h1:PGD X tb e ts h)(h2:Sy X tb es us hs)
  (ha:(assignEach (e::es) X.env).map (·.2)=assign e X.env::(assignEach es X.env).map (·.2):=by rfl):Sy X tb (e::es) (ts++us) (aN h hs):=
 Nx (JC h1 h2 ha) λvs σ H Q zq3=>by
  obtain⟨W,δ,ds,δ',e,ok,hd,dv,hh,k⟩:=zq3
  match ds,dv,hh with
  |d::r,dv,hh=>
   obtain⟨δ1,e1,e2⟩:=Zbs hh;have dv':aG _ _ _ _ _:=dv;unfold aG at dv';obtain⟨u,us',rfl,p,q⟩:=dv';refine⟨u,us',rfl,W,δ,d,δ1,e,ok,hd,p,e1,λσ1 d1 l1 s1=>⟨W,δ1,r,δ',e,ok,d1,q,e2,λσ2 d2 l2 s2=>?_⟩⟩;exact k σ2 d2 (l2.trans l1) λi hi=>(s2 i λz=>hi (Zn _ z)).trans (s1 i λz=>hi (List.mem_append_left _ z))
theorem gq(hc:X.calm=true)(h:Sy X tb es ts hs)(hn:(assignEach es X.env).length=n:=by rfl)(hst:(assignEach es X.env).findIdx? (·.1)=none:=by rfl):
  PGD X tb (.Tuple es k pos) ts (eQ n hs):=
 Tw (Ww hc h hn hst) λv σ H Q zq4=>by
  obtain⟨W,δ,d,δ',e,ok,hd,dv,hh,k⟩:=zq4;cases d with
  |tup ds=>
   obtain⟨a,xs,rfl,q,r⟩:=jP dv;have hh':(if ds.length=n then hs ds δ W.mu else none)=some δ':=hh;by_cases hl:ds.length=n
   .rw[if_pos hl]at hh';have q':SqT X.K H a xs:=by rw[<-e];exact SqT.fz q
    have hl':xs.length=n:=by rw[<-aG.length r];exact hl
    exact⟨a,xs,rfl,q',hl',⟨W,δ,ds,δ',e,ok,hd,r,hh',k⟩⟩
   .rw[if_neg hl]at hh';cases hh'
  |_=>cases hh
def ul(f:EF)(h:GF):SF:=λδ μ=>(f δ μ).bind λr=>(h r.1 δ r.2).bind λδ'=>some (.nx,δ',r.2)
theorem mU(he:PD X tb e f)(hg:PGD X tb tg ts h)(hs:swapsWithSole [tg] e pos.line X.env=pure false:=by rfl)(hw:swappedStores [tg] e X.env=pure none:=by rfl)
  (h1:(assignEach [tg] X.env).map (·.2)=[assign tg X.env]:=by rfl):PSD X tb (.Assign [tg] e pos) (ul f h):=
 mX (KZ he hg hs hw h1) λE σ H zq5=>by
  obtain⟨W,δ,fl,δ',μ',e,ok,hd,hf,k⟩:=zq5;unfold ul at hf;obtain⟨⟨x,μ1⟩,e1,hf⟩:=Zbs hf;obtain⟨δ1,e2,e3⟩:=Zbs hf;cases e3;refine⟨W,δ,x,_,e,ok,hd,e1,λv W1 ok1 l1 m1 d1=>⟨W1,δ,x,_,rfl,ok1,hd.mono' l1,d1,(by rw[m1];exact e2),λσ1 d2 _ _=>?_⟩⟩
  exact k σ1 W1 ok1 l1 m1 d2
structure Src where
 items:List D
 cel:Option Nat
def Src.ok(S:Src)(μ:Mu):Prop:=∀n,S.cel=some n->μ[n]? =some (some S.items)
theorem Src.bZ{S:Src}{μ:Mu}(h:S.cel=none):S.ok μ:=λn e=>by rw[h]at e;cases e
abbrev IF:=En->Mu->Option (Src×Mu)
structure um(K:Zw)(tb:List Addr)(J:It)(S:Src)(W0:Wd):Prop where
 go:∀(i:Nat) W d,Le tb W0 W->WOk K tb W->S.ok W.mu->S.items[i]? =some d->J.go i W.H/\∀x H',J.yld i W.H x H'->∃W',W'.H=H'/\WOk K tb W'/\Le tb W W'/\W'.mu=W.mu/\Den K tb W' d x
 stop:∀(i:Nat) W,Le tb W0 W->WOk K tb W->S.ok W.mu->S.items.length<=i->J.stop i W.H
inductive tDI(K:Zw)(tb:List Addr)(f:IF)(σ:SV)(H:Hp)(R:It->Hp->Prop):Prop
 |mk (W) (δ) (S) (μ'):(W.H=H)->(WOk K tb W)->(jF K tb W δ σ)->(f δ W.mu=some (S,μ'))->(∀J W',WOk K tb W'->Le tb W W'->W'.mu=μ'->um K tb J S W'->R J W'.H)->tDI K tb f σ H R
def PID(X:Cx)(tb:List Addr)(tg iter:Expr)(f:IF):Prop:=PI X tg iter (tDI X.K tb f)
theorem Lk(h:PI X tg iter w)(k:∀σ H R,w' σ H R->w σ H R):PI X tg iter w':=λpins s σ H R I hq=>h pins s σ H R I (k σ H R hq)
theorem Ws(hl:PE X l tl):PI X tg l (λσ H R=>tl σ H λx H1=>∃a,x= .ref a/\((∃xs,SqL X.K H1 a xs)/\R (Itl X.K a) H1∨(∃xs,SqT X.K H1 a xs)/\R (Itt X.K a) H1)):=by
 intro pins s σ H R I h;refine thn (hl pins s σ H _ I h) λv s1 zq6=>?_;obtain⟨x,H1,I1,r1,q1⟩:=zq6;obtain⟨a,e,q⟩:=q1;subst e;cases r1
 rcases q with⟨⟨xs,hq⟩,q⟩|⟨⟨xs,hq⟩,q⟩
 .obtain⟨its,rv,p,hz⟩:=I1.list hq;refine wpAny_pyIter_list p.isList ?_;refine⟨s1.heap.objs.size,[s1.heap.objs.size],_,_,H1,rfl,I1.kept (t':=s1.toks) λb o e=>Zb _ e,xN a _,⟨_,Zf _ rfl,rfl,rfl⟩,λb hb=>?_,q⟩;have e:b=s1.heap.objs.size:=by simpa using hb
  subst e;exact I1.fpOk (Zg _) (I1.hok.fresh (Zg _))
 .obtain⟨its,rv,p,hz⟩:=I1.tuple hq;refine wpAny_pyIter_tuple (show s1.heap.IsTuple a its.toArray from p) ?_;refine⟨s1.heap.objs.size,[s1.heap.objs.size],_,_,H1,rfl,I1.kept (t':=s1.toks) λb o e=>Zb _ e,vq a _,⟨_,Zf _ rfl,rfl,rfl⟩,λb hb=>?_,q⟩;have e:b=s1.heap.objs.size:=by simpa using hb
  subst e;exact I1.fpOk (Zg _) (I1.hok.fresh (Zg _))
def lQ(d:D)(μ:Mu):Option Src:=match d with
 | .tup ds=>some ⟨ds,none⟩
 | .lst ds=>some ⟨ds,none⟩
 | .cell n=>match μ[n]? with
  |some (some ds)=>some ⟨ds,some n⟩
  |_=>none
 |_=>none
theorem Og{K:Zw}{W0:Wd}{a:Addr}{xs:List V}{ds:List D}(q:SqL K (W0.fz tb) a xs)(r:dN K tb W0 ds xs):um K tb (Itl K a) ⟨ds,none⟩ W0 where
 go:=λi W d l ok _ e=>by
  have q':SqL K W.H a xs:=SqL.fz (SqL.mono l.same q);obtain⟨v,ev,dv⟩:=aG.get (dN.mono' r l) e;exact⟨⟨xs,v,q',ev⟩,λx H' ⟨e1,e2⟩=>⟨W,e1.symm,ok,Le.refl _,rfl,by have:=e2 xs q';rw[ev]at this;cases this;exact dv⟩⟩
 stop:=λi W l ok _ hi=>⟨xs,SqL.fz (SqL.mono l.same q),by rw[<-aG.length r];exact hi⟩
theorem Ni{K:Zw}{W0:Wd}{a:Addr}{xs:List V}{ds:List D}(q:SqT K (W0.fz tb) a xs)(r:dN K tb W0 ds xs):um K tb (Itt K a) ⟨ds,none⟩ W0 where
 go:=λi W d l ok _ e=>by
  have q':SqT K W.H a xs:=SqT.fz (SqT.mono l.same q);obtain⟨v,ev,dv⟩:=aG.get (dN.mono' r l) e;exact⟨⟨xs,v,q',ev⟩,λx H' ⟨e1,e2⟩=>⟨W,e1.symm,ok,Le.refl _,rfl,by have:=e2 xs q';rw[ev]at this;cases this;exact dv⟩⟩
 stop:=λi W l ok _ hi=>⟨xs,SqT.fz (SqT.mono l.same q),by rw[<-aG.length r];exact hi⟩
theorem Xa{K:Zw}{W0:Wd}{a:Addr}{n:Nat}{ds:List D}(q:W0.ad[n]? =some a):um K tb (Itl K a) ⟨ds,some n⟩ W0 where
 go:=λi W d l ok hs e=>by
  obtain⟨xs,ex,r⟩:=ok.cont n a ds (l.ad _ _ q) (hs n rfl);obtain⟨v,ev,dv⟩:=aG.get r e;exact⟨⟨xs,v,SqL.of ex,ev⟩,λx H' ⟨e1,e2⟩=>⟨W,e1.symm,ok,Le.refl _,rfl,by have:=e2 xs (SqL.of ex);rw[ev]at this;cases this;exact dv⟩⟩
 stop:=λi W l ok hs hi=>by
  obtain⟨xs,ex,r⟩:=ok.cont n a ds (l.ad _ _ q) (hs n rfl);exact⟨xs,SqL.of ex,by rw[<-aG.length r];exact hi⟩
def cR(f:EF):IF:=λδ μ=>(f δ μ).bind λr=>(lQ r.1 r.2).map λS=>(S,r.2)
theorem bT(he:PD X tb e f):PID X tb tg e (cR f):=
 Lk (Ws he) λσ H R zq7=>by
  obtain⟨W,δ,S,μ',e,ok,hd,hf,h⟩:=zq7;unfold cR at hf;obtain⟨⟨x,μ1⟩,e1,hf⟩:=Zbs hf;obtain⟨S',e2,e3⟩:=Zp.mp hf;cases (e3);refine⟨W,δ,x,_,e,ok,hd,e1,λv W1 ok1 l1 m1 d1=>?_⟩;cases x with
  |tup ds=>
   cases (e2);obtain⟨a,xs,rfl,q,r⟩:=jP d1;exact⟨a,rfl,.inr ⟨⟨xs,SqT.fz q⟩,h _ W1 ok1 l1 m1 (Ni q r)⟩⟩
  |lst ds=>
   cases (e2);obtain⟨a,xs,rfl,q,r⟩:=ph d1;exact⟨a,rfl,.inl ⟨⟨xs,SqL.fz q⟩,h _ W1 ok1 l1 m1 (Og q r)⟩⟩
  |cell n=>
   obtain⟨a,rfl,q⟩:=jB d1;have e2':(match μ1[n]? with|some (some ds)=>some (⟨ds,some n⟩:Src)|_=>none)=some S:=e2
   cases e4:μ1[n]? with
   |none=>rw[e4]at e2';cases (e2')
   |some o=>
    cases o with
    |none=>rw[e4]at e2';cases (e2')
    |some ds=>
     rw[e4]at e2';cases (e2');obtain⟨xs,ex,_⟩:=ok1.cont n a ds q (by rw[m1];exact e4)
     exact⟨a,rfl,.inl ⟨⟨xs,SqL.of ex⟩,h _ W1 ok1 l1 m1 (Xa q)⟩⟩
  |_=>cases (e2)
def cW(lo:Int)(n:Nat):List D:=(List.range n).map λ(k:Nat)=>D.int (lo+(k:Int))
theorem Ve{K:Zw}{W0:Wd}{lo:Int}{n:Nat}:um K tb (Itr lo n) ⟨cW lo n,none⟩ W0 where
 go:=λi W d l ok _ e=>by
  unfold cW at e;rw[List.getElem?_map]at e;by_cases hi:i<n
  .rw[List.getElem?_range hi]at e;cases e;exact⟨hi,λx H' ⟨e1,e2⟩=>⟨W,e1.symm,ok,Le.refl _,rfl,by rw[e2];exact gk⟩⟩
  .rw[List.getElem?_eq_none (by simpa using hi)]at e;cases e
 stop:=λi W l ok _ hi=>by
  unfold cW at hi;have hi':n<=i:=by simpa using hi
  exact hi'
def bY(fs:AF):IF:=λδ μ=>(fs δ μ).bind λr=>match r.1 with
 | [.int j]=>if -(2 ^ 62)<=j/\j<2 ^ 62 then some (⟨cW 0 j.toNat,none⟩,r.2)else none
 |_=>none
theorem cC(hm:X.mg "range"=none)(ha:PAD X tb [a] fs)(hg:Gl X "range":=by rfl)(hs:starEach [a] X.env=[(false,eval a X.env)]:=by rfl):PID X tb tg (.Call (.Name "range" p) [a] [] pos) (bY fs):=
 Lk (Ii hg hm ha hs) λσ H R zq8=>by
  obtain⟨W,δ,S,μ',e,ok,hd,hf,h⟩:=zq8;unfold bY at hf;obtain⟨⟨xs,μ1⟩,e1,e2⟩:=Zbs hf
  match xs,e1,e2 with
  | [.int j],e1,e2=>
   have e2':(if -(2 ^ 62)<=j/\j<2 ^ 62 then some ((⟨cW 0 j.toNat,none⟩:Src),μ1)else none)=some (S,μ'):=e2;split at e2'
   .rename_i hj;cases e2';refine⟨W,δ,_,_,e,ok,hd,e1,λvs W1 ok1 l1 m1 d1=>?_⟩;obtain⟨u,rfl,du⟩:=aG.one d1;rw[bF du];exact⟨j,rfl,hj.1,hj.2,h _ W1 ok1 l1 m1 Ve⟩
   .cases e2'
open Classical in
def iT(S:Src)(h:GF)(b:SF):List D->SF
 | [],δ,μ=>if S.ok μ then some (.nx,δ,μ)else none
 |d::r,δ,μ=>if S.ok μ then(h d δ μ).bind λδ1=>(b δ1 μ).bind λq=>match q.1 with
  | .nx=>iT S h b r q.2.1 q.2.2
  | .ct=>iT S h b r q.2.1 q.2.2
  | .bk=>some (.nx,q.2)
  | .rt d=>some (.rt d,q.2)
  else none
def ik(f:IF)(h:GF)(b:SF):SF:=λδ μ=>(f δ μ).bind λr=>iT r.1 h b r.1.items δ r.2
theorem eZ(hp:PassesOwn (model X.prog X.w) X.A X.env X.xe)(hc:X.calm=true)(hi:PID X tb tg iter fi)(hg:PGD X tb tg ts h)(hb:ut X tb body b)
  (hs:∀x,foldedSetIterable iter X.env x=pure x:=by intro _;rfl):PSD X tb (.For tg iter body [] pos) (ik fi h b):=
 mX (Wt hp hc hi hg hb hs) λE σ H zq10=>by
  obtain⟨W,δ,fl,δ',μ',e,ok,hd,hf,k⟩:=zq10;unfold ik at hf;obtain⟨⟨S,μ1⟩,e1,e2⟩:=Zbs hf;refine⟨W,δ,S,μ1,e,ok,hd,e1,λJ W1 ok1 l1 m1 io=>?_⟩;refine⟨λi m σ2 H2=>m=S.items.length-i/\i<=S.items.length/\∃W2 δ2,W2.H=H2/\WOk X.K tb W2/\Le tb W1 W2/\jF X.K tb W2 δ2 σ2/\iT S h b (S.items.drop i) δ2 W2.mu=some (fl,δ',μ'),
   ⟨S.items.length,rfl,Nat.zero_le _,W1,δ,rfl,ok1,Le.refl _,hd.mono' l1,by rw[m1];exact e2⟩,?_⟩
  rintro i m σ2 H2 ⟨hm,hi',W2,δ2,rfl,ok2,l2,d2,hn⟩;by_cases hlt:i<S.items.length
  .right
   have hdr:S.items.drop i=S.items[i]::S.items.drop (i+1):=ZJ hlt;rw[hdr]at hn;unfold iT at hn;split at hn
   .rename_i hok;obtain⟨δ3,e3,hn⟩:=Zbs hn;obtain⟨⟨fl4,δ4,μ4⟩,e4,e5⟩:=Zbs hn;obtain⟨go,yl⟩:=io.go i W2 S.items[i] l2 ok2 hok (by simp[hlt])
    refine⟨go,λσ5 H5=>∃W5,W5.H=H5/\WOk X.K tb W5/\Le tb W1 W5/\jF X.K tb W5 δ4 σ5/\iT S h b (S.items.drop (i+1)) δ4 W5.mu=some (fl,δ',μ'),λσ5 H5 ⟨W5,q1,q2,q3,q4,q5⟩=>⟨S.items.length-(i+1),by lia,rfl,hlt,W5,δ4,q1,q2,q3,q4,q5⟩,λx H' y=>?_⟩
    obtain⟨W3,rfl,ok3,l3,m3,d3⟩:=yl x H' y;refine⟨W3,δ2,S.items[i],δ3,rfl,ok3,d2.mono' l3,d3,(by rw[m3];exact e3),λσ3 d3' _ _=>?_⟩
    refine⟨W3,δ3,fl4,δ4,μ4,rfl,ok3,d3',(by rw[m3];exact e4),λσ4 W4 ok4 l4 m4 d4=>?_⟩
    cases fl4 with
    |nx=>exact⟨W4,rfl,ok4,(l2.trans l3).trans l4,d4,by rw[m4];exact e5⟩
    |ct=>exact⟨W4,rfl,ok4,(l2.trans l3).trans l4,d4,by rw[m4];exact e5⟩
    |bk=>cases e5;exact k σ4 W4 ok4 (((l1.trans l2).trans l3).trans l4) m4 d4
    |rt d=>cases e5;exact k σ4 W4 ok4 (((l1.trans l2).trans l3).trans l4) m4 d4
   .cases hn
  .left
   have hdr:S.items.drop i=[]:=List.drop_of_length_le (by lia)
   rw[hdr]at hn;unfold iT at hn;split at hn
   .rename_i hok;have hn':some (Fl.nx,δ2,W2.mu)=some (fl,δ',μ'):=hn;cases hn';exact⟨io.stop i W2 l2 ok2 hok (by lia),k σ2 W2 ok2 (l1.trans l2) rfl d2⟩
   .cases hn
abbrev LF:=En->Mu->Option (List D×Mu)
inductive tDN(K:Zw)(tb:List Addr)(f:LF)(σ:SV)(H:Hp)(Q:VK):Prop
 |mk (W) (δ) (ds) (μ'):(W.H=H)->(WOk K tb W)->(jF K tb W δ σ)->(f δ W.mu=some (ds,μ'))->(∀p vs W',WOk K tb W'->Le tb W W'->W'.mu=μ'->W'.H p=none->dN K tb W' ds vs->Q (.ref p) (upd W'.H p (.lst vs)))->tDN K tb f σ H Q
def PDN(X:Cx)(tb:List Addr)(e:Expr)(f:LF):Prop:=PE X e (tDN X.K tb f)
def mFz(f:LF):EF:=λδ μ=>(f δ μ).bind λr=>some (.lst r.1,r.2)
def pD(f:LF):EF:=λδ μ=>(f δ μ).bind λr=>some (.cell r.2.length,r.2++[some r.1])
theorem cT{f:LF}(h:PDN X tb e f):PD X tb e (mFz f):=gW h λσ H Q zq11=>by
 obtain⟨W,δ,d,μ',e,ok,hd,hf,k⟩:=zq11;unfold mFz at hf;obtain⟨⟨ds,μ1⟩,e1,e2⟩:=Zbs hf;cases e2;refine⟨W,δ,ds,_,e,ok,hd,e1,λp vs W1 ok1 l1 m1 hp r=>?_⟩;exact mZ ok1 (λv W' ok' l' m' d'=>k v W' ok' (l1.trans l') (m'.trans m1) d') r hp
theorem jT{f:LF}(h:PDN X tb e f):PD X tb e (pD f):=gW h λσ H Q zq12=>by
 obtain⟨W,δ,d,μ',e,ok,hd,hf,k⟩:=zq12;unfold pD at hf;obtain⟨⟨ds,μ1⟩,e1,e2⟩:=Zbs hf;cases e2;refine⟨W,δ,ds,μ1,e,ok,hd,e1,λp vs W1 ok1 l1 m1 hp r=>?_⟩;obtain⟨ok2,l2,d2⟩:=ok1.new hp r;exact k _ _ ok2 (l1.trans l2) (by show W1.mu++[some ds]=_;rw[m1]) (by rw[<-m1];exact d2)
def qx(fs:AF):LF:=λδ μ=>(fs δ μ).bind λr=>if r.1.length<=sizeLine then some r else none
theorem lq(h:PAD X tb es fs):PDN X tb (.List es pos) (qx fs):=gW (MN h) λσ H Q zq13=>by
 obtain⟨W,δ,ds,μ',e,ok,hd,hf,k⟩:=zq13;unfold qx at hf;obtain⟨⟨xs,μ1⟩,e1,e2⟩:=Zbs hf;split at e2
 .rename_i hl;cases e2;exact⟨W,δ,_,_,e,ok,hd,e1,λvs W1 ok1 l1 m1 d1=>⟨by rw[<-aG.length d1];exact hl,λp hp=>k p vs W1 ok1 l1 m1 hp d1⟩⟩
 .cases e2
def bW(own:List Str)(δ:En)(capI:List Nat):En:=List.replicate own.length none++capI.map λi=>(δ[i]?).join
theorem uE{K:Zw}{W:Wd}{own:List Str}{capI:List Nat}{δ:En}{σ:SV}(h:jF K tb W δ σ):jF K tb W (bW own δ capI) (cu own σ capI):=by
 refine⟨by unfold bW cu vo;simp,λi d e=>?_⟩
 unfold bW at e;unfold cu vo;by_cases hi:i<own.length
 .rw[Zs (by simpa using hi),List.getElem?_replicate]at e
  split at e<;>cases e
 .rw[List.getElem?_append_right (by simpa using hi),List.getElem?_map]at e
  rw[List.getElem?_append_right (by simpa using hi),List.getElem?_map]
  rw[List.length_replicate]at e ⊢;cases q:capI[i-own.length]? with
  |none=>rw[q]at e;cases e
  |some j=>
   rw[q]at e;have e':(δ[j]?).join=some d:=by simpa using e
   cases q2:δ[j]? with
   |none=>rw[q2]at e';cases e'
   |some o=>
    rw[q2]at e';have e2:o=some d:=e';subst e2;obtain⟨v,ev,dv⟩:=h.2 j d q2;exact⟨v,by simp[ev],dv⟩
theorem fits_of{own:List Str}{capI:List Nat}{σ σ':SV}{ts:List Nat}(hts:∀i∈ts,i<own.length)(hl:σ'.length=(cu own σ capI).length)(h:∀i,i∉ts->σ'[i]? =(cu own σ capI)[i]?):Fits (cu own σ capI) σ':=
 ⟨hl,λi v e=>by
  rw[h i λz=>?_]
  .exact e
  .unfold cu at e;rw[Zs (by simpa using hts i z),List.getElem?_replicate]at e
   split at e<;>cases e⟩
open Classical in
def lcL(S:Src)(h:GF)(tt:TF)(fe:EF)(δb:En):List D->Mu->Option (List D×Mu)
 | [],μ=>if S.ok μ then some ([],μ)else none
 |d::r,μ=>if S.ok μ then(h d δb μ).bind λδ1=>(tt δ1 μ).bind λk=>if k.1=true then(fe δ1 k.2).bind λy=>(lcL S h tt fe δb r y.2).bind λys=>some (y.1::ys.1,ys.2)else lcL S h tt fe δb r k.2 else none
def lLC(own:List Str)(capI:List Nat)(fi:IF)(h:GF)(tt:TF)(fe:EF):LF:=λδ μ=>(fi δ μ).bind λr=>if r.1.items.length<=sizeLine then lcL r.1 h tt fe (bW own δ capI) r.1.items r.2 else none
def BZ(X:Cx)(tb:List Addr)(ifs:List Expr)(t:TF):Prop:=PIf X ifs (tDT X.K tb t)
def aW:TF:=λ_ μ=>some (true,μ)
theorem We{X:Cx}{e:List Expr}{t t':TT}(h:PIf X e t)(k:∀σ H Q,t' σ H Q->t σ H Q):PIf X e t':=λpins s σ H Q I hq=>h pins s σ H Q I (k σ H Q hq)
theorem sU:BZ X tb [] aW:=We Sv λσ H Q zq14=>by
 obtain⟨W,δ,k,μ',e,ok,hd,hf,h⟩:=zq14;subst e;cases hf;exact h W ok (Le.refl _) rfl
theorem JP(h:PTD X tb c t):BZ X tb [c] t:=Pb h
theorem WW{ifs:List Expr}{fi:IF}{h:GF}{tt:TF}{fe:EF}{own cap:List Str}{capI ts:List Nat}{scope:Scope}(hc:X.calm=true)(B:fV X own cap capI scope)(hown:∀x∈own,(x,NameKind.free)∉scope.names)(hi:PID X tb tg iter fi)
  (hg:∀cs C fp s2 H2,PGD (gb X own cap scope cs C fp s2 H2) tb tg ts h) (ht:∀cs C fp s2 H2,BZ (gb X own cap scope cs C fp s2 H2) tb ifs tt) (he:∀cs C fp s2 H2,PD (gb X own cap scope cs C fp s2 H2) tb elt fe)
  (hts:∀i∈ts,i<own.length:=by decide) (hs:∀x,foldedSetIterable iter X.env x=pure x:=by intro _;rfl):PDN X tb (.ListComp elt [⟨tg,iter,ifs,0⟩] scope pos) (lLC own capI fi h tt fe):=
 gW (Xl (g:=tDG X.K tb ts h) (tt:=tDT X.K tb tt) (te:=tD X.K tb fe) hc B hown hi hg ht he hs) λσ H Q zq15=>by
  obtain⟨W,δ,ds,μ',e,ok,hd,hf,k⟩:=zq15;unfold lLC at hf;obtain⟨⟨S,μ1⟩,e1,e2⟩:=Zbs hf;split at e2
  .rename_i hz;refine⟨W,δ,S,μ1,e,ok,hd,e1,λJ W1 ok1 l1 m1 io=>?_⟩;refine⟨λi m ys H2=>m=S.items.length-i/\i<=S.items.length/\ys.length<=i/\∃W2 zs rs,W2.H=H2/\WOk X.K tb W2/\Le tb W1 W2/\dN X.K tb W2 zs ys/\lcL S h tt fe (bW own δ capI) (S.items.drop i) W2.mu=some (rs,μ')/\zs++rs=ds,
    ⟨S.items.length,rfl,Nat.zero_le _,Nat.zero_le _,W1,[],ds,rfl,ok1,Le.refl _,aG.nil,by rw[m1];exact e2,rfl⟩,?_⟩
   rintro i m ys H2 ⟨hm,hi',hy,W2,zs,rs,rfl,ok2,l2,d2,hn,hzs⟩;by_cases hlt:i<S.items.length
   .right
    have hdr:S.items.drop i=S.items[i]::S.items.drop (i+1):=ZJ hlt;rw[hdr]at hn;unfold lcL at hn;split at hn
    .rename_i hok;obtain⟨δ3,e3,hn⟩:=Zbs hn;obtain⟨⟨kk,μ4⟩,e4,hn⟩:=Zbs hn;obtain⟨go,yl⟩:=io.go i W2 S.items[i] l2 ok2 hok (by simp[hlt])
     refine⟨go,Zc (Nat.lt_of_le_of_lt hy hlt) hz,λx H' y=>?_⟩;obtain⟨W3,rfl,ok3,l3,m3,d3⟩:=yl x H' y;refine⟨W3,bW own δ capI,S.items[i],δ3,rfl,ok3,(uE hd).mono' ((l1.trans l2).trans l3),d3,(by rw[m3];exact e3),λσ3 d3' hl3 ht3=>⟨fits_of hts hl3 ht3,?_⟩⟩
     refine⟨W3,δ3,kk,μ4,rfl,ok3,d3',(by rw[m3];exact e4),λW4 ok4 l4 m4=>?_⟩
     cases kk with
     |false=>
      rw[if_neg Zr];exact⟨S.items.length-(i+1),by lia,rfl,hlt,by lia,W4,zs,rs,rfl,ok4,(l2.trans l3).trans l4,dN.mono' d2 (l3.trans l4),by rw[m4];exact hn,hzs⟩
     |true=>
      rw[if_pos rfl];have hn':((fe δ3 μ4).bind λy=>(lcL S h tt fe (bW own δ capI) (S.items.drop (i+1)) y.2).bind λys=>some (y.1::ys.1,ys.2))=some (rs,μ'):=hn;obtain⟨⟨yd,μ5⟩,e5,hn'⟩:=Zbs hn';obtain⟨⟨rs',μ6⟩,e6,e7⟩:=Zbs hn';cases e7;refine⟨W4,δ3,yd,μ5,rfl,ok4,d3'.mono' l4,(by rw[m4];exact e5),λv W5 ok5 l5 m5 d5=>?_⟩
      refine⟨S.items.length-(i+1),by lia,rfl,hlt,by rw[ZG];simp;lia,W5,zs++[yd],rs',rfl,ok5,((l2.trans l3).trans l4).trans l5,aG.append (dN.mono' d2 ((l3.trans l4).trans l5)) (aG.cons d5 aG.nil),by rw[m5];exact e6,by rw[List.append_assoc];exact hzs⟩
    .cases hn
   .left
    have hdr:S.items.drop i=[]:=List.drop_of_length_le (by lia)
    rw[hdr]at hn;unfold lcL at hn;split at hn
    .rename_i hok;cases hn;rw[List.append_nil]at hzs;subst hzs;exact⟨io.stop i W2 l2 ok2 hok (by lia),λl hl=>k l ys W2 ok2 (l1.trans l2) rfl hl d2⟩
    .cases hn
  .cases e2
end
end L3
namespace L2
open PySem PySem.Spec PyProof.Rows
theorem yN{X:Cx}{pins:List (Addr×Obj)}{σ:L2.St}{H:Hp}{s:Zsh}(I:Inv X pins σ H s)(hc:X.calm=true){A':Zar}(h1:A'.handled=X.A.handled)(h2:A'.frames=X.A.frames):A'.handled=none/\A'.frames=some X.stack:=
 ⟨h1.trans (I.ok.hd hc),h2.trans I.ok.frames⟩
theorem uM{X:Cx}{e:Expr}{pos:Pos}{s:Zsh}{Q:List Value->Zsh->Prop}(h:wpAny (model X.prog X.w) X.A (eval e X.env) (λu s1=>Q [u] s1) X.xe s)(hs:starEach [e] X.env=(false,eval e X.env)::starEach [] X.env:=by rfl):
  wpAny (model X.prog X.w) X.A (spliced (backTo pos (starEach [e] X.env))) Q X.xe s:=by
 rw[hs];show wpAny _ _ (spliced ((false,eval e X.env)::backTo pos (starEach [] X.env))) _ _ s;exact Calls.spliced_cons (thn h λu s1 q=>Calls.spliced_nil q)
def Ig(y:V)(k:Bool):Prop:=y= .bl k∨∃i,y= .int i/\k=(i != 0)
theorem GX{E:Value->Zsh->Prop}{Q:Bool->Zsh->Prop}(r:cI y v)(h:Ig y k)(hq:Q k s):wpAny (model P w) A (truthy v) Q E s:=by
 rcases h with rfl|⟨i,rfl,rfl⟩
 .cases r;exact wpAny_truthy_bool hq
 .obtain⟨t,rfl⟩:=r;exact PySem.P.truthy_int hq
theorem Bs{M:Model}{A:Zar}{E:Value->Zsh->Prop}{s:Zsh}{t:Sem (Option Value)}{P:Value->Zsh->Prop}{f:Value->Sem Unit}(hf:∀u,f u=pure ())
  (h:wpAny M A t (λr s1=>∃u,r=some u/\wpAny M A (f u) (λ_ s2=>P u s2) E s1) E s):wpAny M A t (λr s1=>∃u,r=some u/\P u s1) E s:=λΓ p hΓ=>
 Sem.wp_mono M Γ t (λa p' s ⟨u,e,q⟩=>⟨u,e,by rw[hf]at q;exact q Γ p' hΓ⟩) (λ_ _ _ e=>e) p s (h Γ p hΓ)
section
variable {X:Cx} {e:Expr} {ts:wH} {p pos:Pos} {pins:List (Addr×Obj)} {σ:L2.St}
def Yd(ts:wH):TE:=λσ H Q=>ts σ H λS H1=>∃W:Nat->Nat->Hp->Prop,(∃m,W 0 m H1)/\∀i m H,W i m H->
 S.fin i H (λH'=>Q (.bl true) H')∨S.nxt i H λy H'=>∃k,Ig y k/\if k=true then∃m',m'<m/\W (i+1) m' H' else Q (.bl false) H'
def aad(ts:wH):TE:=λσ H Q=>ts σ H λS H1=>∃W:Nat->Nat->Hp->Prop,(∃m,W 0 m H1)/\∀i m H,W i m H->
 S.fin i H (λH'=>Q (.bl false) H')∨S.nxt i H λy H'=>∃k,Ig y k/\if k=true then Q (.bl true) H' else∃m',m'<m/\W (i+1) m' H'
theorem JW{it:Addr}{lo:Nat}{S:nO}{SS:List (Addr×Obj)->Nat->Hp->Zsh->Prop}{Q:VK}{W:Nat->Nat->Hp->Prop}(sm:tX X pins σ X.A.in1 it lo S SS)
  (st:∀i m H,W i m H->S.fin i H (λH'=>Q (.bl true) H')∨S.nxt i H λy H'=>∃k,Ig y k/\if k=true then∃m',m'<m/\W (i+1) m' H' else Q (.bl false) H'):
  ∀(m i:Nat)(H:Hp)(s:Zsh),SS [] i H s->W i m H->codeAny (model X.prog X.w) X.A (.builtin "all.loop" ⟨[.ref it],[]⟩) (λr s'=>∃u,r= .ok (.ret u)/\EP X pins σ Q u s') s:=by
 intro m
 induction m using Nat.strongRecOn with
 |ind m ih=>
  intro i H s hs hw;refine codeAny_builtin F.entry_all_loop ?_;rw[Around.under_plainId F.plain_all_loop _];show wpAny _ X.A.in1 (pyNext (.ref it) >>= _) _ _ s
  rcases st i m H hw with hf|hn
  .refine Zv (Zy (sm.stop (λ_ _=>False) hs hf) (λr s1 ⟨hr,H1,q,I1⟩=>?_) λ_ _ z=>z.elim);subst hr;refine Zv (wpAny_rule (Zx ⟨_,rfl,.bl true,H1,?_,rfl,q⟩));rw[List.append_nil]at I1;exact I1
  .refine Zv (Zy (sm.next (λ_ _=>False) hs hn) (λr s1 ⟨u,y,H',hr,ry,⟨k,tk,q⟩,hs'⟩=>?_) λ_ _ z=>z.elim);subst hr;refine Zv (wpAny_holding (GX ry tk ?_));refine Zv (wpAny_letGo ?_);cases k with
   |true=>
    simp only[if_true];rw[if_pos rfl]at q;obtain⟨m',hm,hw'⟩:=q;exact Zx ⟨plainId_quiet F.plain_all_loop _,ih m' hm (i+1) H' s1 hs' hw'⟩
   |false=>
    simp only[Bool.false_eq_true,if_false];rw[if_neg Zr]at q;refine Zv (wpAny_rule (Zx ⟨_,rfl,.bl false,H',?_,rfl,q⟩));have I1:=sm.inv hs';rw[List.append_nil]at I1;exact I1
theorem Mf{it:Addr}{lo:Nat}{S:nO}{SS:List (Addr×Obj)->Nat->Hp->Zsh->Prop}{Q:VK}{W:Nat->Nat->Hp->Prop}(sm:tX X pins σ X.A.in1 it lo S SS)
  (st:∀i m H,W i m H->S.fin i H (λH'=>Q (.bl false) H')∨S.nxt i H λy H'=>∃k,Ig y k/\if k=true then Q (.bl true) H' else∃m',m'<m/\W (i+1) m' H'):
  ∀(m i:Nat)(H:Hp)(s:Zsh),SS [] i H s->W i m H->codeAny (model X.prog X.w) X.A (.builtin "any.loop" ⟨[.ref it],[]⟩) (λr s'=>∃u,r= .ok (.ret u)/\EP X pins σ Q u s') s:=by
 intro m
 induction m using Nat.strongRecOn with
 |ind m ih=>
  intro i H s hs hw;refine codeAny_builtin F.entry_any_loop ?_;rw[Around.under_plainId F.plain_any_loop _];show wpAny _ X.A.in1 (pyNext (.ref it) >>= _) _ _ s
  rcases st i m H hw with hf|hn
  .refine Zv (Zy (sm.stop (λ_ _=>False) hs hf) (λr s1 ⟨hr,H1,q,I1⟩=>?_) λ_ _ z=>z.elim);subst hr;refine Zv (wpAny_rule (Zx ⟨_,rfl,.bl false,H1,?_,rfl,q⟩));rw[List.append_nil]at I1;exact I1
  .refine Zv (Zy (sm.next (λ_ _=>False) hs hn) (λr s1 ⟨u,y,H',hr,ry,⟨k,tk,q⟩,hs'⟩=>?_) λ_ _ z=>z.elim);subst hr;refine Zv (wpAny_holding (GX ry tk ?_));refine Zv (wpAny_letGo ?_);cases k with
   |false=>
    simp only[Bool.false_eq_true,if_false];rw[if_neg Zr]at q;obtain⟨m',hm,hw'⟩:=q;exact Zx ⟨plainId_quiet F.plain_any_loop _,ih m' hm (i+1) H' s1 hs' hw'⟩
   |true=>
    simp only[if_true];rw[if_pos rfl]at q;refine Zv (wpAny_rule (Zx ⟨_,rfl,.bl true,H',?_,rfl,q⟩));have I1:=sm.inv hs';rw[List.append_nil]at I1;exact I1
theorem RN(hc:X.calm=true)(hm:X.mg "all"=none)(hstr:zN X e ts)(hg:Gl X "all":=by rfl)(hs:starEach [e] X.env=(false,eval e X.env)::starEach [] X.env:=by rfl):PE X (.Call (.Name "all" p) [e] [] pos) (Yd ts):=by
 intro pins s σ H Q I h;refine wpAny_Call_Name_kw (oU I hg hm boot_all ?_ (by decide) (by decide))
 refine PyProof.Rows.callWith_builtin1 (uM (thn (hstr pins s σ H _ I h) λu s1 ⟨S,H1,I1,rdy,W,⟨m,w0⟩,st⟩=>?_) hs) hs rfl;refine call_function_tree F.kind_all F.plain_all F.entry_all (F.args_all1 _) ?_;unfold Builtin.«all»;refine Zv (m:=oneArg "all" _) (Zx ?_);obtain⟨a1,a2⟩:=yN I1 hc (A':=X.A.in1) rfl rfl;refine Zv (Zy (rdy X.A.in1 (λ_ _=>False) a1 a2 (Nat.le_succ _) (by show X.A.units+1<=_;lia)) (λitv s2 ⟨it,lo,SS,e,sm,s0,_⟩=>?_) λ_ _ z=>z.elim)
 subst e;refine Zx ⟨plainId_quiet F.plain_all_loop _,codeAny_mono (JW sm st m 0 H1 s2 s0 w0) λr s' ⟨u,hr,q⟩=>?_⟩;subst hr;exact q
theorem Sd(hc:X.calm=true)(hm:X.mg "any"=none)(hstr:zN X e ts)(hg:Gl X "any":=by rfl)(hs:starEach [e] X.env=(false,eval e X.env)::starEach [] X.env:=by rfl):PE X (.Call (.Name "any" p) [e] [] pos) (aad ts):=by
 intro pins s σ H Q I h;refine wpAny_Call_Name_kw (oU I hg hm boot_any ?_ (by decide) (by decide))
 refine PyProof.Rows.callWith_builtin1 (uM (thn (hstr pins s σ H _ I h) λu s1 ⟨S,H1,I1,rdy,W,⟨m,w0⟩,st⟩=>?_) hs) hs rfl;refine call_function_tree F.kind_any F.plain_any F.entry_any (F.args_any1 _) ?_;unfold Builtin.«any»;refine Zv (m:=oneArg "any" _) (Zx ?_);obtain⟨a1,a2⟩:=yN I1 hc (A':=X.A.in1) rfl rfl;refine Zv (Zy (rdy X.A.in1 (λ_ _=>False) a1 a2 (Nat.le_succ _) (by show X.A.units+1<=_;lia)) (λitv s2 ⟨it,lo,SS,e,sm,s0,_⟩=>?_) λ_ _ z=>z.elim)
 subst e;refine Zx ⟨plainId_quiet F.plain_any_loop _,codeAny_mono (Mf sm st m 0 H1 s2 s0 w0) λr s' ⟨u,hr,q⟩=>?_⟩;subst hr;exact q
def Fz(J:It):nO:=⟨λi H Q=>J.go i H/\∀x H',J.yld i H x H'->Q x H',λi H Q=>J.stop i H/\Q H⟩
theorem xQ{A':Zar}{it:Addr}{fp:List Addr}{tn:Nat->Heap->Prop}{J:It}{H:Hp}{s:Zsh}(hc:X.calm=true)(hP:A'.handled=none)(hf:A'.frames=some X.stack)
  (T:sG X.prog X.w X.K (.Name "x" ⟨0,0,0,0⟩) J fp it tn) (I:Inv X pins σ H s) (st:tn 0 s.heap) (fk:∀b∈fp,mL X pins H b):
  ∃lo SS,tX X pins σ A' it lo (Fz J) SS/\SS [] 0 H s/\lo<=s.heap.objs.size:=by
 have toA:∀{P:List (Addr×Obj)}{H:Hp}{s:Zsh},Inv X P σ H s->Inv ({ X with A:=A'}:Cx) P σ H s:=λI=>
  ⟨⟨I.ok.mod,I.ok.kind,I.ok.glob,I.ok.blt,I.ok.above,I.ok.inj,I.ok.has,I.ok.cab,λ_=>hP,hf,I.ok.stk,I.ok.exf,I.ok.bs,I.ok.bsz,I.ok.noex,I.ok.exfs,I.ok.funs,I.ok.frf⟩,I.os,I.bare,I.base,I.loc,I.cell,I.free,I.freeC,I.pin,I.hok,I.len⟩
 have ofA:∀{P:List (Addr×Obj)}{H:Hp}{s:Zsh},X.Ok->Inv ({ X with A:=A'}:Cx) P σ H s->Inv X P σ H s:=λok I=>
  ⟨ok,I.os,I.bare,I.base,I.loc,I.cell,I.free,I.freeC,I.pin,I.hok,I.len⟩
 have flt:∀b∈fp,b<s.heap.objs.size:=λb hb=>let⟨o,e,_⟩:=T.obj 0 _ st b hb;Ze e;have fkA:∀{P:List (Addr×Obj)}{H':Hp},(∀p∈P,s.heap.objs.size<=p.1)->(∀b∈fp,H' b=none)->∀b∈fp,mL ({ X with A:=A'}:Cx) (pins++P) H' b:=λ{P H'} hP hn b hb=>by
  obtain⟨q0,q1,q2,q3,q4,q5⟩:=fk b hb;refine⟨hn b hb,q1,q2,q3,q4,λp hp=>?_⟩
  rcases Zm.mp hp with z|z
  .exact q5 p (by simp only[Zm];exact .inl z)
  .rcases Zm.mp z with z|z
   .exact q5 p (by simp only[Zm];exact .inr z)
   .exactλe=>absurd (flt b hb) (by rw[<-e];exact Nat.not_lt.mpr (hP p z))
 refine⟨s.heap.objs.size,λP i H' s'=>(∀p∈P,s.heap.objs.size<=p.1)/\Inv X (pins++P) σ H' s'/\tn i s'.heap/\∀b∈fp,H' b=none,tX.mk' (λst=>st.2.1) (λst=>st.1) ?_ ?_ ?_ ?_ ?_ ?_,⟨λp hp=>absurd hp (by simp),by rw[List.append_nil];exact I,st,λb hb=>(fk b hb).1⟩,Zg _⟩
 .rintro P i H1 s1 Q E ⟨hP1,I1,st1,fr1⟩ ⟨go,yl⟩;have q:=T.item ({ X with A:=A'}:Cx) rfl rfl rfl hc i (pins++P) s1 σ H1 (λ_ _=>False) (toA I1) (fkA hP1 fr1) st1 go
  refine Zy (Bs (λu=>rfl) q) (λr s2 ⟨u,hr,x,H',I3,r3,y3,st3,fr3⟩=>?_) λ_ _ z=>z.elim;exact⟨u,x,H',hr,r3,yl x H' y3,hP1,ofA I1.ok I3,st3,fr3⟩
 .rintro P i H1 s1 Q E ⟨hP1,I1,st1,fr1⟩ ⟨hf,hq⟩;exact Zy (T.done ({ X with A:=A'}:Cx) rfl rfl rfl hc i (pins++P) s1 σ H1 (λ_ _=>False) (toA I1) (fkA hP1 fr1) st1 hf) (λr s2 ⟨hr,I2⟩=>⟨hr,H1,hq,ofA I1.ok I2⟩) λ_ _ z=>z.elim
 .rintro P i H1 s1 h' tk ⟨hP1,I1,st1,fr1⟩ hk;exact⟨hP1,I1.kept hk,T.keep _ _ _ st1 λb _ o e=>hk b o e,fr1⟩
 .rintro P i H1 s1 D o ⟨hP1,I1,st1,fr1⟩ hD ho hn hcell;refine⟨λp hp=>?_,I1.pins_of λp hp=>?_,st1,fr1⟩
  .rcases Zi.mp hp with z|z
   .subst z;exact hD
   .exact hP1 p z
  .rcases Zm.mp hp with z|z
   .exact I1.pin p (by simp[z])
   .rcases Zi.mp z with z|z
    .subst z;exact⟨ho,hn,λz=>absurd I.lt (by rw[<-z];exact Nat.not_lt.mpr hD),I.nofs hD,hcell⟩
    .exact I1.pin p (by simp[z])
 .rintro p P i H1 s1 ⟨hP1,I1,st1,fr1⟩;exact⟨λq hq=>hP1 q (ZE _ hq),I1.pins_of λq hq=>I1.pin q (by rcases Zm.mp hq with z|z<;>simp[z]),st1,fr1⟩
 .rintro P i H1 s1 h' tk D ⟨hP1,I1,st1,fr1⟩ hD hn hPD hk;have l4:∀b,b<s.heap.objs.size->b≠D:=λb hb=>Zk (Zc hb hD);refine⟨hP1,I1.turned hk hn (Ne.symm (l4 _ I.lt)) (.inr (Zl I.sz hD)) (λx c e=>let⟨v,q⟩:=I.cell x c e;l4 c q.lt) (λp hp=>?_),T.keep _ _ _ st1 λb hb o e=>hk b o (l4 b (flt b hb)) e,fr1⟩
  rcases Zm.mp hp with z|z
  .exact l4 _ (Ze (I.pin p (by simp[z])).1)
  .rcases Zm.mp z with z|z
   .exact l4 _ (Ze (I.pin p (by simp[z])).1)
   .exact hPD p z
theorem KD(hc:X.calm=true)(he:PE X e te):zN X e (λσ H R=>te σ H λx H1=>∃a,x= .ref a/\((∃xs,SqL X.K H1 a xs)/\R (Fz (Itl X.K a)) H1∨(∃xs,SqT X.K H1 a xs)/\R (Fz (Itt X.K a)) H1)):=by
 intro pins s σ H R I h;refine thn (he pins s σ H _ I h) λv s1 zq1=>?_;obtain⟨x,H1,I1,r1,a,e,q⟩:=zq1;subst e;cases r1
 rcases q with⟨⟨xs,hq⟩,q⟩|⟨⟨xs,hq⟩,q⟩
 .refine⟨_,H1,I1,λA' E h1 h2 h3 h4=>?_,q⟩;obtain⟨its,rv,p,hz⟩:=I1.list hq;refine wpAny_pyIter_list p.isList ?_;obtain⟨lo,SS,sm,s0,hl⟩:=xQ (A':=A') (H:=H1) (s:={ s1 with heap:=s1.heap.push { cls:=.type "list_iterator",data:=.fields #[.ref a,.int 0 0] } }) hc h1 h2 (xN a s1.heap.objs.size) (I1.kept (t':=s1.toks) λb o e=>Zb _ e) ⟨_,Zf _ rfl,rfl,rfl⟩ λb hb=>by
   have e:b=s1.heap.objs.size:=by simpa using hb
   subst e;exact I1.fpOk (Zg _) (I1.hok.fresh (Zg _))
  exact⟨_,lo,SS,rfl,sm,s0,hl⟩
 .refine⟨_,H1,I1,λA' E h1 h2 h3 h4=>?_,q⟩;obtain⟨its,rv,p,hz⟩:=I1.tuple hq;refine wpAny_pyIter_tuple (show s1.heap.IsTuple a its.toArray from p) ?_;obtain⟨lo,SS,sm,s0,hl⟩:=xQ (A':=A') (H:=H1) (s:={ s1 with heap:=s1.heap.push { cls:=.type "tuple_iterator",data:=.fields #[.ref a,.int 0 0] } }) hc h1 h2 (vq a s1.heap.objs.size) (I1.kept (t':=s1.toks) λb o e=>Zb _ e) ⟨_,Zf _ rfl,rfl,rfl⟩ λb hb=>by
   have e:b=s1.heap.objs.size:=by simpa using hb
   subst e;exact I1.fpOk (Zg _) (I1.hok.fresh (Zg _))
  exact⟨_,lo,SS,rfl,sm,s0,hl⟩
end
section
variable {X:Cx} {e:Expr} {ts:wH} {p pos:Pos} {pins:List (Addr×Obj)} {σ:L2.St}
def Wc(S:nO)(Fin:List V->Hp->Prop)(H1:Hp):Prop:=∃W:Nat->Nat->List V->Hp->Prop,(∃m,W 0 m [] H1)/\∀i m ys H,W i m ys H->
 S.fin i H (λH'=>Fin ys H')∨(ys.length<sizeLine/\S.nxt i H λy H'=>∃m',m'<m/\W (i+1) m' (ys++[y]) H')
theorem zM{A:Zar}{it D:Addr}{lo:Nat}{S:nO}{SS:List (Addr×Obj)->Nat->Hp->Zsh->Prop}{Fin:List V->Hp->Prop}{W:Nat->Nat->List V->Hp->Prop}{res:Value}(sm:tX X pins σ A.in1 it lo S SS)(hD:lo<=D)
  (st:∀i m ys H,W i m ys H->S.fin i H (λH'=>Fin ys H')∨(ys.length<sizeLine/\S.nxt i H λy H'=>∃m',m'<m/\W (i+1) m' (ys++[y]) H')):
  ∀(m i:Nat)(ys:List V)(us:List Value)(c:Nat)(H:Hp)(s:Zsh),SS [(D,cF us c)] i H s->W i m ys H->bM ys us->ys.length<=sizeLine->
   codeAny (model X.prog X.w) A (.builtin "list.extend.loop" ⟨[.ref D,.ref it,res],[]⟩) (λr s'=>r= .ok (.ret res)/\∃ys us c H',Inv X pins σ H' s'/\bM ys us/\ys.length<=sizeLine/\s'.heap.get? D=some (cF us c)/\H' D=none/\Fin ys H') s:=by
 intro m
 induction m using Nat.strongRecOn with
 |ind m ih=>
  intro i ys us c H s hsp hw hv hz;have hn:H D=none:=((sm.inv hsp).pin (D,cF us c) (by simp)).2.1
  refine codeAny_builtin F.entry_extend_loop ?_;rw[Around.under_plainId F.plain_extend_loop _];show wpAny _ A.in1 (pyNext (.ref it) >>= _) _ _ s
  rcases st i m ys H hw with hf|⟨hlt,hn'⟩
  .refine Zv (Zy (sm.stop (λ_ _=>False) hsp hf) (λr s1 ⟨hr,H1,q,I1⟩=>?_) λ_ _ z=>z.elim);subst hr;have pl:=I1.pin (D,cF us c) (by simp)
   exact Zx ⟨rfl,ys,us,c,H1,I1.pins_of λp hp=>I1.pin p (by simp[hp]),hv,hz,pl.1,pl.2.1,q⟩
  .refine Zv (Zy (sm.next (λ_ _=>False) hsp hn') (λr s1 ⟨u,y,H',hr,ry,⟨m',hm,hw'⟩,hs'⟩=>?_) λ_ _ z=>z.elim);subst hr;have pl:=(sm.inv hs').pin (D,cF us c) (by simp)
   have hul:us.length=ys.length:=hv.length.symm;show wpAny _ A.in1 (updateSeq D (·.push u) >>= _) _ _ _;refine Zv ?_;refine wpAny_updateSeq pl.1 rfl (Zx ⟨plainId_quiet F.plain_extend_loop _,ih m' hm (i+1) (ys++[y]) (us++[u]) (c+1) H' _ (sm.put (tk:=s1.toks) hs' (λp hp=>absurd hp (by simp)) (λb o hb e=>(Heap.get?_update_other _ _ (Ne.symm hb)).trans e) (by rw[Heap.get?_update_self _ pl.1 rfl];simp[Obj.mapSeq,cF]) (λv z=>by cases z)) hw' (hv.append (.cons ry .nil)) (by rw[ZG];exact hlt)⟩) ?_ ?_
   .show us.toArray.size<=sizeLine;rw[Zd,hul];exact hz
   .show(us.toArray.push u).size<=sizeLine+1;rw[Array.size_push,Zd,hul];lia
theorem By{A:Zar}{E:Value->Zsh->Prop}{a:Addr}{lo:Nat}{S:nO}{SS:List (Addr×Obj)->Nat->Hp->Zsh->Prop}{Fin:List V->Hp->Prop}{H:Hp}{s:Zsh}{Q:List Value->Zsh->Prop}(sm:tX X pins σ A.in1 a lo S SS)(hs:SS [] 0 H s)(hal:a<lo)(hlo:lo<=s.heap.objs.size)
  (hg:∀P i H s,SS P i H s->∃g,s.heap.IsGen a g) (hC:Wc S Fin H) (hQ:∀ys us H' s',Inv X pins σ H' s'->bM ys us->ys.length<=sizeLine->Fin ys H'->Q us s'):wpAny (model X.prog X.w) A (collect (.ref a)) Q E s:=by
 obtain⟨W,⟨m,w0⟩,st⟩:=hC;have hT:∀{P i H s},SS P i H s->s.TypeIs (.ref a) "generator":=λh=>let⟨g,ig⟩:=hg _ _ _ _ h;ig.typeIs;have hSa:s.heap.objs.size≠a:=Nat.ne_of_gt (Zc hal hlo);unfold collect;refine Zv (wpAny_runValue (codeAny_builtin F.entry_proto_collect ?_));rw[Around.under_plainId F.plain_proto_collect _];show wpAny _ A.in1 (newList [] >>= λl=>again (.builtin "list.__iadd__" ⟨[l,.ref a],[]⟩)) _ _ s;refine Zv (Zz ?_);refine Zx ⟨plainId_quiet F.plain_list_iadd _,codeAny_builtin F.entry_list_iadd ?_⟩;rw[Around.under_plainId F.plain_list_iadd _];have hn:H s.heap.objs.size=none:=(sm.inv hs).hok.fresh (Zg _);have hst₁:=sm.keep (h':=s.heap.push { cls:=.type "list",data:=.seq ([]:List Value).toArray}) (tk:=s.toks) hs λb o e=>Zb _ e;show wpAny _ A.in1 (Builtin.List.listExtendWith (.ref s.heap.objs.size) (.ref a) (.ref s.heap.objs.size)) _ _ _;unfold Builtin.List.listExtendWith;refine Zv (wpAny_typeOf (hT hst₁) ?_);have h1:Builtin.List.listSameRef (.ref s.heap.objs.size) (.ref a)=false:=by simp[Builtin.List.listSameRef,hSa]
 have h2:(Value.type "generator"==Value.type "list")=false:=by decide
 have h3:(Value.type "generator"==Value.type "tuple")=false:=by decide
 simp only[h1,h2,h3,Bool.or_false,Bool.false_eq_true,if_false];obtain⟨g1,ig1⟩:=hg _ _ _ _ hst₁;refine Zv (wpAny_pyIter_gen ig1 ?_);refine Zv (wpAny_holding ?_);unfold Builtin.List.listLengthHint;refine Zv (wpAny_specialOf (hT hst₁) F.gen_no_len ?_);show wpAny _ A.in1 (specialOf (Value.ref a) (Str.ofString "__length_hint__") >>= _) _ _ _;refine Zv (wpAny_specialOf (hT hst₁) F.gen_no_hint ?_);refine Zx ?_;show wpAny _ A.in1 (rule "list.extend.makes-room" >>= λ_=>Builtin.List.listTouch (.ref s.heap.objs.size) >>= λ_=>
  again (.builtin "list.extend.loop" ⟨[.ref s.heap.objs.size,.ref a,.ref s.heap.objs.size],[]⟩)) _ _ _
 refine Zv (wpAny_rule ?_);have hS₁:(s.heap.push { cls:=.type "list",data:=.seq ([]:List Value).toArray}).get? s.heap.objs.size=some { cls:=.type "list",data:=.seq ([]:List Value).toArray}:=Zf _ rfl;refine Zv ?_;show wpAny _ A.in1 (updateSeq s.heap.objs.size (·.push .none) >>= λ_=>updateSeq s.heap.objs.size (·.pop)) _ _ _;refine Zv (wpAny_updateSeq hS₁ rfl ?_);have hS₂:=Heap.get?_update_self (Obj.mapSeq (·.push Value.none)) hS₁ rfl;refine wpAny_updateSeq hS₂ rfl ?_;have hS₃:=Heap.get?_update_self (Obj.mapSeq (·.pop)) hS₂ rfl;have oth:∀b o,b≠s.heap.objs.size->(s.heap.push { cls:=.type "list",data:=.seq ([]:List Value).toArray}).get? b=some o->
   (((s.heap.push { cls:=.type "list",data:=.seq ([]:List Value).toArray}).update s.heap.objs.size (Obj.mapSeq (·.push Value.none))).update s.heap.objs.size (Obj.mapSeq (·.pop))).get? b=some o:=
  λb o hb e=>(Heap.get?_update_other _ _ (Ne.symm hb)).trans ((Heap.get?_update_other _ _ (Ne.symm hb)).trans e)
 refine Zx ⟨plainId_quiet F.plain_extend_loop _,codeAny_mono (zM (res:=.ref s.heap.objs.size) sm hlo st m 0 [] [] _ H _ (sm.put (s:=({ s with heap:=s.heap.push { cls:=.type "list",data:=.seq ([]:List Value).toArray} }:Zsh)) (h':=((s.heap.push { cls:=.type "list",data:=.seq ([]:List Value).toArray}).update s.heap.objs.size (Obj.mapSeq (·.push Value.none))).update s.heap.objs.size (Obj.mapSeq (·.pop))) (tk:=s.toks) (sm.pin hst₁ hlo hS₁ hn (λv z=>by cases z)) (λp hp=>absurd hp (by simp)) oth hS₃ (λv z=>by cases z)) w0 .nil (Nat.zero_le _)) λr s' ⟨hr,ys,us,c,H',I',hv,hz,ho,hn',hfin⟩=>?_⟩
 subst hr;show wpAny _ A (load s.heap.objs.size >>= _) _ _ s';refine Zv (wpAny_load ho ?_);refine Zx ?_;have e:(us.toArray).toList=us:=by simp
 show Q (us.toArray).toList s';rw[e];exact hQ ys us H' s' I' hv hz hfin
def Xn(ts:wH):TE:=λσ H Q=>ts σ H λS H1=>Wc S (λys H'=>∀p,H' p=none->Q (.ref p) (upd H' p (.tup ys))) H1
theorem uZ{A:Zar}{E:Value->Zsh->Prop}{a:Addr}{lo:Nat}{S:nO}{SS:List (Addr×Obj)->Nat->Hp->Zsh->Prop}{Fin:List V->Hp->Prop}{H:Hp}{s:Zsh}{Q₁:Value->Zsh->Prop}(sm:tX X pins σ A.in1.in1 a lo S SS)(hs:SS [] 0 H s)(hal:a<lo)(hlo:lo<=s.heap.objs.size)
  (hg:∀P i H s,SS P i H s->∃g,s.heap.IsGen a g) (hC:Wc S Fin H) (h:∀ys us H' s',Inv X pins σ H' s'->bM ys us->ys.length<=sizeLine->Fin ys H'->Q₁ (.ref s'.heap.objs.size) { s' with heap:=s'.heap.push { cls:=.type "tuple",data:=.seq us.toArray} }):
  codeAny (model X.prog X.w) A (.call (.builtin "tuple.__new__") ⟨[.type "tuple",.ref a],[]⟩) (wants Q₁ E) s:=by
 refine codeAny_of_tree ?_;show wpAny _ A.in1 (do checkBuiltinCall "tuple.__new__" ⟨[.type "tuple",.ref a],[]⟩;again (.builtin "tuple.__new__" ⟨[.type "tuple",.ref a],[]⟩)) _ _ s
 refine Zv (wpAny_of_eq (F.newCall_tuple_1 _) (Zx ⟨plainId_quiet F.plain_tuple_new _,codeAny_builtin F.entry_tuple_new ?_⟩));rw[Around.under_plainId F.plain_tuple_new _];have hsub:=sub_tuple_self;have hinit:=init_tuple_lookup;have hmh:=madeHere_tuple;obtain⟨g0,ig0⟩:=hg _ _ _ _ hs;have hTI:=ig0.typeIs;have col:∀{Q:List Value->Zsh->Prop}{E:Value->Zsh->Prop},(∀ys us H' s',Inv X pins σ H' s'->bM ys us->ys.length<=sizeLine->Fin ys H'->Q us s')->wpAny (model X.prog X.w) A.in1 (collect (.ref a)) Q E s:=λhQ=>By sm hs hal hlo hg hC hQ
 wp_walk using wpAny_typeOf hTI,col
 intro ys us H' s' I' hv hz hfin;show wpAny _ _ (Builtin.Tuple.tupleExact us.toArray >>= λv=>ret v) _ _ _;unfold Builtin.Tuple.tupleExact;refine Zv (Zz ?_ (by show us.toArray.size<=sizeLine;rw[Zd,<-hv.length];exact hz))
 refine Zx ?_;exact h ys us H' s' I' hv hz hfin
theorem Qq(hc:X.calm=true)(hm:X.mg "tuple"=none)(hstr:wg X e ts)(hg:Gl X "tuple":=by rfl)(hs:starEach [e] X.env=(false,eval e X.env)::starEach [] X.env:=by rfl):PE X (.Call (.Name "tuple" p) [e] [] pos) (Xn ts):=by
 intro pins s σ H Q I h;refine wpAny_Call_Name_kw (oU I hg hm ZL ?_ (by decide) (by decide))
 refine PyProof.Rows.callWith_type1 (uM (thn (hstr pins s σ H _ I h) λu s1 ⟨a,S,H1,e,I1,rdy,hC⟩=>?_) hs) hs rfl;subst e;obtain⟨a1,a2⟩:=yN I1 hc (A':=X.A.in1.in1.in1) rfl rfl;obtain⟨lo,SS,sm,s0,hal,hlo,hgn⟩:=rdy X.A.in1.in1.in1 a1 a2 (Nat.le_succ _) (by show X.A.units+1+1+1<=_;lia)
 refine callType_codes (Q₁:=λobj s₁=>s₁.TypeIs obj "tuple"/\EP X pins σ Q obj s₁) F.called_tuple (F.typeCall_tuple_1 _) F.entry_object_init
  (uZ (A:=X.A.in1) sm s0 hal hlo hgn hC λys us H' s' I' hv hz hfin=>⟨⟨_,Zf _ rfl,rfl⟩,?_⟩) λobj s₁ h₁=>?_
 .have hf:H' s'.heap.objs.size=none:=I'.hok.fresh (Zg _);refine⟨.ref s'.heap.objs.size,upd H' s'.heap.objs.size (.tup ys),I'.laid (t':=s'.toks) (λb u e=>Zb _ e) (Zg _) ?_,rfl,hfin _ hf⟩;exact⟨hz,us,hv,⟨_,Zf _ rfl,rfl,_,rfl⟩⟩
 .exact⟨h₁.1,F.args_object_init_2 obj _,object_init_meets F.called_tuple.init.lookup F.called_tuple.made (by decide) X.prog X.w X.A.in1 _ s₁ ⟨h₁.1,rfl,h₁.2⟩⟩
def ZV(ts:wH):TE:=λσ H Q=>ts σ H λS H1=>∃W:Nat->Nat->Int->Hp->Prop,(∃m,W 0 m 0 H1)/\∀i m t H,W i m t H->
 S.fin i H (λH'=>Q (.int t) H')∨S.nxt i H λy H'=>∃j,y= .int j/\∃m',m'<m/\W (i+1) m' (t+j) H'
theorem Li{A:Zar}{it D:Addr}{lo:Nat}{S:nO}{SS:List (Addr×Obj)->Nat->Hp->Zsh->Prop}{Q:VK}{W:Nat->Nat->Int->Hp->Prop}(sm:tX X pins σ A.in1 it lo S SS)(hD:lo<=D)
  (st:∀i m t H,W i m t H->S.fin i H (λH'=>Q (.int t) H')∨S.nxt i H λy H'=>∃j,y= .int j/\∃m',m'<m/\W (i+1) m' (t+j) H'):
  ∀(m i:Nat)(t:Int)(tA:Tok)(c:Nat)(stage:Int)(H:Hp)(s:Zsh),(stage=0∨stage=2)->SS [(D,cF [.int t tA] c)] i H s->W i m t H->
   codeAny (model X.prog X.w) A (.builtin "sum.loop" ⟨[.ref it,.ref D,rawInt stage,rawInt 0],[]⟩) (λr s'=>∃u,r= .ok (.ret u)/\EP X pins σ Q u s') s:=by
 intro m
 induction m using Nat.strongRecOn with
 |ind m ih=>
  intro i t tA c stage H s hstg hsp hw;have ho:s.heap.get? D=some (cF [.int t tA] c):=((sm.inv hsp).pin (D,cF [.int t tA] c) (by simp)).1
  refine codeAny_builtin F.entry_sum_loop ?_;rw[Around.under_plainId F.plain_sum_loop _];show wpAny _ A.in1 (seqItems? (.ref D) >>= _) _ _ s;refine Zv (wpAny_seqItems ho rfl ?_);show wpAny _ A.in1 (tryCatch (pyNext (.ref it)) _ >>= _) _ _ s
  rcases st i m t H hw with hf|hn'
  .refine Zv (wpAny_tryCatch (Zy (sm.stop (λ_ _=>False) hsp hf) (λr s1 ⟨hr,H1,q,I1⟩=>?_) λ_ _ z=>z.elim));subst hr;exact Zx ⟨_,rfl,.int t,H1,I1.pins_of λp hp=>I1.pin p (by simp[hp]),⟨tA,rfl⟩,q⟩
  .refine Zv (wpAny_tryCatch (Zy (sm.next (λ_ _=>False) hsp hn') (λr s1 ⟨u,y,H',hr,ry,⟨j,ey,m',hm,hw'⟩,hs'⟩=>?_) λ_ _ z=>z.elim));subst hr ey;obtain⟨tj,rfl⟩:=ry;have pl:=(sm.inv hs').pin (D,cF [.int t tA] c) (by simp)
   have plain:∀(next:Value->Int),(∀r,next r=2)->wpAny (model X.prog X.w) A.in1 (do
     match<-(holding [Value.int j tj] (binaryOp .Add (Value.int t tA) (Value.int j tj))).attempt with
     | .ok r=>updateSeq D λ_=> #[r];letGo [Value.int t tA,Value.int j tj];(do updateSeq D λ_=> #[r];again (.builtin "sum.loop" ⟨[.ref it,.ref D,rawInt (next r),rawInt 0],[]⟩))
     | .error e=>updateSeq D λ_=> #[];letGo [Value.int t tA,Value.int j tj] [e];throw e) (λfin s'=>match fin with
      | .done f=>∃u,(Except.ok f:Result)= .ok (.ret u)/\EP X pins σ Q u s'
      | .again c=>c.quiet=true/\codeAny (model X.prog X.w) A c (λr s'=>∃u,r= .ok (.ret u)/\EP X pins σ Q u s') s') (λe s'=>∃u,(Except.error e:Result)= .ok (.ret u)/\EP X pins σ Q u s') s1:=by
    intro next hnx;refine Zv (wpAny_attempt (wpAny_holding (add_int ?_)));refine Zv (wpAny_updateSeq (s:={ s1 with toks:=s1.toks+1}) pl.1 rfl ?_)
    have o1:=Heap.get?_update_self (Obj.mapSeq (λ_=> #[Value.int (t+j) s1.toks])) pl.1 rfl;refine Zv (wpAny_letGo ?_);refine Zv (wpAny_updateSeq o1 rfl ?_);have o2:=Heap.get?_update_self (Obj.mapSeq (λ_=> #[Value.int (t+j) s1.toks])) o1 rfl;rw[hnx];refine Zx ⟨plainId_quiet F.plain_sum_loop _,ih m' hm (i+1) (t+j) s1.toks _ 2 H' _ (.inr rfl) (sm.put (s:=s1) (h':=(s1.heap.update D (Obj.mapSeq (λ_=> #[Value.int (t+j) s1.toks]))).update D (Obj.mapSeq (λ_=> #[Value.int (t+j) s1.toks]))) (tk:=s1.toks+1) hs' (λp hp=>absurd hp (by simp)) (λb o hb e=>(Heap.get?_update_other _ _ (Ne.symm hb)).trans ((Heap.get?_update_other _ _ (Ne.symm hb)).trans e)) o2 (λv z=>by cases z)) hw'⟩
   rcases hstg with rfl|rfl
   .show wpAny _ A.in1 (if(_:Bool)=true then(mkInt (t+j) >>= _)else _) _ _ _;split
    .refine Zv (wpAny_mkInt ?_);show wpAny _ A.in1 (updateSeq D (λ_=> #[.int (t+j) s1.toks]) >>= _) _ _ _;refine Zv (wpAny_updateSeq (s:={ s1 with toks:=s1.toks+1}) pl.1 rfl ?_)
     have o1:=Heap.get?_update_self (Obj.mapSeq (λ_=> #[Value.int (t+j) s1.toks])) pl.1 rfl;exact Zx ⟨plainId_quiet F.plain_sum_loop _,ih m' hm (i+1) (t+j) s1.toks _ 0 H' _ (.inl rfl) (sm.put (s:=s1) (h':=s1.heap.update D (Obj.mapSeq (λ_=> #[Value.int (t+j) s1.toks]))) (tk:=s1.toks+1) hs' (λp hp=>absurd hp (by simp)) (λb o hb e=>(Heap.get?_update_other _ _ (Ne.symm hb)).trans e) o1 (λv z=>by cases z)) hw'⟩
    .exact Zv (wpAny_rule (plain (λ_=>2) λ_=>rfl))
   .exact plain (λ_=>2) λ_=>rfl
theorem RJ(hc:X.calm=true)(hm:X.mg "sum"=none)(hstr:zN X e ts)(hg:Gl X "sum":=by rfl)(hs:starEach [e] X.env=(false,eval e X.env)::starEach [] X.env:=by rfl):PE X (.Call (.Name "sum" p) [e] [] pos) (ZV ts):=by
 intro pins s σ H Q I h;refine wpAny_Call_Name_kw (oU I hg hm boot_sum ?_ (by decide) (by decide))
 refine PyProof.Rows.callWith_builtin1 (uM (thn (hstr pins s σ H _ I h) λu s1 ⟨S,H1,I1,rdy,W,⟨m,w0⟩,st⟩=>?_) hs) hs rfl;refine call_function_tree F.kind_sum F.plain_sum F.entry_sum (F.args_sum1 _) ?_;unfold Builtin.«sum»;simp only[ZH,List.length_nil];rw[if_neg (by decide)]
 refine Zv (wpAny_of_eq (show Builtin.Builtins.bindParams "sum" ["start"] 0 { }=pure [none]from rfl) ?_);obtain⟨a1,a2⟩:=yN I1 hc (A':=X.A.in1) rfl rfl;refine Zv (Zy (rdy X.A.in1 (λ_ _=>False) a1 a2 (Nat.le_succ _) (by show X.A.units+1<=_;lia)) (λitv s2 ⟨it,lo,SS,e,sm,s0,hlo⟩=>?_) λ_ _ z=>z.elim)
 subst e;refine Zv (wpAny_mkInt ?_);refine Zv (Zx ?_);simp only[List.forIn_cons,List.forIn_nil];refine Zv (Zv (Zv (wpAny_isInstance (T:="int") (b:=false) (typeIs_int _ _ _) PySem.sub_int_str ?_)));simp only[Bool.false_eq_true,if_false];refine Zx (Zv (Zv (wpAny_isInstance (T:="int") (b:=false) (typeIs_int _ _ _) PySem.sub_int_bytes ?_)));simp only[Bool.false_eq_true,if_false];refine Zx (Zv (Zv (wpAny_isInstance (T:="int") (b:=false) (typeIs_int _ _ _) PySem.sub_int_bytearray ?_)));simp only[Bool.false_eq_true,if_false];refine Zx (Zx ?_);refine Zv (Zz ?_);have hn:H1 s2.heap.objs.size=none:=(sm.inv s0).hok.fresh (Zg _);refine Zx ⟨plainId_quiet F.plain_sum_loop _,codeAny_mono (Li sm hlo st m 0 0 s2.toks 0 0 H1 _ (.inl rfl) (sm.pin (sm.keep (s:=s2) (h':=s2.heap.push { cls:=.type "list",dict:=none,data:=.seq [Value.int 0 s2.toks].toArray}) (tk:=s2.toks+1) s0 λb o e=>Zb _ e) hlo (Zf _ rfl) hn (λv z=>by cases z)) w0) λr s' ⟨u,hr,q⟩=>?_⟩
 subst hr;exact q
end
end L2
namespace L3
open PySem PySem.Spec PyProof.Rows L2
abbrev gH:=Mu->Option (D×Mu)
structure Tj(K:Zw)(tb:List Addr)(S:nO)(ths:List gH)(W0:Wd):Prop where
 nxt:∀(i:Nat) W th d μ' Q,Le tb W0 W->WOk K tb W->ths[i]? =some th->th W.mu=some (d,μ')->(∀v W',WOk K tb W'->Le tb W W'->W'.mu=μ'->Den K tb W' d v->Q v W'.H)->S.nxt i W.H Q
 fin:∃P:Mu->Prop,P W0.mu/\(∀th∈ths,∀μ d μ',P μ->th μ=some (d,μ')->P μ')/\∀(i:Nat) W Q,Le tb W0 W->WOk K tb W->P W.mu->ths.length<=i->(∀W',WOk K tb W'->Le tb W W'->W'.mu=W.mu->Q W'.H)->S.fin i W.H Q
abbrev StF:=En->Mu->Option (List gH×Mu)
inductive Nu(K:Zw)(tb:List Addr)(f:StF)(σ:SV)(H:Hp)(R:nO->Hp->Prop):Prop
 |mk (W) (δ) (ths) (μ'):(W.H=H)->(WOk K tb W)->(jF K tb W δ σ)->(f δ W.mu=some (ths,μ'))->(∀S W',WOk K tb W'->Le tb W W'->W'.mu=μ'->Tj K tb S ths W'->R S W'.H)->Nu K tb f σ H R
def Cd(X:Cx)(tb:List Addr)(e:Expr)(f:StF):Prop:=zN X e (Nu X.K tb f)
def uV(X:Cx)(tb:List Addr)(e:Expr)(f:StF):Prop:=wg X e (Nu X.K tb f)
section
variable {X:Cx} {tb:List Addr} {e tg iter elt:Expr} {f:EF} {pos p:Pos} {fs:StF}
theorem Ql(h:zN X e t)(k:∀σ H R,t' σ H R->t σ H R):zN X e t':=λpins s σ H R I hq=>h pins s σ H R I (k σ H R hq)
theorem zY(h:wg X e t)(k:∀σ H R,t' σ H R->t σ H R):wg X e t':=λpins s σ H R I hq=>h pins s σ H R I (k σ H R hq)
theorem lz(h:uV X tb e fs):Cd X tb e fs:=Bw h
def thE(d:D):gH:=λμ=>some (d,μ)
def gZ(f:EF):StF:=λδ μ=>(f δ μ).bind λr=>match r.1 with
 | .tup ds=>some (ds.map thE,r.2)
 | .lst ds=>some (ds.map thE,r.2)
 |_=>none
theorem JT{K:Zw}{J:It}{ds:List D}{W0:Wd}(io:um K tb J ⟨ds,none⟩ W0):Tj K tb (Fz J) (ds.map thE) W0 where
 nxt:=λi W th d μ' Q l ok e1 e2 hQ=>by
  rw[List.getElem?_map]at e1;cases q:ds[i]? with
  |none=>rw[q]at e1;cases (e1)
  |some d0=>
   rw[q]at e1;cases (e1);cases (e2);obtain⟨go,yl⟩:=io.go i W d l ok (Src.bZ rfl) q;exact⟨go,λx H' y=>by
    obtain⟨W',rfl,ok',l',m',d'⟩:=yl x H' y;exact hQ x W' ok' l' m' d'⟩
 fin:=⟨λ_=>True,trivial,λ_ _ _ _ _ _ _=>trivial,λi W Q l ok _ hi hq=>⟨io.stop i W l ok (Src.bZ rfl) (by simpa using hi),hq W ok (Le.refl _) rfl⟩⟩
theorem fQ(hc:X.calm=true)(he:PD X tb e f):Cd X tb e (gZ f):=
 Ql (KD hc he) λσ H R zq1=>by
  obtain⟨W,δ,ths,μ',e,ok,hd,hf,h⟩:=zq1;unfold gZ at hf;obtain⟨⟨x,μ1⟩,e1,e2⟩:=Zbs hf;refine⟨W,δ,x,μ1,e,ok,hd,e1,λv W1 ok1 l1 m1 d1=>?_⟩;cases x with
  |tup ds=>
   cases e2;obtain⟨a,xs,rfl,q,r⟩:=jP d1;exact⟨a,rfl,.inr ⟨⟨xs,SqT.fz q⟩,h _ W1 ok1 l1 m1 (JT (Ni q r))⟩⟩
  |lst ds=>
   cases e2;obtain⟨a,xs,rfl,q,r⟩:=ph d1;exact⟨a,rfl,.inl ⟨⟨xs,SqL.fz q⟩,h _ W1 ok1 l1 m1 (JT (Og q r))⟩⟩
  |_=>cases e2
def thG(h:GF)(fe:EF)(δb:En)(d:D):gH:=λμ=>(h d δb μ).bind λδ1=>fe δ1 μ
def ou(own:List Str)(capI:List Nat)(fi:IF)(h:GF)(fe:EF):StF:=λδ μ=>(fi δ μ).bind λr=>match r.1.cel with
 |none=>some (r.1.items.map (thG h fe (bW own δ capI)),r.2)
 |some _=>none
theorem Ij{fi:IF}{h:GF}{fe:EF}{own cap:List Str}{capI ts:List Nat}{scope:Scope}{P:Addr}{kr:Nat}(hc:X.calm=true)(hr:dH kr X.A)(B:fV X own cap capI scope)(hown:∀x∈own,(x,NameKind.free)∉scope.names)(hnc:∀y∈scope.names,y.2≠ .cell)
  (hP:P∈tb) (htb:∃c,X.env.code= .ref c/\ZB X.base c P) (hi:PID X tb tg iter fi)
  (hg:∀AG cs C code fp s2 H2,PGD (jr X AG own cap scope cs C code fp s2 H2) tb tg ts h)
  (he:∀AG cs C code fp s2 H2,(∀k,dH (k+1) X.A->dH k AG)->PD (jr X AG own cap scope cs C code fp s2 H2) tb elt fe)
  (hts:∀i∈ts,i<own.length:=by decide) (h0:scope.names.lookup (".0":Str)=some NameKind.local:=by rfl) (hco:scope.isCoroutine=false:=by rfl) (hs:∀x,genFold iter X.env x=pure x:=by intro _;rfl):
  uV X tb (.GeneratorExp elt [⟨tg,iter,[],0⟩] scope pos) (ou own capI fi h fe):=
 zY (Nb (g:=tDG X.K tb ts h) (te:=tD X.K tb fe) hc hr B hown hnc h0 hco htb hi hg he hs) λσ H R zq2=>by
  obtain⟨W,δ,ths,μ',e,ok,hd,hf,k⟩:=zq2;unfold ou at hf;obtain⟨⟨S,μ1⟩,e1,e2⟩:=Zbs hf;obtain⟨items,cel⟩:=S;cases cel with
  |some n=>cases e2
  |none=>
   cases e2;refine⟨W,δ,⟨items,none⟩,_,e,ok,hd,e1,λJ W1 ok1 l1 m1 io=>?_⟩;obtain⟨ps,ep,tp⟩:=ok1.tab P hP;refine⟨ps,ep,tp,λlo H2 ps' hG=>?_⟩;obtain⟨ok2,l2⟩:=ok1.tbl hP ep hG;refine k _ ⟨H2,W1.ad,W1.mu⟩ ok2 (l1.trans l2) m1 ⟨λi W3 th d μ3 Q l3 ok3 e3 e4 hQ=>?_,⟨λ_=>True,trivial,λ_ _ _ _ _ _ _=>trivial,λi W3 Q l3 ok3 _ hi3 hq=>?_⟩⟩
   .rw[List.getElem?_map]at e3;cases q:items[i]? with
    |none=>rw[q]at e3;cases e3
    |some d0=>
     rw[q]at e3;cases e3;unfold thG at e4;obtain⟨δ1,e5,e6⟩:=Zbs e4;obtain⟨go,yl⟩:=io.go i W3 d0 (l2.trans l3) ok3 (Src.bZ rfl) q;refine⟨go,λx H' y=>?_⟩;obtain⟨W4,rfl,ok4,l4,m4,d4⟩:=yl x H' y;refine⟨W4,bW own δ capI,d0,δ1,rfl,ok4,(uE hd).mono' (((l1.trans l2).trans l3).trans l4),d4,(by rw[m4];exact e5),λσ' d' hl ht=>⟨fits_of hts hl ht,?_⟩⟩
     exact⟨W4,δ1,d,μ3,rfl,ok4,d',(by rw[m4];exact e6),λv W5 ok5 l5 m5 d5=>hQ v W5 ok5 (l4.trans l5) m5 d5⟩
   .exact⟨io.stop i W3 (l2.trans l3) ok3 (Src.bZ rfl) (by simpa using hi3),hq W3 ok3 (Le.refl _) rfl⟩
def uX:D->Option Bool
 | .bl b=>some b
 | .int i=>some (i != 0)
 |_=>none
theorem Cw{K:Zw}{W:Wd}{x:D}{v:V}{k:Bool}(h:Den K tb W x v)(e:uX x=some k):Ig v k:=by
 cases x with
 |bl b=>cases e;exact .inl (lN h)
 |int i=>cases e;exact .inr ⟨i,bF h,rfl⟩
 |_=>cases e
def vM:List gH->Mu->Option (Bool×Mu)
 | [],μ=>some (true,μ)
 |t::r,μ=>(t μ).bind λx=>(uX x.1).bind λk=>if k=true then vM r x.2 else some (false,x.2)
def rC:List gH->Mu->Option (Bool×Mu)
 | [],μ=>some (false,μ)
 |t::r,μ=>(t μ).bind λx=>(uX x.1).bind λk=>if k=true then some (true,x.2)else rC r x.2
def Bu:List gH->Mu->Option (List D×Mu)
 | [],μ=>some ([],μ)
 |t::r,μ=>(t μ).bind λx=>(Bu r x.2).bind λq=>some (x.1::q.1,q.2)
def sX:Int->List gH->Mu->Option (Int×Mu)
 |a,[],μ=>some (a,μ)
 |a,t::r,μ=>(t μ).bind λx=>match x.1 with
  | .int j=>sX (a+j) r x.2
  |_=>none
def qu(f:StF):EF:=λδ μ=>(f δ μ).bind λr=>(vM r.1 r.2).bind λq=>some (.bl q.1,q.2)
def Dl(f:StF):EF:=λδ μ=>(f δ μ).bind λr=>(rC r.1 r.2).bind λq=>some (.bl q.1,q.2)
def Av(f:StF):EF:=λδ μ=>(f δ μ).bind λr=>if r.1.length<=sizeLine then(Bu r.1 r.2).bind λq=>some (.tup q.1,q.2)else none
def pN(f:StF):EF:=λδ μ=>(f δ μ).bind λr=>(sX 0 r.1 r.2).bind λq=>some (.int q.1,q.2)
theorem nM(hc:X.calm=true)(hm:X.mg "all"=none)(hstr:Cd X tb e fs)(hg:Gl X "all":=by rfl)(hs:starEach [e] X.env=(false,eval e X.env)::starEach [] X.env:=by rfl):PD X tb (.Call (.Name "all" p) [e] [] pos) (qu fs):=
 gW (RN hc hm hstr hg hs) λσ H Q zq3=>by
  obtain⟨W,δ,d,μ',e,ok,hd,hf,h⟩:=zq3;unfold qu at hf;obtain⟨⟨ths,μ1⟩,e1,hf⟩:=Zbs hf;obtain⟨⟨b,μ2⟩,e2,e3⟩:=Zbs hf;cases e3;refine⟨W,δ,ths,μ1,e,ok,hd,e1,λS W1 ok1 l1 m1 so=>?_⟩;obtain⟨P,p0,pk,fin⟩:=so.fin;refine⟨λi m H2=>m=ths.length-i/\∃W2,W2.H=H2/\WOk X.K tb W2/\Le tb W1 W2/\P W2.mu/\vM (ths.drop i) W2.mu=some (b,μ2),⟨_,rfl,W1,rfl,ok1,Le.refl _,p0,by rw[m1];exact e2⟩,?_⟩
  rintro i m H2 ⟨rfl,W2,rfl,ok2,l2,hp2,ha⟩;by_cases hlt:i<ths.length
  .right
   rw[ZJ hlt]at ha;unfold vM at ha;obtain⟨⟨x,μ3⟩,e3,ha⟩:=Zbs ha;obtain⟨k,e4,ha⟩:=Zbs ha;refine so.nxt i W2 ths[i] x μ3 _ l2 ok2 (by simp[hlt]) e3 λv W3 ok3 l3 m3 d3=>⟨k,Cw d3 e4,?_⟩
   cases k with
   |true=>
    rw[if_pos rfl];exact⟨ths.length-(i+1),by lia,rfl,W3,rfl,ok3,l2.trans l3,(by rw[m3];exact pk _ (List.getElem_mem hlt) _ _ _ hp2 e3),by rw[m3];exact ha⟩
   |false=>
    rw[if_neg Zr];cases ha;exact h _ W3 ok3 ((l1.trans l2).trans l3) m3 gK
  .left
   rw[List.drop_of_length_le (by lia)]at ha
   cases ha;exact fin i W2 _ l2 ok2 hp2 (by lia) λW3 ok3 l3 m3=>h _ W3 ok3 ((l1.trans l2).trans l3) m3 gK
theorem Do(hc:X.calm=true)(hm:X.mg "any"=none)(hstr:Cd X tb e fs)(hg:Gl X "any":=by rfl)(hs:starEach [e] X.env=(false,eval e X.env)::starEach [] X.env:=by rfl):PD X tb (.Call (.Name "any" p) [e] [] pos) (Dl fs):=
 gW (Sd hc hm hstr hg hs) λσ H Q zq4=>by
  obtain⟨W,δ,d,μ',e,ok,hd,hf,h⟩:=zq4;unfold Dl at hf;obtain⟨⟨ths,μ1⟩,e1,hf⟩:=Zbs hf;obtain⟨⟨b,μ2⟩,e2,e3⟩:=Zbs hf;cases e3;refine⟨W,δ,ths,μ1,e,ok,hd,e1,λS W1 ok1 l1 m1 so=>?_⟩;obtain⟨P,p0,pk,fin⟩:=so.fin;refine⟨λi m H2=>m=ths.length-i/\∃W2,W2.H=H2/\WOk X.K tb W2/\Le tb W1 W2/\P W2.mu/\rC (ths.drop i) W2.mu=some (b,μ2),⟨_,rfl,W1,rfl,ok1,Le.refl _,p0,by rw[m1];exact e2⟩,?_⟩
  rintro i m H2 ⟨rfl,W2,rfl,ok2,l2,hp2,ha⟩;by_cases hlt:i<ths.length
  .right
   rw[ZJ hlt]at ha;unfold rC at ha;obtain⟨⟨x,μ3⟩,e3,ha⟩:=Zbs ha;obtain⟨k,e4,ha⟩:=Zbs ha;refine so.nxt i W2 ths[i] x μ3 _ l2 ok2 (by simp[hlt]) e3 λv W3 ok3 l3 m3 d3=>⟨k,Cw d3 e4,?_⟩
   cases k with
   |false=>
    rw[if_neg Zr];exact⟨ths.length-(i+1),by lia,rfl,W3,rfl,ok3,l2.trans l3,(by rw[m3];exact pk _ (List.getElem_mem hlt) _ _ _ hp2 e3),by rw[m3];exact ha⟩
   |true=>
    rw[if_pos rfl];cases ha;exact h _ W3 ok3 ((l1.trans l2).trans l3) m3 gK
  .left
   rw[List.drop_of_length_le (by lia)]at ha
   cases ha;exact fin i W2 _ l2 ok2 hp2 (by lia) λW3 ok3 l3 m3=>h _ W3 ok3 ((l1.trans l2).trans l3) m3 gK
theorem pU(hc:X.calm=true)(hm:X.mg "sum"=none)(hstr:Cd X tb e fs)(hg:Gl X "sum":=by rfl)(hs:starEach [e] X.env=(false,eval e X.env)::starEach [] X.env:=by rfl):PD X tb (.Call (.Name "sum" p) [e] [] pos) (pN fs):=
 gW (RJ hc hm hstr hg hs) λσ H Q zq5=>by
  obtain⟨W,δ,d,μ',e,ok,hd,hf,h⟩:=zq5;unfold pN at hf;obtain⟨⟨ths,μ1⟩,e1,hf⟩:=Zbs hf;obtain⟨⟨b,μ2⟩,e2,e3⟩:=Zbs hf;cases e3;refine⟨W,δ,ths,μ1,e,ok,hd,e1,λS W1 ok1 l1 m1 so=>?_⟩;obtain⟨P,p0,pk,fin⟩:=so.fin;refine⟨λi m t H2=>m=ths.length-i/\∃W2,W2.H=H2/\WOk X.K tb W2/\Le tb W1 W2/\P W2.mu/\sX t (ths.drop i) W2.mu=some (b,μ2),⟨_,rfl,W1,rfl,ok1,Le.refl _,p0,by rw[m1];exact e2⟩,?_⟩
  rintro i m t H2 ⟨rfl,W2,rfl,ok2,l2,hp2,ha⟩;by_cases hlt:i<ths.length
  .right
   rw[ZJ hlt]at ha;unfold sX at ha;obtain⟨⟨x,μ3⟩,e3,ha⟩:=Zbs ha;cases x with
   |int j=>
    refine so.nxt i W2 ths[i] _ μ3 _ l2 ok2 (by simp[hlt]) e3 λv W3 ok3 l3 m3 d3=>⟨j,bF d3,ths.length-(i+1),by lia,rfl,W3,rfl,ok3,l2.trans l3,(by rw[m3];exact pk _ (List.getElem_mem hlt) _ _ _ hp2 e3),by rw[m3];exact ha⟩
   |_=>cases ha
  .left
   rw[List.drop_of_length_le (by lia)]at ha
   cases ha;exact fin i W2 _ l2 ok2 hp2 (by lia) λW3 ok3 l3 m3=>h _ W3 ok3 ((l1.trans l2).trans l3) m3 gk
theorem Pk(hc:X.calm=true)(hm:X.mg "tuple"=none)(hstr:uV X tb e fs)(hg:Gl X "tuple":=by rfl)(hs:starEach [e] X.env=(false,eval e X.env)::starEach [] X.env:=by rfl):PD X tb (.Call (.Name "tuple" p) [e] [] pos) (Av fs):=
 gW (Qq hc hm hstr hg hs) λσ H Q zq6=>by
  obtain⟨W,δ,d,μ',e,ok,hd,hf,h⟩:=zq6;unfold Av at hf;obtain⟨⟨ths,μ1⟩,e1,hf⟩:=Zbs hf;split at hf
  .rename_i hz;obtain⟨⟨ds,μ2⟩,e2,e3⟩:=Zbs hf;cases e3;refine⟨W,δ,ths,μ1,e,ok,hd,e1,λS W1 ok1 l1 m1 so=>?_⟩;obtain⟨P,p0,pk,fin⟩:=so.fin;refine⟨λi m ys H2=>m=ths.length-i/\ys.length<=i/\i<=ths.length/\∃W2 zs rs,W2.H=H2/\WOk X.K tb W2/\Le tb W1 W2/\P W2.mu/\dN X.K tb W2 zs ys/\Bu (ths.drop i) W2.mu=some (rs,μ2)/\zs++rs=ds,⟨_,rfl,Zg _,Nat.zero_le _,W1,[],ds,rfl,ok1,Le.refl _,p0,aG.nil,by rw[m1];exact e2,rfl⟩,?_⟩
   rintro i m ys H2 ⟨rfl,hy,hi,W2,zs,rs,rfl,ok2,l2,hp2,d2,ha,hzs⟩;by_cases hlt:i<ths.length
   .right
    rw[ZJ hlt]at ha;unfold Bu at ha;obtain⟨⟨x,μ3⟩,e3,ha⟩:=Zbs ha;obtain⟨⟨rs',μ4⟩,e4,e5⟩:=Zbs ha;cases e5;refine⟨by have hz':ths.length<=sizeLine:=hz;lia,so.nxt i W2 ths[i] x μ3 _ l2 ok2 (by simp[hlt]) e3 λv W3 ok3 l3 m3 d3=>?_⟩
    exact⟨ths.length-(i+1),by lia,rfl,by rw[ZG];simp;lia,hlt,W3,zs++[x],rs',rfl,ok3,l2.trans l3,(by rw[m3];exact pk _ (List.getElem_mem hlt) _ _ _ hp2 e3),aG.append (dN.mono' d2 l3) (aG.cons d3 aG.nil),by rw[m3];exact e4,by rw[List.append_assoc];exact hzs⟩
   .left
    rw[List.drop_of_length_le (by lia)]at ha
    cases ha;rw[List.append_nil]at hzs;subst hzs;exact fin i W2 _ l2 ok2 hp2 (by lia) λW3 ok3 l3 m3 p hp=>oZ ok3 (λv W' ok' l' m' d'=>h v W' ok' (((l1.trans l2).trans l3).trans l') (m'.trans m3) d') (dN.mono' d2 l3) hp
  .cases hf
end
abbrev FF:=List D->Mu->Option (D×Mu)
inductive spD(K:Zw)(tb:List Addr)(n:Nat)(φ:FF)(vs:List V)(H:Hp)(Q:VK)(E:XK):Prop
 |mk (W) (ds) (d) (μ'):W.H=H->WOk K tb W->dN K tb W ds vs->ds.length=n->φ ds W.mu=some (d,μ')->(∀v W',WOk K tb W'->Le tb W W'->W'.mu=μ'->Den K tb W' d v->Q v W'.H)->spD K tb n φ vs H Q E
structure FI(P:Zpr)(w:World)(K:Zw)(mg:Str->Option Value)(base:Heap)(tb:List Addr)(x:Str)(n k:Nat)(φ:FF):Prop where
 is:∃f fd ps,tB P w K mg base CX0 k f fd ps (spD K tb n φ)/\mg x=some (.ref f)/\PySem.W.keepIn K (.ref f)=true/\Binds K fd ps []
def aH(m:Nat)(g:SF):FF:=λds μ=>(g (ds.map some++List.replicate (m-ds.length) none) μ).bind λr=>match r.1 with
 | .rt d=>some (d,r.2.2)
 | .nx=>some (.non,r.2.2)
 |_=>none
section
variable {X:Cx} {tb:List Addr} {e:Expr} {es:List Expr} {fs:AF} {x:Str} {n k:Nat} {φ:FF} {p pos:Pos}
theorem Rn(F:FI X.prog X.w X.K X.mg X.base tb x n k φ)(hr:dH k X.A)(ha:PAD X tb (e::es) fs)(hn:∀δ μ r,fs δ μ=some r->r.1.length=n)(hg:Gl X x:=by rfl)(hdb:(x==("__debug__":Str))=false:=by decide)
  (he:starEach (e::es) X.env=(false,eval e X.env)::starEach es X.env:=by rfl) (hpl:(backTo pos (starEach es X.env)).any (·.1)=false:=by rfl):PD X tb (.Call (.Name x p) (e::es) [] pos) (MC fs φ):=by
 obtain⟨f,fd,ps,h1,h2,h3,h4⟩:=F.is;refine gW (Pa (E:=E0) h1 hr hg h2 h3 h4 .nil Yn ha hdb he hpl) λσ H Q zq7=>?_;obtain⟨W,δ,d,μ',e,ok,hd,hf,h⟩:=zq7;unfold MC at hf;obtain⟨⟨xs,μ1⟩,e1,e2⟩:=Zbs hf;refine⟨W,δ,xs,μ1,e,ok,hd,e1,λvs W1 ok1 l1 m1 d1=>?_⟩;refine⟨W1,xs,d,μ',rfl,ok1,by rw[List.append_nil];exact d1,hn _ _ _ e1,(by rw[m1];exact e2),λv W' ok' l' m' d'=>h v W' ok' (l1.trans l') m' d'⟩
theorem RZ(δ:En)(μ:Mu)(r:List D×Mu)(h:az δ μ=some r):r.1.length=0:=by cases h;rfl
theorem Ka(hk:∀δ μ r,fs δ μ=some r->r.1.length=n)(δ:En)(μ:Mu)(r:List D×Mu)(h:ao f fs δ μ=some r):r.1.length=n+1:=by
 unfold ao at h;obtain⟨q,_,h⟩:=Zbs h;obtain⟨t,e,h⟩:=Zbs h;cases h;rw[ZH,hk _ _ _ e]
end
structure Oa(K:Zw)(x qual:Str)(st:Stmt)(f:Addr)(fd:FuncData)(P:Addr):Prop where
 ex:∃(oc:Value)(od:Option Addr)(kV doc pm:Value)(an:Option Addr)(c:Addr)(ct:Value)(osl:Array (Option Value)),
  fd=PySem.W.fnOf x qual (nq st) (jA st) (dF st) .none kV doc pm an (.ref c) ct/\K.lookup f=some ⟨oc,od,.func fd,osl⟩/\PySem.W.codeIn K (.ref c) qual=true/\∀h:Heap,K.In h->ZB h c P
 kp:PySem.W.keepIn K (.ref f)=true
theorem Yq{P:Zpr}{w:World}{K:Zw}{mg:Str->Option Value}{base:Heap}{tb:List Addr}{x qual:Str}{st:Stmt}{f:Addr}{fd:FuncData}{T:Addr}{N ps:List Str}{n k:Nat}{g:SF}(F:Oa K x qual st f fd T)(KB:K.In base)(hmg:mg x=some (.ref f))(S:qH N ps (dF st))(hps:ps.length=n)
  (hb:∀(kV doc pm:Value)(an:Option Addr)(cdv ct:Value)(us:List Value),us.length=ps.length->bindArgs (PySem.W.fnOf x qual (nq st) (jA st) (dF st) .none kV doc pm an cdv ct) ⟨us,[]⟩=pure (ps.zip us))
  (hbody:∀(c:Addr)(A:Zar)(outer:List Env)(s:Zsh)(H:Hp)(E:XK),ZB base c T->dH k (A.deeper (envOfC qual (dF st) s.heap.objs.size f (.ref c)))->
   ut (Ax CX0 P w K mg base N qual (dF st) f (.ref c) A outer s H E).nox tb (jA st) g):FI P w K mg base tb x n (k+1) (aH N.length g):=by
 obtain⟨oc,od,kV,doc,pm,an,c,ct,osl,rfl,lk,hcd,hhd⟩:=F.ex;refine⟨f,_,ps,TX lk hcd S (λvs H Q E ⟨W,ds,d,μ',e,ok,dl,hl,_,_⟩=>by rw[<-aG.length dl,hl,hps]) λA outer s H vs Q E hr hsp=>?_,hmg,F.kp,.all (hb kV doc pm an (.ref c) ct)⟩
 obtain⟨W,ds,d,μ',e,ok,dl,hl,hf,k⟩:=hsp;refine⟨_,(hbody c A outer s H E (hhd base KB) hr).nox,?_⟩;unfold aH at hf;obtain⟨⟨fl,δ',μ1⟩,e1,e2⟩:=Zbs hf;refine⟨W,_,fl,δ',μ1,e,ok,?_,e1,λσ' W' ok' l' m' d'=>?_⟩
 .have hlen:=aG.length dl;refine⟨by unfold L2.start;simp[hlen],λi y q=>?_⟩
  unfold L2.start;by_cases hi:i<ds.length
  .rw[Zs (by simpa using hi),List.getElem?_map]at q
   cases q2:ds[i]? with
   |none=>rw[q2]at q;cases q
   |some z=>
    rw[q2]at q;cases q;obtain⟨v,ev,dv⟩:=aG.get dl q2;exact⟨v,by rw[Zs (by rw[Zu,<-hlen];exact hi),List.getElem?_map,ev];rfl,dv⟩
  .rw[List.getElem?_append_right (by simpa using hi),List.getElem?_replicate]at q
   split at q<;>cases q
 .cases fl with
  |nx=>cases e2;exact k .non W' ok' l' m' uH
  |rt d0=>cases e2;exactλv dv=>k v W' ok' l' m' dv
  |bk=>cases e2
  |ct=>cases e2
end L3
namespace L2
open PySem PySem.Spec PyProof.Rows
section
variable {X:Cx} {a b c e:Expr} {ta tb tc te:TE} {pos:Pos}
def lX(i j:Int):Nat:=Builtin.Int.intBits i+Builtin.Int.intBits j
theorem Qv:OpR X (binaryOp .Mult) (rI (λi j=>lX i j<=134217728) λi j=>.int (i*j)):=opI λ_ _ _ _ _ _ _ hc q=>mul_int q (IntMulOk.of_le (Zg _) (Zg _) hc)
theorem Jt:OpR X (binaryOp .FloorDiv) (rI (λ_ j=>j≠0/\j.natAbs.log2<9000) λi j=>.int (i.fdiv j)):=opI λ_ _ _ _ _ _ _ hc q=>floordiv_int hc.1 q (.inl (PyProof.noPylong_of_log2 hc.2))
theorem Ri:OpR X (binaryOp .Pow) (rI (λi j=>0<=j/\(Builtin.Int.intBits i:Int)*j<=2 ^ 27) λi j=>.int (i ^ j.toNat)):=opI λ_ _ _ _ _ _ _ hc q=>pow_int hc.1 hc.2 q
def Yk(K:Zw):R2:=λx y H Q=>∃a b xs ys,x= .ref a/\y= .ref b/\SqT K H a xs/\SqT K H b ys/\xs.length+ys.length<=sizeLine/\
 (xs=[]->Q (.ref b) H)/\(xs≠[]->ys=[]->Q (.ref a) H)/\(xs≠[]->ys≠[]->∀p,H p=none->Q (.ref p) (upd H p (.tup (xs++ys))))
theorem RQ:OpR X (binaryOp .Add) (Yk X.K):=by
 intro pins s σ H x y v u Q I rx ry h;obtain⟨t,b,xs,ys,rfl,rfl,ha,hb,hz,q0,q1,q2⟩:=h;by_cases hx:xs=[]
 .subst hx;cases rx;cases ry;obtain⟨its,r1,p1,_⟩:=I.tuple ha;obtain⟨its2,r2,p2,_⟩:=I.tuple hb;cases r1;obtain⟨⟨cls,dd,data,sl⟩,ho,hc,n,hd⟩:=id p1;obtain⟨⟨cls2,dd2,data2,sl2⟩,ho2,hc2,n2,hd2⟩:=id p2;simp only at hc hd hc2 hd2;subst hc hd hc2 hd2;exact concat_meets ⟨_,ho,rfl⟩ ⟨_,ho2,rfl⟩ noFill_tuple_add seq_tuple_add PySem.F.slot_tuple_add PySem.F.entry_tuple_add (PySem.F.args_tuple_add_2 _ _)
   (tuple_addW0 t b _ _ n n2 dd dd2 sl sl2 (by simp)) ⟨ho,ho2,⟨.ref b,H,I,rfl,q0 rfl⟩⟩
 .exact Qu pins s σ H _ _ v u Q I rx ry ⟨t,b,xs,ys,rfl,rfl,ha,hb,hx,hz,q1 hx,q2 hx⟩
theorem tL:fillsNumberSlot (.type "tuple") "mul"=pure false:=
 PySem.fillsNumberSlot_seq (id:="tuple.__mul__") (r:=some (.builtin "tuple.__rmul__")) F.slot_tuple_mul.lookup (by decide +kernel) F.slot_tuple_rmul.lookup (by decide +kernel)
theorem yQ:seqRepeat? (.type "tuple")=pure (some (.builtin "tuple.__mul__")):=by
 unfold seqRepeat?;rw[PySem.seqSlot_of (T:="tuple") (name:="__mul__") (id:="tuple.__mul__") F.slot_tuple_mul.lookup (by decide +kernel),PySem.seqSlot_of (T:="tuple") (name:="__rmul__") (id:="tuple.__rmul__") F.slot_tuple_rmul.lookup (by decide +kernel)]
 rfl
theorem ww(a:Int)(t:Tok)(l:Addr)(items:Array Value)(n:Nat)(dd:Option Addr)(sl:Array (Option Value)):
  Meets (Builtin.«int.__rmul__» ⟨[.int a t,.ref l],[]⟩) (λ_ R s=>s.heap.get? l=some { cls:=.type "tuple",dict:=dd,data:=.seq items n,slots:=sl}/\R (.ok (.ret Value.notImplemented)) s):=
 .of_wp λprog w A R s h=>by obtain⟨hp,g,d,tk,os⟩:=s;obtain⟨hl,h⟩:=h;wp_walk;exact⟨_,rfl,h⟩
theorem vR(l:Addr)(items:Array Value)(n:Nat)(x:Int)(u:Tok)(dd:Option Addr)(sl:Array (Option Value))(h0:(decide (x< -2 ^ 63)||decide (x>=2 ^ 63))=false)(h1:(items.isEmpty||x==1)=true):
  Meets (Builtin.«tuple.__mul__» ⟨[.ref l,.int x u],[]⟩) (λ_ R s=>s.heap.get? l=some { cls:=.type "tuple",dict:=dd,data:=.seq items n,slots:=sl}/\R (.ok (.ret (Value.ref l))) s):=
 .of_wp λprog w A R s h=>by
  obtain⟨hp,g,d,tk,os⟩:=s;obtain⟨hl,h⟩:=h;unfold Builtin.«tuple.__mul__»
  wp_walk using AutoSeq1.wpAny_loadPart' hl
  refine wpAny_ite_false (decide_eq_false (by rw[h0];exact Zr)) ?_
  wp_walk using AutoSeq1.wpAny_loadPart' hl
  exact⟨_,rfl,h⟩
theorem vZ(l:Addr)(items:Array Value)(n:Nat)(x:Int)(u:Tok)(dd:Option Addr)(sl:Array (Option Value))(h0:(decide (x< -2 ^ 63)||decide (x>=2 ^ 63))=false)(h1:(items.isEmpty||x==1)=false)(h2:(decide (x<=0)||items.isEmpty)=true):
  Meets (Builtin.«tuple.__mul__» ⟨[.ref l,.int x u],[]⟩) (λ_ R s=>s.heap.get? l=some { cls:=.type "tuple",dict:=dd,data:=.seq items n,slots:=sl}/\R (.ok (.ret (Value.ref s.heap.objs.size))) { s with heap:=s.heap.push { cls:=Value.type "tuple",data:=Data.seq #[] },toks:=s.toks}):=
 .of_wp λprog w A R s h=>by
  obtain⟨hp,g,d,tk,os⟩:=s;obtain⟨hl,h⟩:=h;unfold Builtin.«tuple.__mul__»
  wp_walk using AutoSeq1.wpAny_loadPart' hl
  refine wpAny_ite_false (decide_eq_false (by rw[h0];exact Zr)) ?_
  wp_walk using AutoSeq1.wpAny_loadPart' hl
  exact⟨_,rfl,h⟩
theorem wN(l:Addr)(items:Array Value)(n:Nat)(x:Int)(u:Tok)(dd:Option Addr)(sl:Array (Option Value))(h0:(decide (x< -2 ^ 63)||decide (x>=2 ^ 63))=false)(h1:(items.isEmpty||x==1)=false)(h2:(decide (x<=0)||items.isEmpty)=false)
  (h3:¬(items.size:Int)*x>(2 ^ 63-1) / 8) (h4:Builtin.Tuple.tupleTooMany ((items.size:Int)*x)=false) (h5:((List.replicate x.toNat items).foldl (· ++ ·) #[]).size<=sizeLine):
  Meets (Builtin.«tuple.__mul__» ⟨[.ref l,.int x u],[]⟩) (λ_ R s=>s.heap.get? l=some { cls:=.type "tuple",dict:=dd,data:=.seq items n,slots:=sl}/\R (.ok (.ret (Value.ref s.heap.objs.size))) { s with heap:=s.heap.push { cls:=Value.type "tuple",data:=Data.seq ((List.replicate x.toNat items).foldl (· ++ ·) #[]) },toks:=s.toks}):=
 .of_wp λprog w A R s h=>by
  obtain⟨hp,g,d,tk,os⟩:=s;obtain⟨hl,h⟩:=h;unfold Builtin.«tuple.__mul__»
  wp_walk using AutoSeq1.wpAny_loadPart' hl
  refine wpAny_ite_false (decide_eq_false (by rw[h0];exact Zr)) ?_
  wp_walk using AutoSeq1.wpAny_loadPart' hl
  refine wpAny_ite_false (decide_eq_false h3) ?_
  wp_walk using AutoSeq1.wpAny_loadPart' hl
  exact⟨_,rfl,h⟩
def YZ(K:Zw):R2:=λx y H Q=>∃l k xs,x= .ref l/\y= .int k/\SqT K H l xs/\ -(2 ^ 63)<=k/\k<2 ^ 63/\xs.length*k.toNat<=sizeLine/\
 ((xs=[]∨k=1)->Q (.ref l) H)/\(¬(xs=[]∨k=1)->∀p,H p=none->Q (.ref p) (upd H p (.tup (List.replicate k.toNat xs).flatten)))
theorem Rt:OpR X (binaryOp .Mult) (YZ X.K):=by
 intro pins s σ H x y v u Q I rx ry h;obtain⟨l,k,xs,rfl,rfl,hH,h1,h2,hz,q1,q2⟩:=h;cases rx;obtain⟨t,rfl⟩:=ry;obtain⟨its,r,p,hz0⟩:=I.tuple hH;have hl:=r.length;obtain⟨⟨cls,dd,data,sl⟩,e,hc,n,hd⟩:=id p;simp only at hc hd;subst hc hd;have h0:(decide (k< -2 ^ 63)||decide (k>=2 ^ 63))=false:=by
  rw[decide_eq_false (by lia),decide_eq_false (by lia)];rfl
 refine wpAny_binaryOp_repeat_ref (T:="tuple") (U:="int") (by decide) ⟨_,e,rfl⟩ (λs'=>typeIs_int s' k t) tL F.fills_int_mul F.slot_int_rmul yQ F.slot_int_index.lookup
  (call_meets F.slot_int_rmul (typeIs_int s k t) F.entry_int_rmul (F.args_int_rmul_2 _ _) (ww k t l its.toArray n dd sl) ⟨e,rfl,⟨_,e,rfl⟩,?_⟩)
 by_cases hs:xs=[]∨k=1
 .refine call_meets F.slot_tuple_mul ⟨_,e,rfl⟩ F.entry_tuple_mul (F.args_tuple_mul_2 _ _) (vR l its.toArray n k t dd sl h0 ?_) ⟨e,⟨.ref l,H,I,rfl,q1 hs⟩⟩
  rcases hs with hs|hs
  .subst hs;cases r;rfl
  .subst hs;simp
 .have hne:(its.toArray.isEmpty||k==1)=false:=by
   rw[Bool.or_eq_false_iff];refine⟨?_,by simpa usingλz=>hs (.inr z)⟩
   cases its with
   |nil=>cases r;exact absurd (Or.inl rfl) hs
   |cons a b=>simp
  have hne':its.toArray.isEmpty=false:=(Bool.or_eq_false_iff.mp hne).1;by_cases hk:k<=0
  .refine call_meets F.slot_tuple_mul ⟨_,e,rfl⟩ F.entry_tuple_mul (F.args_tuple_mul_2 _ _) (vZ l its.toArray n k t dd sl h0 hne (by rw[decide_eq_true hk];rfl)) ⟨e,?_⟩
   have hk0:k.toNat=0:=by lia
   refine⟨.ref s.heap.objs.size,_,I.laid (t':=s.toks) (o:=.tup []) (λb ob q=>Zb _ q) (Zg _) ⟨Nat.zero_le _,[],.nil,IsTup.new _ _⟩,rfl,?_⟩;have:=q2 hs _ (I.hok.fresh (Zg _));rw[hk0]at this;exact this
  .have hp:its.length*k.toNat<=sizeLine:=by rw[<-hl];exact hz
   have hsz:=sizeLine_eq;have hcast:((its.toArray.size:Int))*k=((its.length*k.toNat:Nat):Int):=by
    rw[Zd,Int.natCast_mul,Int.toNat_of_nonneg (by lia)]
   have hfold:List.foldl (λx1 x2=>x1++x2) #[] (List.replicate k.toNat its.toArray)=(List.replicate k.toNat its).flatten.toArray:=by
    have:=foldl_rep its k.toNat [];rw[List.nil_append]at this;exact this
   have hlen:(List.replicate k.toNat its).flatten.length<=sizeLine:=by rw[len_rep,Nat.mul_comm];exact hp
   refine call_meets F.slot_tuple_mul ⟨_,e,rfl⟩ F.entry_tuple_mul (F.args_tuple_mul_2 _ _) (wN l its.toArray n k t dd sl h0 hne (by rw[decide_eq_false hk,hne'];rfl) ?_ ?_ ?_) ⟨e,?_⟩
   .rw[hcast];have:(sizeLine:Int)<=(2 ^ 63-1) / 8:=by decide
    lia
   .rw[hcast];unfold Builtin.Tuple.tupleTooMany;exact decide_eq_false (by lia)
   .rw[hfold,Zd];exact hlen
   .rw[hfold];refine⟨.ref s.heap.objs.size,_,I.laid (t':=s.toks) (o:=.tup (List.replicate k.toNat xs).flatten) (λb ob q=>Zb _ q) (Zg _) ⟨by rw[len_rep,Nat.mul_comm];exact hz,_,r.rep k.toNat,IsTup.new _ _⟩,rfl,q2 hs _ (I.hok.fresh (Zg _))⟩
def Vb(K:Zw)(T:String)(x:V)(H:Hp)(k:Bool):Prop:=match x with
 | .non=>k=false
 | .bl _=>k=(T=="bool"||T=="int")
 | .int _=>k=(T=="int")
 | .str _=>k=(T=="str")
 | .ref p=>(k=(T=="list")/\∃xs,SqL K H p xs)∨(k=(T=="tuple")/\∃xs,SqT K H p xs)∨(k=(T=="dict")/\∃xs,H p=some (.dK xs))
 |_=>False
def Rj:List String:=["bool","int","str","list","tuple","dict"]
theorem MP:lO X (.builtin "isinstance") (λxs H Q=>∃x T k,xs=[x,.ty T]/\T∈Rj/\Vb X.K T x H k/\Q (.bl k) H):=by
 intro pins s σ H xs us Q I r h;obtain⟨x,T,k,rfl,hT,hx,q⟩:=h;obtain⟨u,w',rfl,rx,rt⟩:=vals2 r;cases rt;have fin:EP X pins σ Q (.bool k) s:=⟨.bl k,H,I,rfl,q⟩;have fin1:EP X pins σ Q (.bool k) { s with toks:=s.toks+1}:=⟨.bl k,H,I.tok _,rfl,q⟩
 simp only[Rj,Zi,ZF,or_false]at hT;cases x with
 |non=>
  cases rx;have hk:k=false:=hx;subst hk
  rcases hT with rfl|rfl|rfl|rfl|rfl|rfl
  .exact IsiPair.NoneType_bool fin1
  .exact IsiPair.NoneType_int fin1
  .exact IsiPair.NoneType_str fin1
  .exact IsiPair.NoneType_list fin1
  .exact IsiPair.NoneType_tuple fin1
  .exact IsiPair.NoneType_dict fin1
 |bl b=>
  cases rx;have hk:k=_:=hx;subst hk
  rcases hT with rfl|rfl|rfl|rfl|rfl|rfl
  .exact IsiPair.bool_bool fin
  .exact IsiPair.bool_int fin
  .exact IsiPair.bool_str fin1
  .exact IsiPair.bool_list fin1
  .exact IsiPair.bool_tuple fin1
  .exact IsiPair.bool_dict fin1
 |int b=>
  obtain⟨t,rfl⟩:=rx;have hk:k=_:=hx;subst hk
  rcases hT with rfl|rfl|rfl|rfl|rfl|rfl
  .exact IsiPair.int_bool fin1
  .exact IsiPair.int_int fin
  .exact IsiPair.int_str fin1
  .exact IsiPair.int_list fin1
  .exact IsiPair.int_tuple fin1
  .exact IsiPair.int_dict fin1
 |str b=>
  obtain⟨t,rfl⟩:=rx;have hk:k=_:=hx;subst hk
  rcases hT with rfl|rfl|rfl|rfl|rfl|rfl
  .exact IsiPair.str_bool fin1
  .exact IsiPair.str_int fin1
  .exact IsiPair.str_str fin
  .exact IsiPair.str_list fin1
  .exact IsiPair.str_tuple fin1
  .exact IsiPair.str_dict fin1
 |ref p=>
  cases rx
  rcases hx with⟨hk,xs,hq⟩|⟨hk,xs,hq⟩|⟨hk,xs,hq⟩
  .subst hk;obtain⟨its,_,pl,_⟩:=I.list hq;obtain⟨o,ho,hc,_⟩:=pl.isList
   rcases hT with rfl|rfl|rfl|rfl|rfl|rfl
   .exact IsiPair.list_bool ho hc fin1
   .exact IsiPair.list_int ho hc fin1
   .exact IsiPair.list_str ho hc fin1
   .exact IsiPair.list_list ho hc fin
   .exact IsiPair.list_tuple ho hc fin1
   .exact IsiPair.list_dict ho hc fin1
  .subst hk;obtain⟨its,_,pl,_⟩:=I.tuple hq;obtain⟨o,ho,hc,_⟩:=pl
   rcases hT with rfl|rfl|rfl|rfl|rfl|rfl
   .exact IsiPair.tuple_bool ho hc fin1
   .exact IsiPair.tuple_int ho hc fin1
   .exact IsiPair.tuple_str ho hc fin1
   .exact IsiPair.tuple_list ho hc fin1
   .exact IsiPair.tuple_tuple ho hc fin
   .exact IsiPair.tuple_dict ho hc fin1
  .subst hk;obtain⟨_,_,vs,_,o,_,_,ho,ex,_⟩:=I.hok p _ hq;have hc:=ex.1
   rcases hT with rfl|rfl|rfl|rfl|rfl|rfl
   .exact IsiPair.dict_bool ho hc fin1
   .exact IsiPair.dict_int ho hc fin1
   .exact IsiPair.dict_str ho hc fin1
   .exact IsiPair.dict_list ho hc fin1
   .exact IsiPair.dict_tuple ho hc fin1
   .exact IsiPair.dict_dict ho hc fin
 |_=>exact hx.elim
end
end L2
namespace L3
open PySem PySem.Spec PyProof.Rows L2
abbrev O2:=D->D->Mu->Option (D×Mu)
abbrev O1':=D->Mu->Option (D×Mu)
abbrev ON:=List D->Mu->Option (D×Mu)
def dm:O2
 | .int i,.int j,μ=>some (.int (i+j),μ)
 | .tup xs,.tup ys,μ=>if xs.length+ys.length<=sizeLine then some (.tup (xs++ys),μ)else none
 | .lst xs,.lst ys,μ=>if xs.length+ys.length<=sizeLine then some (.lst (xs++ys),μ)else none
 | .str x,.str y,μ=>if x.length+y.length<=sizeLine then some (.str (x++y),μ)else none
 |_,_,_=>none
def gO:O2
 | .int i,.int j,μ=>some (.int (i-j),μ)
 |_,_,_=>none
def di:O2
 | .int i,.int j,μ=>if lX i j<=134217728 then some (.int (i*j),μ)else none
 | .tup xs,.int k,μ=>if -(2 ^ 63)<=k/\k<2 ^ 63/\xs.length*k.toNat<=sizeLine then some (.tup (List.replicate k.toNat xs).flatten,μ)else none
 | .lst xs,.int k,μ=>if -(2 ^ 63)<=k/\k<2 ^ 63/\xs.length*k.toNat<=sizeLine then some (.lst (List.replicate k.toNat xs).flatten,μ)else none
 |_,_,_=>none
def jy:O2
 | .int i,.int j,μ=>if j≠0/\j.natAbs.log2<9000 then some (.int (i.fdiv j),μ)else none
 |_,_,_=>none
def fU:O2
 | .int i,.int j,μ=>if j≠0 then some (.int (i.fmod j),μ)else none
 |_,_,_=>none
def wG:O2
 | .int i,.int j,μ=>if 0<=j/\(Builtin.Int.intBits i:Int)*j<=2 ^ 27 then some (.int (i ^ j.toNat),μ)else none
 |_,_,_=>none
def oLt:O2
 | .int i,.int j,μ=>some (.bl (decide (i<j)),μ)
 |_,_,_=>none
def oLe:O2
 | .int i,.int j,μ=>some (.bl (decide (i<=j)),μ)
 |_,_,_=>none
def oGt:O2
 | .int i,.int j,μ=>some (.bl (decide (j<i)),μ)
 |_,_,_=>none
def oGe:O2
 | .int i,.int j,μ=>some (.bl (decide (j<=i)),μ)
 |_,_,_=>none
section
variable {X:Cx} {tb:List Addr}
theorem uK{K:Zw}{F:Hp}{ad:List Addr}{ds:List D}{vs:List V}(h:aG K F ad ds vs):∀k:Nat,aG K F ad (List.replicate k ds).flatten (List.replicate k vs).flatten
 |0=>aG.nil
 |k+1=>by
  rw[List.replicate_succ,List.replicate_succ,List.flatten_cons,List.flatten_cons];exact aG.append h (uK h k)
theorem pG{K:Zw}{F:Hp}{ad:List Addr}{ds:List D}{vs:List V}(h:aG K F ad ds vs):vs=[]↔ds=[]:=by
 have:=aG.length h;cases ds<;>cases vs<;>simp_all
theorem Ow{α:Type}(xs:List α):(List.replicate (1:Int).toNat xs).flatten=xs:=by simp
theorem cQ:OpD X tb (binaryOp .Add) dm:=⟨_,Wk.or (RQ.or (JS.or Dw)),λW x y v u d μ' Q ok dx dy ho h=>by
 cases x with
 |int i=>
  cases y with
  |int j=>cases ho;rw[bF dx,bF dy];exact .inl ⟨i,j,rfl,rfl,put ok h gk⟩
  |_=>cases ho
 |tup xs=>
  cases y with
  |tup ys=>
   have ho':(if xs.length+ys.length<=sizeLine then some (D.tup (xs++ys),W.mu)else none)=some (d,μ'):=ho;split at ho'
   .rename_i hz;cases ho';obtain⟨a,us,rfl,q1,r1⟩:=jP dx;obtain⟨b,ws,rfl,q2,r2⟩:=jP dy;refine .inr (.inl ⟨a,b,us,ws,rfl,rfl,SqT.fz q1,SqT.fz q2,by rw[<-aG.length r1,<-aG.length r2];exact hz,λe=>?_,λ_ e=>?_,λ_ _ p hp=>oZ ok h (aG.append r1 r2) hp⟩)
    .have e':=(pG r1).mp e;subst e';exact put ok h dy
    .have e':=(pG r2).mp e;subst e';rw[List.append_nil]at h;exact put ok h dx
   .cases ho'
  |_=>cases ho
 |lst xs=>
  cases y with
  |lst ys=>
   have ho':(if xs.length+ys.length<=sizeLine then some (D.lst (xs++ys),W.mu)else none)=some (d,μ'):=ho;split at ho'
   .rename_i hz;cases ho';obtain⟨a,us,rfl,q1,r1⟩:=qD dx;obtain⟨b,ws,rfl,q2,r2⟩:=qD dy;exact .inr (.inr (.inl ⟨a,b,us,ws,rfl,rfl,(gw q1).1,(gw q2).1,by rw[<-aG.length r1,<-aG.length r2];exact hz,λp hp=>mZ ok h (aG.append r1 r2) hp⟩))
   .cases ho'
  |_=>cases ho
 |str x=>
  cases y with
  |str y=>
   have ho':(if x.length+y.length<=sizeLine then some (D.str (x++y),W.mu)else none)=some (d,μ'):=ho;split at ho'
   .rename_i hz;cases ho';rw[nG dx,nG dy];exact .inr (.inr (.inr ⟨x,y,rfl,rfl,hz,put ok h Fv⟩))
   .cases ho'
  |_=>cases ho
 |_=>cases y<;>cases ho⟩
theorem jo:OpD X tb (binaryOp .Sub) gO:=⟨_,Uj,λW x y v u d μ' Q ok dx dy ho h=>by
 cases x with
 |int i=>
  cases y with
  |int j=>cases ho;rw[bF dx,bF dy];exact⟨i,j,rfl,rfl,put ok h gk⟩
  |_=>cases ho
 |_=>cases y<;>cases ho⟩
theorem fK:OpD X tb (binaryOp .Mult) di:=⟨_,Qv.or (Rt.or Kp),λW x y v u d μ' Q ok dx dy ho h=>by
 cases x with
 |int i=>
  cases y with
  |int j=>
   have ho':(if lX i j<=134217728 then some (D.int (i*j),W.mu)else none)=some (d,μ'):=ho;split at ho'
   .rename_i hz;cases ho';rw[bF dx,bF dy];exact .inl ⟨i,j,rfl,rfl,hz,put ok h gk⟩
   .cases ho'
  |_=>cases ho
 |tup xs=>
  cases y with
  |int k=>
   have ho':(if -(2 ^ 63)<=k/\k<2 ^ 63/\xs.length*k.toNat<=sizeLine then some (D.tup (List.replicate k.toNat xs).flatten,W.mu)else none)=some (d,μ'):=ho;split at ho'
   .rename_i hz;cases ho';obtain⟨a,us,rfl,q1,r1⟩:=jP dx;rw[bF dy];refine .inr (.inl ⟨a,k,us,rfl,rfl,SqT.fz q1,hz.1,hz.2.1,by rw[<-aG.length r1];exact hz.2.2,λe=>?_,λ_ p hp=>oZ ok h (uK r1 _) hp⟩)
    rcases e with e|e
    .have e':=(pG r1).mp e;subst e';have e2:(List.replicate k.toNat ([]:List D)).flatten=[]:=by simp
     rw[e2]at h;exact put ok h dx
    .subst e;rw[Ow]at h;exact put ok h dx
   .cases ho'
  |_=>cases ho
 |lst xs=>
  cases y with
  |int k=>
   have ho':(if -(2 ^ 63)<=k/\k<2 ^ 63/\xs.length*k.toNat<=sizeLine then some (D.lst (List.replicate k.toNat xs).flatten,W.mu)else none)=some (d,μ'):=ho;split at ho'
   .rename_i hz;cases ho';obtain⟨a,us,rfl,q1,r1⟩:=qD dx;rw[bF dy];exact .inr (.inr ⟨a,k,us,rfl,rfl,(gw q1).1,hz.1,hz.2.1,by rw[<-aG.length r1];exact hz.2.2,λp hp=>mZ ok h (uK r1 _) hp⟩)
   .cases ho'
  |_=>cases ho
 |_=>cases y<;>cases ho⟩
theorem jm:OpD X tb (binaryOp .FloorDiv) jy:=⟨_,Jt,λW x y v u d μ' Q ok dx dy ho h=>by
 cases x with
 |int i=>
  cases y with
  |int j=>
   have ho':(if j≠0/\j.natAbs.log2<9000 then some (D.int (i.fdiv j),W.mu)else none)=some (d,μ'):=ho;split at ho'
   .rename_i hz;cases ho';rw[bF dx,bF dy];exact⟨i,j,rfl,rfl,hz,put ok h gk⟩
   .cases ho'
  |_=>cases ho
 |_=>cases y<;>cases ho⟩
theorem dG:OpD X tb (binaryOp .Mod) fU:=⟨_,Qx,λW x y v u d μ' Q ok dx dy ho h=>by
 cases x with
 |int i=>
  cases y with
  |int j=>
   have ho':(if j≠0 then some (D.int (i.fmod j),W.mu)else none)=some (d,μ'):=ho;split at ho'
   .rename_i hz;cases ho';rw[bF dx,bF dy];exact⟨i,j,rfl,rfl,hz,put ok h gk⟩
   .cases ho'
  |_=>cases ho
 |_=>cases y<;>cases ho⟩
theorem Jj:OpD X tb (binaryOp .Pow) wG:=⟨_,Ri,λW x y v u d μ' Q ok dx dy ho h=>by
 cases x with
 |int i=>
  cases y with
  |int j=>
   have ho':(if 0<=j/\(Builtin.Int.intBits i:Int)*j<=2 ^ 27 then some (D.int (i ^ j.toNat),W.mu)else none)=some (d,μ'):=ho;split at ho'
   .rename_i hz;cases ho';rw[bF dx,bF dy];exact⟨i,j,rfl,rfl,hz,put ok h gk⟩
   .cases ho'
  |_=>cases ho
 |_=>cases y<;>cases ho⟩
theorem sJ:OpD X tb (compareOp .Lt) oLt:=⟨_,YH,λW x y v u d μ' Q ok dx dy ho h=>by
 cases x with
 |int i=>
  cases y with
  |int j=>cases ho;rw[bF dx,bF dy];exact⟨i,j,rfl,rfl,put ok h gK⟩
  |_=>cases ho
 |_=>cases y<;>cases ho⟩
theorem Fq:OpD X tb (compareOp .LtE) oLe:=⟨_,YG,λW x y v u d μ' Q ok dx dy ho h=>by
 cases x with
 |int i=>
  cases y with
  |int j=>cases ho;rw[bF dx,bF dy];exact⟨i,j,rfl,rfl,put ok h gK⟩
  |_=>cases ho
 |_=>cases y<;>cases ho⟩
theorem Ym:OpD X tb (compareOp .Gt) oGt:=⟨_,ZX,λW x y v u d μ' Q ok dx dy ho h=>by
 cases x with
 |int i=>
  cases y with
  |int j=>cases ho;rw[bF dx,bF dy];exact⟨i,j,rfl,rfl,put ok h gK⟩
  |_=>cases ho
 |_=>cases y<;>cases ho⟩
theorem xH:OpD X tb (compareOp .GtE) oGe:=⟨_,aab,λW x y v u d μ' Q ok dx dy ho h=>by
 cases x with
 |int i=>
  cases y with
  |int j=>cases ho;rw[bF dx,bF dy];exact⟨i,j,rfl,rfl,put ok h gK⟩
  |_=>cases ho
 |_=>cases y<;>cases ho⟩
end
open PySem.SeqAt
mutual
def eqD:D->D->Bool
 | .non,.non=>true
 | .bl a,.bl b=>a==b
 | .bl a,.int b=>(if a then 1 else 0)==b
 | .int a,.bl b=>a==(if b then 1 else 0)
 | .int a,.int b=>a==b
 | .str a,.str b=>a==b
 | .tup xs,.tup ys=>lu xs ys
 | .lst xs,.lst ys=>lu xs ys
 |_,_=>false
def lu:List D->List D->Bool
 | [],[]=>true
 |x::xs,y::ys=>eqD x y&&lu xs ys
 |_,_=>false
end
mutual
def iQ:D->Nat
 | .tup ds=>jV ds+1
 | .lst ds=>jV ds+1
 |_=>0
def jV:List D->Nat
 | []=>0
 |d::ds=>max (iQ d) (jV ds)
end
mutual
def dq:D->Bool
 | .non=>true
 | .bl _=>true
 | .int _=>true
 | .str _=>true
 | .tup ds=>gG ds
 | .lst ds=>gG ds
 |_=>false
def gG:List D->Bool
 | []=>true
 |d::ds=>dq d&&gG ds
end
mutual
def DV(K:Zw)(H:Hp):D->V->Prop
 | .non,v=>v= .non
 | .bl b,v=>v= .bl b
 | .int i,v=>v= .int i
 | .str x,v=>v= .str x
 | .tup ds,v=>∃a xs,v= .ref a/\SqT K H a xs/\DVL K H ds xs
 | .lst ds,v=>∃a xs,v= .ref a/\SqL K H a xs/\DVL K H ds xs
 | .ro _,_=>False
 | .dic _,_=>False
 | .cell _,_=>False
def DVL(K:Zw)(H:Hp):List D->List V->Prop
 | [],vs=>vs=[]
 |d::ds,vs=>∃u us,vs=u::us/\DV K H d u/\DVL K H ds us
end
section
variable {K:Zw} {tb:List Addr} {W:Wd}
mutual
theorem Tg:∀(d:D)(v:V),dq d=true->bN K (W.fz tb) W.ad d v->DV K W.H d v
 | .non,v,_,h=>by unfold bN at h;unfold DV;exact h
 | .bl _,v,_,h=>by unfold bN at h;unfold DV;exact h
 | .int _,v,_,h=>by unfold bN at h;unfold DV;exact h
 | .str _,v,_,h=>by unfold bN at h;unfold DV;exact h
 | .tup ds,v,p,h=>by
  unfold bN at h;unfold DV;unfold dq at p;obtain⟨a,xs,e,q,r⟩:=h;exact⟨a,xs,e,SqT.fz q,wj ds xs p r⟩
 | .lst ds,v,p,h=>by
  unfold bN at h;unfold DV;unfold dq at p;obtain⟨a,xs,e,q,r⟩:=h;exact⟨a,xs,e,SqL.of (gw q).1,wj ds xs p r⟩
 | .ro ds,v,p,h=>by unfold dq at p;cases p
 | .dic ds,v,p,h=>by unfold dq at p;cases p
 | .cell ds,v,p,h=>by unfold dq at p;cases p
theorem wj:∀(ds:List D)(vs:List V),gG ds=true->aG K (W.fz tb) W.ad ds vs->DVL K W.H ds vs
 | [],vs,_,h=>by unfold aG at h;unfold DVL;exact h
 |d::ds,vs,p,h=>by
  unfold aG at h;unfold DVL;unfold gG at p;rw[Zo]at p;obtain⟨u,us,e,q,r⟩:=h;exact⟨u,us,e,Tg d u p.1 q,wj ds us p.2 r⟩
end
end
def uf(xs ys:List D)(j:Nat):Bool:=match xs[j]?,ys[j]? with
 |some x,some y=>eqD x y
 |_,_=>false
theorem oX:∀(xs ys:List D),xs.length=ys.length->(List.range xs.length).all (uf xs ys)=lu xs ys
 | [],[],_=>by unfold lu;rfl
 |x::xs,y::ys,h=>by
  unfold lu;rw[ZH,List.range_succ_eq_map,List.all_cons,List.all_map,<-oX xs ys (by simpa using h)]
  rfl
theorem sE:∀(xs ys:List D),xs.length≠ys.length->lu xs ys=false
 | [],[],h=>absurd rfl h
 | [],y::ys,_=>by unfold lu;rfl
 |x::xs,[],_=>by unfold lu;rfl
 |x::xs,y::ys,h=>by
  unfold lu;rw[sE xs ys (by simpa using h),Bool.and_false]
theorem Am(xs ys:List D):((List.range (min xs.length ys.length)).all (uf xs ys)&&xs.length==ys.length)=lu xs ys:=by
 by_cases h:xs.length=ys.length
 .rw[<-h,Nat.min_self,oX xs ys h];simp
 .rw[sE xs ys h,beq_false_of_ne h,Bool.and_false]
section
variable {X:Cx} {pins:List (Addr×Obj)} {σ:L2.St} {H:Hp} {s:Zsh}
theorem DVL.length{K:Zw}:∀{ds:List D}{vs:List V},DVL K H ds vs->ds.length=vs.length
 | [],vs,h=>by unfold DVL at h;subst h;rfl
 |d::ds,vs,h=>by
  unfold DVL at h;obtain⟨u,us,rfl,_,r⟩:=h;rw[ZH,ZH,DVL.length r]
theorem DVL.get'{K:Zw}:∀{ds:List D}{vs:List V}{i:Nat}{v:V},DVL K H ds vs->vs[i]? =some v->∃d,ds[i]? =some d/\DV K H d v
 | [],vs,i,v,h,e=>by unfold DVL at h;subst h;simp at e
 |d::ds,vs,0,x,h,e=>by
  unfold DVL at h;obtain⟨u,us,rfl,p,r⟩:=h;simp at e;subst e;exact⟨d,rfl,p⟩
 |d::ds,vs,i+1,x,h,e=>by
  unfold DVL at h;obtain⟨u,us,rfl,p,r⟩:=h;obtain⟨y,e1,e2⟩:=DVL.get' (i:=i) r (by simpa using e)
  exact⟨y,by simpa using e1,e2⟩
theorem BR{a:Addr}{xs ys:List V}(I:Inv X pins σ H s)(h:SqL X.K H a xs)(h':SqT X.K H a ys):False:=by
 obtain⟨its,_,pl,_⟩:=I.list h;obtain⟨its',_,pt,_⟩:=I.tuple h';obtain⟨o,ho,hc,_⟩:=pl.isList;obtain⟨o',ho',hc',_⟩:=pt;rw[ho]at ho';cases ho';rw[hc]at hc';exact absurd hc' (by decide)
mutual
theorem vm(I:Inv X pins σ H s):∀(x y:D)(v:V),DV X.K H x v->DV X.K H y v->eqD x y=true
 | .non,.non,v,h,k=>by unfold eqD;rfl
 | .non,.bl b,v,h,k=>by unfold DV at h k;subst h;cases k
 | .non,.int b,v,h,k=>by unfold DV at h k;subst h;cases k
 | .non,.str b,v,h,k=>by unfold DV at h k;subst h;cases k
 | .non,.tup ys,v,h,k=>by unfold DV at h k;obtain⟨a,us,rfl,q,r⟩:=k;cases h
 | .non,.lst ys,v,h,k=>by unfold DV at h k;obtain⟨a,us,rfl,q,r⟩:=k;cases h
 | .bl a,.non,v,h,k=>by unfold DV at h k;subst h;cases k
 | .bl a,.bl b,v,h,k=>by unfold DV at h k;subst h;cases k;unfold eqD;simp
 | .bl a,.int b,v,h,k=>by unfold DV at h k;subst h;cases k
 | .bl a,.str b,v,h,k=>by unfold DV at h k;subst h;cases k
 | .bl a,.tup ys,v,h,k=>by unfold DV at h k;obtain⟨a,us,rfl,q,r⟩:=k;cases h
 | .bl a,.lst ys,v,h,k=>by unfold DV at h k;obtain⟨a,us,rfl,q,r⟩:=k;cases h
 | .int a,.non,v,h,k=>by unfold DV at h k;subst h;cases k
 | .int a,.bl b,v,h,k=>by unfold DV at h k;subst h;cases k
 | .int a,.int b,v,h,k=>by unfold DV at h k;subst h;cases k;unfold eqD;simp
 | .int a,.str b,v,h,k=>by unfold DV at h k;subst h;cases k
 | .int a,.tup ys,v,h,k=>by unfold DV at h k;obtain⟨a,us,rfl,q,r⟩:=k;cases h
 | .int a,.lst ys,v,h,k=>by unfold DV at h k;obtain⟨a,us,rfl,q,r⟩:=k;cases h
 | .str a,.non,v,h,k=>by unfold DV at h k;subst h;cases k
 | .str a,.bl b,v,h,k=>by unfold DV at h k;subst h;cases k
 | .str a,.int b,v,h,k=>by unfold DV at h k;subst h;cases k
 | .str a,.str b,v,h,k=>by unfold DV at h k;subst h;cases k;unfold eqD;simp
 | .str a,.tup ys,v,h,k=>by unfold DV at h k;obtain⟨a,us,rfl,q,r⟩:=k;cases h
 | .str a,.lst ys,v,h,k=>by unfold DV at h k;obtain⟨a,us,rfl,q,r⟩:=k;cases h
 | .tup xs,.non,v,h,k=>by unfold DV at h k;obtain⟨a,us,rfl,q,r⟩:=h;cases k
 | .tup xs,.bl b,v,h,k=>by unfold DV at h k;obtain⟨a,us,rfl,q,r⟩:=h;cases k
 | .tup xs,.int b,v,h,k=>by unfold DV at h k;obtain⟨a,us,rfl,q,r⟩:=h;cases k
 | .tup xs,.str b,v,h,k=>by unfold DV at h k;obtain⟨a,us,rfl,q,r⟩:=h;cases k
 | .tup xs,.tup ys,v,h,k=>by
  unfold DV at h k;obtain⟨a,us,rfl,q,r⟩:=h;obtain⟨a',us',e,q',r'⟩:=k;cases e;have:=I.tuple_inj q q';subst this;unfold eqD;exact sY I xs ys us r r'
 | .tup xs,.lst ys,v,h,k=>by
  unfold DV at h k;obtain⟨a,us,rfl,q,r⟩:=h;obtain⟨a',us',e,q',r'⟩:=k;cases e;exact(BR I q' q).elim
 | .lst xs,.non,v,h,k=>by unfold DV at h k;obtain⟨a,us,rfl,q,r⟩:=h;cases k
 | .lst xs,.bl b,v,h,k=>by unfold DV at h k;obtain⟨a,us,rfl,q,r⟩:=h;cases k
 | .lst xs,.int b,v,h,k=>by unfold DV at h k;obtain⟨a,us,rfl,q,r⟩:=h;cases k
 | .lst xs,.str b,v,h,k=>by unfold DV at h k;obtain⟨a,us,rfl,q,r⟩:=h;cases k
 | .lst xs,.tup ys,v,h,k=>by
  unfold DV at h k;obtain⟨a,us,rfl,q,r⟩:=h;obtain⟨a',us',e,q',r'⟩:=k;cases e;exact(BR I q q').elim
 | .lst xs,.lst ys,v,h,k=>by
  unfold DV at h k;obtain⟨a,us,rfl,q,r⟩:=h;obtain⟨a',us',e,q',r'⟩:=k;cases e;have:=I.list_inj q q';subst this;unfold eqD;exact sY I xs ys us r r'
 | .ro _,_,v,h,_=>by unfold DV at h;exact h.elim
 | .dic _,_,v,h,_=>by unfold DV at h;exact h.elim
 | .cell _,_,v,h,_=>by unfold DV at h;exact h.elim
 |_,.ro _,v,_,k=>by unfold DV at k;exact k.elim
 |_,.dic _,v,_,k=>by unfold DV at k;exact k.elim
 |_,.cell _,v,_,k=>by unfold DV at k;exact k.elim
theorem sY(I:Inv X pins σ H s):∀(xs ys:List D)(vs:List V),DVL X.K H xs vs->DVL X.K H ys vs->lu xs ys=true
 | [],[],vs,_,_=>by unfold lu;rfl
 | [],y::ys,vs,h,k=>by unfold DVL at h k;subst h;obtain⟨u,us,e,_⟩:=k;cases e
 |x::xs,[],vs,h,k=>by unfold DVL at h k;subst k;obtain⟨u,us,e,_⟩:=h;cases e
 |x::xs,y::ys,vs,h,k=>by
  unfold DVL at h k;obtain⟨u,us,rfl,p,r⟩:=h;obtain⟨u',us',e,p',r'⟩:=k;cases e;unfold lu;rw[vm I x y u p p',sY I xs ys us r r'];rfl
end
def sk:D->D->Bool
 | .tup _,.tup _=>true
 | .lst _,.lst _=>true
 |_,_=>false
def Vw(s:Zsh):D->Value->Prop
 | .non,v=>v= .none
 | .bl b,v=>v= .bool b
 | .int i,v=>∃t,v= .int i t
 | .str z,v=>∃t,v= .str z t
 | .tup _,v=>∃a its,v= .ref a/\IsTup s.heap a its
 | .lst _,v=>∃a its,v= .ref a/\s.heap.IsList a its
 |_,_=>False
theorem vw{x:D}{v:V}{vv:Value}(I:Inv X pins σ H s)(h:DV X.K H x v)(rv:cI v vv):Vw s x vv:=by
 cases x<;>unfold DV at h
 case tup=>obtain⟨a,us,rfl,q,r⟩:=h;obtain⟨_,_,pl,_⟩:=I.tuple q;exact⟨a,_,rv,pl⟩
 case lst=>obtain⟨a,us,rfl,q,r⟩:=h;obtain⟨_,_,pl,_⟩:=I.list q;exact⟨a,_,rv,pl.isList⟩
 case ro=>exact h.elim
 case dic=>exact h.elim
 case cell=>exact h.elim
 all_goals subst h;exact rv
theorem pC{vv uu:Value}{A:Zar}(hu:A.units<cLine):∀(x y:D),Vw s x vv->Vw s y uu->sk x y=false->EqAt A s vv uu (eqD x y)
 | .non,.non,rfl,rfl,_=>by unfold eqD;exact EqAt.same _
 | .non,.bl _,rfl,rfl,_=>by unfold eqD;exact EqAt.none_bool _
 | .non,.int _,rfl,⟨_,rfl⟩,_=>by unfold eqD;exact EqAt.none_int _ _
 | .non,.str _,rfl,⟨_,rfl⟩,_=>by unfold eqD;exact EqAt.none_str _ _
 | .non,.tup _,rfl,⟨_,_,rfl,m⟩,_=>by unfold eqD;exact EqAt.none_tuple m hu
 | .non,.lst _,rfl,⟨_,_,rfl,m⟩,_=>by unfold eqD;exact EqAt.none_list m hu
 | .bl _,.non,rfl,rfl,_=>by unfold eqD;exact EqAt.bool_none _
 | .bl _,.bl _,rfl,rfl,_=>by unfold eqD;exact EqAt.bool_bool _ _
 | .bl _,.int _,rfl,⟨_,rfl⟩,_=>by unfold eqD;exact EqAt.bool_int _ _ _
 | .bl _,.str _,rfl,⟨_,rfl⟩,_=>by unfold eqD;exact EqAt.bool_str _ _ _
 | .bl _,.tup _,rfl,⟨_,_,rfl,m⟩,_=>by unfold eqD;exact EqAt.bool_tuple _ m hu
 | .bl _,.lst _,rfl,⟨_,_,rfl,m⟩,_=>by unfold eqD;exact EqAt.bool_list _ m hu
 | .int _,.non,⟨_,rfl⟩,rfl,_=>by unfold eqD;exact EqAt.int_none _ _
 | .int _,.bl _,⟨_,rfl⟩,rfl,_=>by unfold eqD;exact EqAt.int_bool _ _ _
 | .int _,.int _,⟨_,rfl⟩,⟨_,rfl⟩,_=>by unfold eqD;exact EqAt.int_int _ _ _ _
 | .int _,.str _,⟨_,rfl⟩,⟨_,rfl⟩,_=>by unfold eqD;exact EqAt.int_str _ _ _ _
 | .int _,.tup _,⟨_,rfl⟩,⟨_,_,rfl,m⟩,_=>by unfold eqD;exact EqAt.int_tuple _ _ m hu
 | .int _,.lst _,⟨_,rfl⟩,⟨_,_,rfl,m⟩,_=>by unfold eqD;exact EqAt.int_list _ _ m hu
 | .str _,.non,⟨_,rfl⟩,rfl,_=>by unfold eqD;exact EqAt.str_none _ _
 | .str _,.bl _,⟨_,rfl⟩,rfl,_=>by unfold eqD;exact EqAt.str_bool _ _ _
 | .str _,.int _,⟨_,rfl⟩,⟨_,rfl⟩,_=>by unfold eqD;exact EqAt.str_int _ _ _ _
 | .str _,.str _,⟨_,rfl⟩,⟨_,rfl⟩,_=>by unfold eqD;exact EqAt.str_str _ _ _ _
 | .str _,.tup _,⟨_,rfl⟩,⟨_,_,rfl,m⟩,_=>by unfold eqD;exact EqAt.str_tuple _ _ m hu
 | .str _,.lst _,⟨_,rfl⟩,⟨_,_,rfl,m⟩,_=>by unfold eqD;exact EqAt.str_list _ _ m hu
 | .tup _,.non,⟨_,_,rfl,l⟩,rfl,_=>by unfold eqD;exact EqAt.tuple_none l hu
 | .tup _,.bl _,⟨_,_,rfl,l⟩,rfl,_=>by unfold eqD;exact EqAt.tuple_bool _ l hu
 | .tup _,.int _,⟨_,_,rfl,l⟩,⟨_,rfl⟩,_=>by unfold eqD;exact EqAt.tuple_int _ _ l hu
 | .tup _,.str _,⟨_,_,rfl,l⟩,⟨_,rfl⟩,_=>by unfold eqD;exact EqAt.tuple_str _ _ l hu
 | .tup _,.tup _,_,_,h=>nomatch h
 | .tup _,.lst _,⟨_,_,rfl,l⟩,⟨_,_,rfl,m⟩,_=>by unfold eqD;exact EqAt.tuple_list l m hu
 | .lst _,.non,⟨_,_,rfl,l⟩,rfl,_=>by unfold eqD;exact EqAt.list_none l hu
 | .lst _,.bl _,⟨_,_,rfl,l⟩,rfl,_=>by unfold eqD;exact EqAt.list_bool _ l hu
 | .lst _,.int _,⟨_,_,rfl,l⟩,⟨_,rfl⟩,_=>by unfold eqD;exact EqAt.list_int _ _ l hu
 | .lst _,.str _,⟨_,_,rfl,l⟩,⟨_,rfl⟩,_=>by unfold eqD;exact EqAt.list_str _ _ l hu
 | .lst _,.tup _,⟨_,_,rfl,l⟩,⟨_,_,rfl,m⟩,_=>by unfold eqD;exact EqAt.list_tuple l m hu
 | .lst _,.lst _,_,_,h=>nomatch h
 | .ro _,_,p,_,_=>p.elim
 |_,.ro _,_,p,_=>p.elim
 | .dic _,_,p,_,_=>p.elim
 |_,.dic _,_,p,_=>p.elim
 | .cell _,_,p,_,_=>p.elim
 |_,.cell _,_,p,_=>p.elim
theorem oW{vv uu:Value}{A:Zar}(hu:A.units<cLine):∀(x y:D),Vw s x vv->Vw s y uu->sk x y=false->RcAt A s vv uu (eqD x y)
 | .non,.non,rfl,rfl,_=>by unfold eqD;exact RcAt.none_none
 | .non,.bl _,rfl,rfl,_=>by unfold eqD;exact RcAt.none_bool _
 | .non,.int _,rfl,⟨_,rfl⟩,_=>by unfold eqD;exact RcAt.none_int _ _
 | .non,.str _,rfl,⟨_,rfl⟩,_=>by unfold eqD;exact RcAt.none_str _ _
 | .non,.tup _,rfl,⟨_,_,rfl,m⟩,_=>by unfold eqD;exact RcAt.none_tuple m hu
 | .non,.lst _,rfl,⟨_,_,rfl,m⟩,_=>by unfold eqD;exact RcAt.none_list m hu
 | .bl _,.non,rfl,rfl,_=>by unfold eqD;exact RcAt.bool_none _
 | .bl _,.bl _,rfl,rfl,_=>by unfold eqD;exact RcAt.bool_bool _ _
 | .bl _,.int _,rfl,⟨_,rfl⟩,_=>by unfold eqD;exact RcAt.bool_int _ _ _
 | .bl _,.str _,rfl,⟨_,rfl⟩,_=>by unfold eqD;exact RcAt.bool_str _ _ _
 | .bl _,.tup _,rfl,⟨_,_,rfl,m⟩,_=>by unfold eqD;exact RcAt.bool_tuple _ m hu
 | .bl _,.lst _,rfl,⟨_,_,rfl,m⟩,_=>by unfold eqD;exact RcAt.bool_list _ m hu
 | .int _,.non,⟨_,rfl⟩,rfl,_=>by unfold eqD;exact RcAt.int_none _ _
 | .int _,.bl _,⟨_,rfl⟩,rfl,_=>by unfold eqD;exact RcAt.int_bool _ _ _
 | .int _,.int _,⟨_,rfl⟩,⟨_,rfl⟩,_=>by unfold eqD;exact RcAt.int_int _ _ _ _
 | .int _,.str _,⟨_,rfl⟩,⟨_,rfl⟩,_=>by unfold eqD;exact RcAt.int_str _ _ _ _
 | .int _,.tup _,⟨_,rfl⟩,⟨_,_,rfl,m⟩,_=>by unfold eqD;exact RcAt.int_tuple _ _ m hu
 | .int _,.lst _,⟨_,rfl⟩,⟨_,_,rfl,m⟩,_=>by unfold eqD;exact RcAt.int_list _ _ m hu
 | .str _,.non,⟨_,rfl⟩,rfl,_=>by unfold eqD;exact RcAt.str_none _ _
 | .str _,.bl _,⟨_,rfl⟩,rfl,_=>by unfold eqD;exact RcAt.str_bool _ _ _
 | .str _,.int _,⟨_,rfl⟩,⟨_,rfl⟩,_=>by unfold eqD;exact RcAt.str_int _ _ _ _
 | .str _,.str _,⟨_,rfl⟩,⟨_,rfl⟩,_=>by unfold eqD;exact RcAt.str_str _ _ _ _
 | .str _,.tup _,⟨_,rfl⟩,⟨_,_,rfl,m⟩,_=>by unfold eqD;exact RcAt.str_tuple _ _ m hu
 | .str _,.lst _,⟨_,rfl⟩,⟨_,_,rfl,m⟩,_=>by unfold eqD;exact RcAt.str_list _ _ m hu
 | .tup _,.non,⟨_,_,rfl,l⟩,rfl,_=>by unfold eqD;exact RcAt.tuple_none l hu
 | .tup _,.bl _,⟨_,_,rfl,l⟩,rfl,_=>by unfold eqD;exact RcAt.tuple_bool _ l hu
 | .tup _,.int _,⟨_,_,rfl,l⟩,⟨_,rfl⟩,_=>by unfold eqD;exact RcAt.tuple_int _ _ l hu
 | .tup _,.str _,⟨_,_,rfl,l⟩,⟨_,rfl⟩,_=>by unfold eqD;exact RcAt.tuple_str _ _ l hu
 | .tup _,.tup _,_,_,h=>nomatch h
 | .tup _,.lst _,⟨_,_,rfl,l⟩,⟨_,_,rfl,m⟩,_=>by unfold eqD;exact RcAt.tuple_list l m hu
 | .lst _,.non,⟨_,_,rfl,l⟩,rfl,_=>by unfold eqD;exact RcAt.list_none l hu
 | .lst _,.bl _,⟨_,_,rfl,l⟩,rfl,_=>by unfold eqD;exact RcAt.list_bool _ l hu
 | .lst _,.int _,⟨_,_,rfl,l⟩,⟨_,rfl⟩,_=>by unfold eqD;exact RcAt.list_int _ _ l hu
 | .lst _,.str _,⟨_,_,rfl,l⟩,⟨_,rfl⟩,_=>by unfold eqD;exact RcAt.list_str _ _ l hu
 | .lst _,.tup _,⟨_,_,rfl,l⟩,⟨_,_,rfl,m⟩,_=>by unfold eqD;exact RcAt.list_tuple l m hu
 | .lst _,.lst _,_,_,h=>nomatch h
 | .ro _,_,p,_,_=>p.elim
 |_,.ro _,_,p,_=>p.elim
 | .dic _,_,p,_,_=>p.elim
 |_,.dic _,_,p,_=>p.elim
 | .cell _,_,p,_,_=>p.elim
 |_,.cell _,_,p,_=>p.elim
theorem pq{vv uu:Value}{A:Zar}(hu:A.units<cLine):∀(x y:D),Vw s x vv->Vw s y uu->sk x y=false->RcNeAt A s vv uu (!eqD x y)
 | .non,.non,rfl,rfl,_=>by unfold eqD;exact RcNeAt.none_none
 | .non,.bl _,rfl,rfl,_=>by unfold eqD;exact RcNeAt.none_bool _
 | .non,.int _,rfl,⟨_,rfl⟩,_=>by unfold eqD;exact RcNeAt.none_int _ _
 | .non,.str _,rfl,⟨_,rfl⟩,_=>by unfold eqD;exact RcNeAt.none_str _ _
 | .non,.tup _,rfl,⟨_,_,rfl,m⟩,_=>by unfold eqD;exact RcNeAt.none_tuple m hu
 | .non,.lst _,rfl,⟨_,_,rfl,m⟩,_=>by unfold eqD;exact RcNeAt.none_list m hu
 | .bl _,.non,rfl,rfl,_=>by unfold eqD;exact RcNeAt.bool_none _
 | .bl _,.bl _,rfl,rfl,_=>by unfold eqD;exact RcNeAt.bool_bool _ _
 | .bl _,.int _,rfl,⟨_,rfl⟩,_=>by unfold eqD;exact RcNeAt.bool_int _ _ _
 | .bl _,.str _,rfl,⟨_,rfl⟩,_=>by unfold eqD;exact RcNeAt.bool_str _ _ _
 | .bl _,.tup _,rfl,⟨_,_,rfl,m⟩,_=>by unfold eqD;exact RcNeAt.bool_tuple _ m hu
 | .bl _,.lst _,rfl,⟨_,_,rfl,m⟩,_=>by unfold eqD;exact RcNeAt.bool_list _ m hu
 | .int _,.non,⟨_,rfl⟩,rfl,_=>by unfold eqD;exact RcNeAt.int_none _ _
 | .int _,.bl _,⟨_,rfl⟩,rfl,_=>by unfold eqD;exact RcNeAt.int_bool _ _ _
 | .int _,.int _,⟨_,rfl⟩,⟨_,rfl⟩,_=>by unfold eqD;exact RcNeAt.int_int _ _ _ _
 | .int _,.str _,⟨_,rfl⟩,⟨_,rfl⟩,_=>by unfold eqD;exact RcNeAt.int_str _ _ _ _
 | .int _,.tup _,⟨_,rfl⟩,⟨_,_,rfl,m⟩,_=>by unfold eqD;exact RcNeAt.int_tuple _ _ m hu
 | .int _,.lst _,⟨_,rfl⟩,⟨_,_,rfl,m⟩,_=>by unfold eqD;exact RcNeAt.int_list _ _ m hu
 | .str _,.non,⟨_,rfl⟩,rfl,_=>by unfold eqD;exact RcNeAt.str_none _ _
 | .str _,.bl _,⟨_,rfl⟩,rfl,_=>by unfold eqD;exact RcNeAt.str_bool _ _ _
 | .str _,.int _,⟨_,rfl⟩,⟨_,rfl⟩,_=>by unfold eqD;exact RcNeAt.str_int _ _ _ _
 | .str _,.str _,⟨_,rfl⟩,⟨_,rfl⟩,_=>by unfold eqD;exact RcNeAt.str_str _ _ _ _
 | .str _,.tup _,⟨_,rfl⟩,⟨_,_,rfl,m⟩,_=>by unfold eqD;exact RcNeAt.str_tuple _ _ m hu
 | .str _,.lst _,⟨_,rfl⟩,⟨_,_,rfl,m⟩,_=>by unfold eqD;exact RcNeAt.str_list _ _ m hu
 | .tup _,.non,⟨_,_,rfl,l⟩,rfl,_=>by unfold eqD;exact RcNeAt.tuple_none l hu
 | .tup _,.bl _,⟨_,_,rfl,l⟩,rfl,_=>by unfold eqD;exact RcNeAt.tuple_bool _ l hu
 | .tup _,.int _,⟨_,_,rfl,l⟩,⟨_,rfl⟩,_=>by unfold eqD;exact RcNeAt.tuple_int _ _ l hu
 | .tup _,.str _,⟨_,_,rfl,l⟩,⟨_,rfl⟩,_=>by unfold eqD;exact RcNeAt.tuple_str _ _ l hu
 | .tup _,.tup _,_,_,h=>nomatch h
 | .tup _,.lst _,⟨_,_,rfl,l⟩,⟨_,_,rfl,m⟩,_=>by unfold eqD;exact RcNeAt.tuple_list l m hu
 | .lst _,.non,⟨_,_,rfl,l⟩,rfl,_=>by unfold eqD;exact RcNeAt.list_none l hu
 | .lst _,.bl _,⟨_,_,rfl,l⟩,rfl,_=>by unfold eqD;exact RcNeAt.list_bool _ l hu
 | .lst _,.int _,⟨_,_,rfl,l⟩,⟨_,rfl⟩,_=>by unfold eqD;exact RcNeAt.list_int _ _ l hu
 | .lst _,.str _,⟨_,_,rfl,l⟩,⟨_,rfl⟩,_=>by unfold eqD;exact RcNeAt.list_str _ _ l hu
 | .lst _,.tup _,⟨_,_,rfl,l⟩,⟨_,_,rfl,m⟩,_=>by unfold eqD;exact RcNeAt.list_tuple l m hu
 | .lst _,.lst _,_,_,h=>nomatch h
 | .ro _,_,p,_,_=>p.elim
 |_,.ro _,_,p,_=>p.elim
 | .dic _,_,p,_,_=>p.elim
 |_,.dic _,_,p,_=>p.elim
 | .cell _,_,p,_,_=>p.elim
 |_,.cell _,_,p,_=>p.elim
theorem yV{xs ys:List D}{us ws:List V}{its0 its1:List Value}{A:Zar}(r:DVL X.K H xs us)(r2:DVL X.K H ys ws)(iv0:bM us its0)(iv1:bM ws its1)
  (E:∀(j:Nat)(x y:D),xs[j]? =some x->ys[j]? =some y->∀(z z':Value),its0[j]? =some z->its1[j]? =some z'->EqAt A.in1 s z z' (eqD x y)) (j:Nat) (h1:j<its0.toArray.size) (h2:j<its1.toArray.size):EqAt A.in1 s its0.toArray[j] its1.toArray[j] (uf xs ys j):=by
 have h1':j<its0.length:=by simpa using h1
 have h2':j<its1.length:=by simpa using h2
 obtain⟨d,e1,dv⟩:=DVL.get' r (show us[j]? =some (us[j]'(by rw[iv0.length];exact h1')) by simp)
 obtain⟨d',e2,dv'⟩:=DVL.get' r2 (show ws[j]? =some (ws[j]'(by rw[iv1.length];exact h2')) by simp)
 obtain⟨z,ez,rz⟩:=iv0.get (show us[j]? =some (us[j]'(by rw[iv0.length];exact h1')) by simp)
 obtain⟨z',ez',rz'⟩:=iv1.get (show ws[j]? =some (ws[j]'(by rw[iv1.length];exact h2')) by simp)
 have f1:its0.toArray[j]=z:=by simpa[h1']using ez
 have f2:its1.toArray[j]=z':=by simpa[h2']using ez'
 rw[f1,f2];have:=E j d d' e1 e2 z z' ez ez';unfold uf;rw[e1,e2];exact this
theorem Gv{xs ys:List D}{us ws:List V}{its0 its1:List Value}{a b:Addr}{A:Zar}(pl0:IsTup s.heap a its0.toArray)(pl1:IsTup s.heap b its1.toArray)(r:DVL X.K H xs us)(r2:DVL X.K H ys ws)(iv0:bM us its0)(iv1:bM ws its1)(hu:A.units<cLine)
  (E:∀(j:Nat)(x y:D),xs[j]? =some x->ys[j]? =some y->∀(z z':Value),its0[j]? =some z->its1[j]? =some z'->EqAt A.in1 s z z' (eqD x y)):RcAt A s (.ref a) (.ref b) (lu xs ys):=by
 have hl0:its0.toArray.size=xs.length:=by rw[Zd,<-iv0.length,<-DVL.length r]
 have hl1:its1.toArray.size=ys.length:=by rw[Zd,<-iv1.length,<-DVL.length r2]
 have rc:=RcAt.tuples (A:=A) (e:=uf xs ys) pl0 pl1 (by lia) (yV r r2 iv0 iv1 E)
 rw[hl0,hl1,Am]at rc;exact rc
theorem FZ{xs ys:List D}{us ws:List V}{its0 its1:List Value}{a b:Addr}{A:Zar}(pl0:PlainL s.heap a its0.toArray)(pl1:PlainL s.heap b its1.toArray)(r:DVL X.K H xs us)(r2:DVL X.K H ys ws)(iv0:bM us its0)(iv1:bM ws its1)(hu:A.units<cLine)
  (E:∀(j:Nat)(x y:D),xs[j]? =some x->ys[j]? =some y->∀(z z':Value),its0[j]? =some z->its1[j]? =some z'->EqAt A.in1 s z z' (eqD x y)):RcAt A s (.ref a) (.ref b) (lu xs ys):=by
 have hl0:its0.toArray.size=xs.length:=by rw[Zd,<-iv0.length,<-DVL.length r]
 have hl1:its1.toArray.size=ys.length:=by rw[Zd,<-iv1.length,<-DVL.length r2]
 by_cases hlen:xs.length=ys.length
 .have rc:=RcAt.lists (A:=A) (e:=uf xs ys) pl0.isList pl1.isList (by rw[hl0,hl1,hlen]) (by lia) (yV r r2 iv0 iv1 E)
  rw[hl0,oX _ _ hlen]at rc;exact rc
 .rw[sE _ _ hlen];exact RcAt.lists_lengths pl0.isList pl1.isList (by rw[hl0,hl1];simpa using hlen) (by lia)
theorem Rb{xs ys:List D}{us ws:List V}{its0 its1:List Value}{a b:Addr}{A:Zar}(pl0:IsTup s.heap a its0.toArray)(pl1:IsTup s.heap b its1.toArray)(r:DVL X.K H xs us)(r2:DVL X.K H ys ws)(iv0:bM us its0)(iv1:bM ws its1)(hu:A.units<cLine)
  (E:∀(j:Nat)(x y:D),xs[j]? =some x->ys[j]? =some y->∀(z z':Value),its0[j]? =some z->its1[j]? =some z'->EqAt A.in1 s z z' (eqD x y)):RcNeAt A s (.ref a) (.ref b) (!lu xs ys):=by
 have hl0:its0.toArray.size=xs.length:=by rw[Zd,<-iv0.length,<-DVL.length r]
 have hl1:its1.toArray.size=ys.length:=by rw[Zd,<-iv1.length,<-DVL.length r2]
 have rc:=RcNeAt.tuples (A:=A) (e:=uf xs ys) pl0 pl1 (by lia) (yV r r2 iv0 iv1 E)
 rw[hl0,hl1,Am]at rc;exact rc
theorem Ox{xs ys:List D}{us ws:List V}{its0 its1:List Value}{a b:Addr}{A:Zar}(pl0:PlainL s.heap a its0.toArray)(pl1:PlainL s.heap b its1.toArray)(r:DVL X.K H xs us)(r2:DVL X.K H ys ws)(iv0:bM us its0)(iv1:bM ws its1)(hu:A.units<cLine)
  (E:∀(j:Nat)(x y:D),xs[j]? =some x->ys[j]? =some y->∀(z z':Value),its0[j]? =some z->its1[j]? =some z'->EqAt A.in1 s z z' (eqD x y)):RcNeAt A s (.ref a) (.ref b) (!lu xs ys):=by
 have hl0:its0.toArray.size=xs.length:=by rw[Zd,<-iv0.length,<-DVL.length r]
 have hl1:its1.toArray.size=ys.length:=by rw[Zd,<-iv1.length,<-DVL.length r2]
 by_cases hlen:xs.length=ys.length
 .have rc:=RcNeAt.lists (A:=A) (e:=uf xs ys) pl0.isList pl1.isList (by rw[hl0,hl1,hlen]) (by lia) (yV r r2 iv0 iv1 E)
  rw[hl0,oX _ _ hlen]at rc;exact rc
 .rw[sE _ _ hlen];exact RcNeAt.lists_lengths pl0.isList pl1.isList (by rw[hl0,hl1];simpa using hlen) (by lia)
mutual
theorem Wr(I:Inv X pins σ H s):∀(x y:D)(v u:V)(vv uu:Value)(A:Zar),DV X.K H x v->DV X.K H y u->cI v vv->cI u uu->A.units+iQ x<cLine->EqAt A s vv uu (eqD x y)
 | .tup xs,y,v,u,vv,uu,A,h,k,rv,ru,hu=>by
  cases y with
  |tup ys=>
   have h0:=h;have k0:=k;unfold DV at h k;unfold iQ at hu;obtain⟨a,us,rfl,q,r⟩:=h;cases rv;obtain⟨its0,iv0,pl0,hz0⟩:=I.tuple q;obtain⟨b,ws,rfl,p,r2⟩:=k;cases ru;obtain⟨its1,iv1,pl1,hz1⟩:=I.tuple p;by_cases hab:a=b
   .subst hab;rw[vm I _ _ _ h0 k0];exact EqAt.same _
   .unfold eqD;exact EqAt.of_refs hab (Gv pl0 pl1 r r2 iv0 iv1 (by lia) (pB I xs ys us ws its0 its1 A.in1 r r2 iv0 iv1 (by rw[units_in1];lia)))
  |_=>exact pC (by lia) _ _ (vw I h rv) (vw I k ru) rfl
 | .lst xs,y,v,u,vv,uu,A,h,k,rv,ru,hu=>by
  cases y with
  |lst ys=>
   have h0:=h;have k0:=k;unfold DV at h k;unfold iQ at hu;obtain⟨a,us,rfl,q,r⟩:=h;cases rv;obtain⟨its0,iv0,pl0,hz0⟩:=I.list q;obtain⟨b,ws,rfl,p,r2⟩:=k;cases ru;obtain⟨its1,iv1,pl1,hz1⟩:=I.list p;by_cases hab:a=b
   .subst hab;rw[vm I _ _ _ h0 k0];exact EqAt.same _
   .unfold eqD;exact EqAt.of_refs hab (FZ pl0 pl1 r r2 iv0 iv1 (by lia) (pB I xs ys us ws its0 its1 A.in1 r r2 iv0 iv1 (by rw[units_in1];lia)))
  |_=>exact pC (by lia) _ _ (vw I h rv) (vw I k ru) rfl
 | .non,y,v,u,vv,uu,A,h,k,rv,ru,hu=>pC (by lia) _ _ (vw I h rv) (vw I k ru) (by cases y<;>rfl)
 | .bl _,y,v,u,vv,uu,A,h,k,rv,ru,hu=>pC (by lia) _ _ (vw I h rv) (vw I k ru) (by cases y<;>rfl)
 | .int _,y,v,u,vv,uu,A,h,k,rv,ru,hu=>pC (by lia) _ _ (vw I h rv) (vw I k ru) (by cases y<;>rfl)
 | .str _,y,v,u,vv,uu,A,h,k,rv,ru,hu=>pC (by lia) _ _ (vw I h rv) (vw I k ru) (by cases y<;>rfl)
 | .ro _,y,v,u,vv,uu,A,h,k,rv,ru,hu=>pC (by lia) _ _ (vw I h rv) (vw I k ru) (by cases y<;>rfl)
 | .dic _,y,v,u,vv,uu,A,h,k,rv,ru,hu=>pC (by lia) _ _ (vw I h rv) (vw I k ru) (by cases y<;>rfl)
 | .cell _,y,v,u,vv,uu,A,h,k,rv,ru,hu=>pC (by lia) _ _ (vw I h rv) (vw I k ru) (by cases y<;>rfl)
theorem pB(I:Inv X pins σ H s):∀(xs ys:List D)(vs us:List V)(vvs uus:List Value)(A:Zar),DVL X.K H xs vs->DVL X.K H ys us->bM vs vvs->bM us uus->A.units+jV xs<cLine->
  ∀(j:Nat)(x y:D),xs[j]? =some x->ys[j]? =some y->∀(z z':Value),vvs[j]? =some z->uus[j]? =some z'->EqAt A s z z' (eqD x y)
 | [],ys,vs,us,vvs,uus,A,_,_,_,_,_=>λj x y e=>by simp at e
 |x::xs,[],vs,us,vvs,uus,A,_,_,_,_,_=>λj _ y _ e=>by simp at e
 |x::xs,y::ys,vs,us,vvs,uus,A,h,k,rv,ru,hu=>by
  unfold DVL at h k;unfold jV at hu;obtain⟨v,vs',rfl,p,r⟩:=h;obtain⟨u,us',rfl,p',r'⟩:=k;cases rv with
  |cons rv1 rv2=>
   cases ru with
   |cons ru1 ru2=>
    intro j x' y' e1 e2 z z' ez ez';cases j with
    |zero=>
     simp at e1 e2 ez ez';subst e1 e2 ez ez';exact Wr I x y v u _ _ A p p' rv1 ru1 (by lia)
    |succ j=>
     exact pB I xs ys vs' us' _ _ A r r' rv2 ru2 (by lia) j x' y' (by simpa using e1) (by simpa using e2) z z' (by simpa using ez) (by simpa using ez')
end
theorem Wb(I:Inv X pins σ H s):∀(x y:D)(v u:V)(vv uu:Value)(A:Zar),DV X.K H x v->DV X.K H y u->cI v vv->cI u uu->A.units+iQ x<cLine->RcAt A s vv uu (eqD x y)
 | .tup xs,y,v,u,vv,uu,A,h,k,rv,ru,hu=>by
  cases y with
  |tup ys=>
   unfold DV at h k;unfold iQ at hu;obtain⟨a,us,rfl,q,r⟩:=h;cases rv;obtain⟨its0,iv0,pl0,hz0⟩:=I.tuple q;obtain⟨b,ws,rfl,p,r2⟩:=k;cases ru;obtain⟨its1,iv1,pl1,hz1⟩:=I.tuple p;unfold eqD;exact Gv pl0 pl1 r r2 iv0 iv1 (by lia) (pB I xs ys us ws its0 its1 A.in1 r r2 iv0 iv1 (by rw[units_in1];lia))
  |_=>exact oW (by lia) _ _ (vw I h rv) (vw I k ru) rfl
 | .lst xs,y,v,u,vv,uu,A,h,k,rv,ru,hu=>by
  cases y with
  |lst ys=>
   unfold DV at h k;unfold iQ at hu;obtain⟨a,us,rfl,q,r⟩:=h;cases rv;obtain⟨its0,iv0,pl0,hz0⟩:=I.list q;obtain⟨b,ws,rfl,p,r2⟩:=k;cases ru;obtain⟨its1,iv1,pl1,hz1⟩:=I.list p;unfold eqD;exact FZ pl0 pl1 r r2 iv0 iv1 (by lia) (pB I xs ys us ws its0 its1 A.in1 r r2 iv0 iv1 (by rw[units_in1];lia))
  |_=>exact oW (by lia) _ _ (vw I h rv) (vw I k ru) rfl
 | .non,y,v,u,vv,uu,A,h,k,rv,ru,hu=>oW (by lia) _ _ (vw I h rv) (vw I k ru) (by cases y<;>rfl)
 | .bl _,y,v,u,vv,uu,A,h,k,rv,ru,hu=>oW (by lia) _ _ (vw I h rv) (vw I k ru) (by cases y<;>rfl)
 | .int _,y,v,u,vv,uu,A,h,k,rv,ru,hu=>oW (by lia) _ _ (vw I h rv) (vw I k ru) (by cases y<;>rfl)
 | .str _,y,v,u,vv,uu,A,h,k,rv,ru,hu=>oW (by lia) _ _ (vw I h rv) (vw I k ru) (by cases y<;>rfl)
 | .ro _,y,v,u,vv,uu,A,h,k,rv,ru,hu=>oW (by lia) _ _ (vw I h rv) (vw I k ru) (by cases y<;>rfl)
 | .dic _,y,v,u,vv,uu,A,h,k,rv,ru,hu=>oW (by lia) _ _ (vw I h rv) (vw I k ru) (by cases y<;>rfl)
 | .cell _,y,v,u,vv,uu,A,h,k,rv,ru,hu=>oW (by lia) _ _ (vw I h rv) (vw I k ru) (by cases y<;>rfl)
theorem WF(I:Inv X pins σ H s):∀(x y:D)(v u:V)(vv uu:Value)(A:Zar),DV X.K H x v->DV X.K H y u->cI v vv->cI u uu->A.units+iQ x<cLine->RcNeAt A s vv uu (!eqD x y)
 | .tup xs,y,v,u,vv,uu,A,h,k,rv,ru,hu=>by
  cases y with
  |tup ys=>
   unfold DV at h k;unfold iQ at hu;obtain⟨a,us,rfl,q,r⟩:=h;cases rv;obtain⟨its0,iv0,pl0,hz0⟩:=I.tuple q;obtain⟨b,ws,rfl,p,r2⟩:=k;cases ru;obtain⟨its1,iv1,pl1,hz1⟩:=I.tuple p;unfold eqD;exact Rb pl0 pl1 r r2 iv0 iv1 (by lia) (pB I xs ys us ws its0 its1 A.in1 r r2 iv0 iv1 (by rw[units_in1];lia))
  |_=>exact pq (by lia) _ _ (vw I h rv) (vw I k ru) rfl
 | .lst xs,y,v,u,vv,uu,A,h,k,rv,ru,hu=>by
  cases y with
  |lst ys=>
   unfold DV at h k;unfold iQ at hu;obtain⟨a,us,rfl,q,r⟩:=h;cases rv;obtain⟨its0,iv0,pl0,hz0⟩:=I.list q;obtain⟨b,ws,rfl,p,r2⟩:=k;cases ru;obtain⟨its1,iv1,pl1,hz1⟩:=I.list p;unfold eqD;exact Ox pl0 pl1 r r2 iv0 iv1 (by lia) (pB I xs ys us ws its0 its1 A.in1 r r2 iv0 iv1 (by rw[units_in1];lia))
  |_=>exact pq (by lia) _ _ (vw I h rv) (vw I k ru) rfl
 | .non,y,v,u,vv,uu,A,h,k,rv,ru,hu=>pq (by lia) _ _ (vw I h rv) (vw I k ru) (by cases y<;>rfl)
 | .bl _,y,v,u,vv,uu,A,h,k,rv,ru,hu=>pq (by lia) _ _ (vw I h rv) (vw I k ru) (by cases y<;>rfl)
 | .int _,y,v,u,vv,uu,A,h,k,rv,ru,hu=>pq (by lia) _ _ (vw I h rv) (vw I k ru) (by cases y<;>rfl)
 | .str _,y,v,u,vv,uu,A,h,k,rv,ru,hu=>pq (by lia) _ _ (vw I h rv) (vw I k ru) (by cases y<;>rfl)
 | .ro _,y,v,u,vv,uu,A,h,k,rv,ru,hu=>pq (by lia) _ _ (vw I h rv) (vw I k ru) (by cases y<;>rfl)
 | .dic _,y,v,u,vv,uu,A,h,k,rv,ru,hu=>pq (by lia) _ _ (vw I h rv) (vw I k ru) (by cases y<;>rfl)
 | .cell _,y,v,u,vv,uu,A,h,k,rv,ru,hu=>pq (by lia) _ _ (vw I h rv) (vw I k ru) (by cases y<;>rfl)
end
def rsv(d:D)(μ:Mu):D:=match d with
 | .cell n=>match μ[n]? with
  |some (some ds)=>.lst ds
  |_=>d
 | .ro ds=>.lst ds
 |_=>d
theorem qj{K:Zw}{tb:List Addr}{W:Wd}{d:D}{v:V}(ok:WOk K tb W)(h:Den K tb W d v)(p:dq (rsv d W.mu)=true):DV K W.H (rsv d W.mu) v:=by
 cases d with
 |cell n=>
  obtain⟨a,rfl,q⟩:=jB h;unfold rsv at p ⊢;dsimp only at p ⊢;cases e:W.mu[n]? with
  |none=>rw[e]at p;cases p
  |some o=>
   rw[e]at p;cases o with
   |none=>cases p
   |some ds=>
    dsimp only at p ⊢;unfold dq at p;obtain⟨xs,ex,r⟩:=ok.cont n a ds q e;unfold DV;exact⟨a,xs,rfl,SqL.of ex,wj ds xs p r⟩
 |ro ds=>
  obtain⟨a,xs,rfl,q,r⟩:=zR h;have p':dq (.lst ds)=true:=p;unfold dq at p';show DV K W.H (.lst ds) _;unfold DV;exact⟨a,xs,rfl,SqL.fz q,wj ds xs p' r⟩
 |_=>exact Tg _ _ p h
def oEq:O2:=λx y μ=>if(dq (rsv x μ)&&dq (rsv y μ))=true/\iQ (rsv x μ)<100 then some (.bl (eqD (rsv x μ) (rsv y μ)),μ)else none
def oNe:O2:=λx y μ=>if(dq (rsv x μ)&&dq (rsv y μ))=true/\iQ (rsv x μ)<100 then some (.bl (!eqD (rsv x μ) (rsv y μ)),μ)else none
def rEqD(K:Zw):R2:=λv u H Q=>∃x y,DV K H x v/\DV K H y u/\iQ x<100/\Q (.bl (eqD x y)) H
def rNeD(K:Zw):R2:=λv u H Q=>∃x y,DV K H x v/\DV K H y u/\iQ x<100/\Q (.bl (!eqD x y)) H
section
variable {X:Cx} {tb:List Addr} {k:Nat}
theorem JH(hr:dH k X.A):OpR X (compareOp .Eq) (rEqD X.K):=by
 intro pins s σ H v u vv uu Q I rv ru h;obtain⟨x,y,hx,hy,hd,q⟩:=h;have hun:=hr.un;exact Wb I x y v u vv uu X.A hx hy rv ru (by lia) X.prog X.w X.xe _ ⟨.bl _,H,I,rfl,q⟩
theorem Nr(hr:dH k X.A):OpR X (compareOp .NotEq) (rNeD X.K):=by
 intro pins s σ H v u vv uu Q I rv ru h;obtain⟨x,y,hx,hy,hd,q⟩:=h;have hun:=hr.un;exact WF I x y v u vv uu X.A hx hy rv ru (by lia) X.prog X.w X.xe _ ⟨.bl _,H,I,rfl,q⟩
theorem mK(hr:dH k X.A):OpD X tb (compareOp .Eq) oEq:=⟨_,JH hr,λW x y v u d μ' Q ok dx dy ho h=>by
 unfold oEq at ho;split at ho
 .rename_i hc;cases ho;rw[Zo]at hc;exact⟨_,_,qj ok dx hc.1.1,qj ok dy hc.1.2,hc.2,put ok h gK⟩
 .cases ho⟩
theorem nY(hr:dH k X.A):OpD X tb (compareOp .NotEq) oNe:=⟨_,Nr hr,λW x y v u d μ' Q ok dx dy ho h=>by
 unfold oNe at ho;split at ho
 .rename_i hc;cases ho;rw[Zo]at hc;exact⟨_,_,qj ok dx hc.1.1,qj ok dy hc.1.2,hc.2,put ok h gK⟩
 .cases ho⟩
end
end L3
namespace L2
open PySem PySem.Spec PyProof.Rows
section
variable {prog:Zpr} {w:World} {A:Zar} {E:Value->Zsh->Prop} {s:Zsh}
theorem rP{items}{Q:Value->Zsh->Prop}(hit:s.heap.IsTupleIter it l i)(hl:s.heap.IsTuple l items)(hx:items[i]? =some x)
  (hQ:∀h',h'.IsTupleIter it l (i+1)->Heap.SameBut it s.heap h'->Q x { s with heap:=h'}):wpAny (model prog w) A (Builtin.SmallTypes.nextOf (.ref it)) Q E s:=by
 obtain⟨o,ho,hc,hd⟩:=id hit;obtain⟨ol,hol,_,nl,hdl⟩:=hl;unfold Builtin.SmallTypes.nextOf;refine Zv (wpAny_callSpecial?_slot (name:=Str.ofString "__next__") hit.typeIs F.slot_tuple_iterator_next
  (wpAny_call_entry F.slot_tuple_iterator_next hit.typeIs F.entry_tuple_iterator_next ?_ (F.args_tuple_iterator_next_1 _)))
 show wpAny _ _ (field (.ref it) 0 >>= _) _ _ s;refine Zv (wpAny_field ho hd (x:=.ref l) rfl ?_);show wpAny _ _ (if(Value.ref l==Value.none)=true then _ else _) _ _ s;rw[if_neg (show¬((Value.ref l==Value.none)=true)from Zr)];show wpAny _ _ (field (.ref it) 1 >>= _) _ _ s;refine Zv (wpAny_field ho hd (x:=.int i 0) rfl ?_);show wpAny _ _ (seqItems? (.ref l) >>= _) _ _ s;refine Zv (wpAny_seqItems hol hdl ?_);simp only[Int.toNat_natCast,hx];refine Zv (wpAny_setField ho hd (by simp) (Zx ⟨x,rfl,Zx (hQ _ ?_ (Heap.SameBut.update ..))⟩))
 exact⟨_,Heap.get?_update_self _ ho (Obj.isFreed_of_fields (Obj.data_mapFields hd _)),(Obj.cls_mapFields ..).trans hc,by
  rw[Obj.data_mapFields hd];simp[rawInt]⟩
theorem tZ{items}{Q:Value->Zsh->Prop}(hh:A.handled=none)(hit:s.heap.IsTupleIter it l i)(hl:s.heap.IsTuple l items)(hx:items[i]? =none)
  (hE:∀h' e,Heap.ExtBut it s.heap h'->(∃o,h'.get? e=some o/\o.cls= .type "StopIteration")->E (.ref e) { s with heap:=h'}):wpAny (model prog w) A (Builtin.SmallTypes.nextOf (.ref it)) Q E s:=by
 obtain⟨o,ho,hc,hd⟩:=id hit;obtain⟨ol,hol,_,nl,hdl⟩:=hl;unfold Builtin.SmallTypes.nextOf;refine Zv (wpAny_callSpecial?_slot (name:=Str.ofString "__next__") hit.typeIs F.slot_tuple_iterator_next
  (wpAny_call_entry F.slot_tuple_iterator_next hit.typeIs F.entry_tuple_iterator_next ?_ (F.args_tuple_iterator_next_1 _)))
 show wpAny _ _ (field (.ref it) 0 >>= _) _ _ s;refine Zv (wpAny_field ho hd (x:=.ref l) rfl ?_);show wpAny _ _ (if(Value.ref l==Value.none)=true then _ else _) _ _ s;rw[if_neg (show¬((Value.ref l==Value.none)=true)from Zr)];show wpAny _ _ (field (.ref it) 1 >>= _) _ _ s;refine Zv (wpAny_field ho hd (x:=.int i 0) rfl ?_);show wpAny _ _ (seqItems? (.ref l) >>= _) _ _ s;refine Zv (wpAny_seqItems hol hdl ?_);simp only[Int.toNat_natCast,hx];refine Zv (wpAny_rule (Zv (wpAny_setField ho hd (by simp) ?_)))
 show wpAny _ _ (newExc (.type "StopIteration") [] >>= _) _ _ _;refine Zv ?_;simp only[newExc,newTuple];refine Zv (Zz ?_ (by size_fits))
 refine Zv (m:=firstArgMember _ _) (wpAny_of_eq (a:=Value.none) (by first|rfl|(simp only[firstArgMember];rfl)) ?_)
 refine Zz ?_ (by size_fits)
 simp only[raiseNew];refine Zv (wpAny_handled ?_)
 first|rw[show A.in1.handled=none from hh]|rw[hh]
 refine Zv (Zx (wpAny_throw ?_));exact hE _ _ (((Heap.SameBut.update ..).extBut.push _).push _) ⟨_,Zf _ rfl,rfl⟩
end
def jx(k:Bool)(h:Heap)(it l:Addr)(i:Nat):Prop:=if k=true then h.IsTupleIter it l i else h.IsListIter it l i
def nQ(k:Bool)(h:Heap)(l:Addr)(xs:Array Value):Prop:=if k=true then h.IsTuple l xs else h.IsList l xs
section
variable {prog:Zpr} {w:World} {A:Zar} {E:Value->Zsh->Prop} {s:Zsh} {k:Bool} {it l:Addr} {i:Nat} {xs:Array Value} {h h':Heap}
theorem jx.obj(x:jx k h it l i):∃o,h.get? it=some o/\(∀v,o.data≠ .cell v)/\(o.cls= .type "tuple_iterator"∨o.cls= .type "list_iterator"):=by
 cases k
 .obtain⟨o,e,c,d⟩:h.IsListIter it l i:=x;exact⟨o,e,(λv z=>by rw[d]at z;cases z),.inr c⟩
 .obtain⟨o,e,c,d⟩:h.IsTupleIter it l i:=x;exact⟨o,e,(λv z=>by rw[d]at z;cases z),.inl c⟩
theorem jx.at'(x:jx k h it l i)(hk:∀o,h.get? it=some o->h'.get? it=some o):jx k h' it l i:=by
 cases k
 .obtain⟨o,e,c,d⟩:h.IsListIter it l i:=x;exact(⟨o,hk o e,c,d⟩:h'.IsListIter it l i)
 .obtain⟨o,e,c,d⟩:h.IsTupleIter it l i:=x;exact(⟨o,hk o e,c,d⟩:h'.IsTupleIter it l i)
theorem nQ.at'(x:nQ k h l xs)(hk:∀o,h.get? l=some o->h'.get? l=some o):nQ k h' l xs:=by
 cases k
 .obtain⟨o,e,c⟩:h.IsList l xs:=x;exact(⟨o,hk o e,c⟩:h'.IsList l xs)
 .obtain⟨o,e,c⟩:h.IsTuple l xs:=x;exact(⟨o,hk o e,c⟩:h'.IsTuple l xs)
theorem mJ{Q:Value->Zsh->Prop}(hit:jx k s.heap it l i)(hl:nQ k s.heap l xs)(hx:xs[i]? =some x)
  (hQ:∀h',jx k h' it l (i+1)->Heap.SameBut it s.heap h'->Q x { s with heap:=h'}):wpAny (model prog w) A (Builtin.SmallTypes.nextOf (.ref it)) Q E s:=by
 cases k
 .exact wpAny_nextOf_list_item hit hl hx hQ
 .exact rP hit hl hx hQ
theorem qQ{Q:Value->Zsh->Prop}(hh:A.handled=none)(hit:jx k s.heap it l i)(hl:nQ k s.heap l xs)(hx:xs[i]? =none)
  (hE:∀h' e,Heap.ExtBut it s.heap h'->(∃o,h'.get? e=some o/\o.cls= .type "StopIteration")->E (.ref e) { s with heap:=h'}):wpAny (model prog w) A (Builtin.SmallTypes.nextOf (.ref it)) Q E s:=by
 cases k
 .exact wpAny_nextOf_list_end hh hit hl hx hE
 .exact tZ hh hit hl hx hE
end
structure ZA(z TI TO i1 i2:Addr):Prop where
 TIz:TI≠z
 TOz:TO≠z
 i1z:i1≠z
 i2z:i2≠z
 TITO:TI≠TO
 TIi1:TI≠i1
 TIi2:TI≠i2
 TOi1:TO≠i1
 TOi2:TO≠i2
 i12:i1≠i2
section
variable {prog:Zpr} {w:World} {A:Zar} {E:Value->Zsh->Prop} {s:Zsh}
theorem Hn{z TI TO i1 i2 l1 l2:Addr}{c1 c2:Bool}{k1 k2:Nat}{xs ys:Array Value}{x y a b:Value}{Q:Value->Zsh->Prop}(D:ZA z TI TO i1 i2)
  (l1z:l1≠z) (l2z:l2≠z) (l2i1:l2≠i1) (l2TO:l2≠TO)
  (hz:IsZip s.heap z TI TO .none) (hTI:IsPair s.heap TI (.ref i1) (.ref i2)) (hTO:IsPair s.heap TO a b)
  (h1:jx c1 s.heap i1 l1 k1) (h2:jx c2 s.heap i2 l2 k2) (hl1:nQ c1 s.heap l1 xs) (hl2:nQ c2 s.heap l2 ys) (hx:xs[k1]? =some x) (hy:ys[k2]? =some y)
  (hQ:∀h',IsZip h' z TI TO (rawInt s.heap.objs.size)->IsPair h' TO x y->jx c1 h' i1 l1 (k1+1)->jx c2 h' i2 l2 (k2+1)->IsPair h' s.heap.objs.size x y->h'.objs.size=s.heap.objs.size+1->
   (∀c o,c≠z->c≠TO->c≠i1->c≠i2->s.heap.get? c=some o->h'.get? c=some o)->Q (.ref s.heap.objs.size) { s with heap:=h'}):
  wpAny (model prog w) A (Builtin.«zip.__next__» ⟨[.ref z],[]⟩) (λfin s'=>∃v,fin= .done (.ret v)/\Q v s') E s:=by
 show wpAny _ _ (field (.ref z) 2 >>= _) _ _ _;refine Zv (wpAny_field hz rfl (x:=.bool false) rfl ?_);show wpAny _ _ (field (.ref z) 3 >>= _) _ _ _;refine Zv (wpAny_field hz rfl (x:=.ref TI) rfl ?_);refine Zv (wpAny_seqItems hTI rfl ?_);show wpAny _ _ (Builtin.SmallTypes.ownedTupleIsFree (.ref z) >>= _) _ _ _;refine Zv ?_;unfold Builtin.SmallTypes.ownedTupleIsFree;refine Zv (wpAny_field hz rfl (x:=.none) rfl (Zx ?_));simp only[if_true];refine Zv (wpAny_rule ?_);refine Zv (wpAny_field hz rfl (x:=.ref TO) rfl ?_);refine Zv (wpAny_setField_rec hz (by simp) λh₁ hz₁ hs₁=>?_)
 replace hz₁:IsZip h₁ z TI TO .ellipsis:=hz₁;refine Zv ?_;simp only[List.zipIdx_cons,List.zipIdx_nil,List.forIn_cons,List.forIn_nil];refine Zv (Zv (wpAny_onRaise ?_));show wpAny _ _ (Builtin.SmallTypes.nextOf (.ref i1) >>= _) _ _ _;refine Zv (mJ (h1.at' λo e=>hs₁.extBut _ _ D.i1z e) (hl1.at' λo e=>hs₁.extBut _ _ l1z e) hx λh₂ h1₂ hs₂=>Zx ?_);have hTO₂:IsPair h₂ TO a b:=hs₂.extBut _ _ D.TOi1 (hs₁.extBut _ _ D.TOz hTO);refine Zv (wpAny_seqItems hTO₂ rfl ?_);refine Zv (wpAny_updateSeq_pair hTO₂ λh₃ hTO₃ hs₃=>?_);replace hTO₃:IsPair h₃ TO x b:=hTO₃;refine Zv (wpAny_letGo (Zx ?_));refine Zv (Zv (wpAny_onRaise ?_));show wpAny _ _ (Builtin.SmallTypes.nextOf (.ref i2) >>= _) _ _ _;refine Zv (mJ (h2.at' λo e=>hs₃.extBut _ _ D.TOi2.symm (hs₂.extBut _ _ D.i12.symm (hs₁.extBut _ _ D.i2z e))) (hl2.at' λo e=>hs₃.extBut _ _ l2TO (hs₂.extBut _ _ l2i1 (hs₁.extBut _ _ l2z e))) hy λh₄ h2₄ hs₄=>Zx ?_);have hTO₄:IsPair h₄ TO x b:=hs₄.extBut _ _ D.TOi2 hTO₃;refine Zv (wpAny_seqItems hTO₄ rfl ?_);refine Zv (wpAny_updateSeq_pair hTO₄ λh₅ hTO₅ hs₅=>?_);replace hTO₅:IsPair h₅ TO x y:=hTO₅;refine Zv (wpAny_letGo (Zx (Zx ?_)));refine Zv (wpAny_seqItems hTO₅ rfl ?_);refine Zv (wpAny_newTuple ?_);have hsz:h₅.objs.size=s.heap.objs.size:=by rw[hs₅.1,hs₄.1,hs₃.1,hs₂.1,hs₁.1]
 have hz₅:IsZip h₅ z TI TO .ellipsis:=hs₅.extBut _ _ D.TOz.symm (hs₄.extBut _ _ D.i2z.symm (hs₃.extBut _ _ D.TOz.symm (hs₂.extBut _ _ D.i1z.symm hz₁)));have hk₅:∀c o,c≠z->c≠TO->c≠i1->c≠i2->s.heap.get? c=some o->h₅.get? c=some o:=λc o q1 q2 q3 q4 e=>
  hs₅.extBut _ _ q2 (hs₄.extBut _ _ q4 (hs₃.extBut _ _ q2 (hs₂.extBut _ _ q3 (hs₁.extBut _ _ q1 e))))
 have h1₅:jx c1 h₅ i1 l1 (k1+1):=h1₂.at' λo e=>hs₅.extBut _ _ D.TOi1.symm (hs₄.extBut _ _ D.i12 (hs₃.extBut _ _ D.TOi1.symm e));have h2₅:jx c2 h₅ i2 l2 (k2+1):=h2₄.at' λo e=>hs₅.extBut _ _ D.TOi2.symm e;have hzlt:z<h₅.objs.size:=Ze hz₅;show wpAny _ _ (Builtin.SmallTypes.ownedTupleHandOut (.ref z) (.ref h₅.objs.size) >>= _) _ _ _;refine Zv ?_;unfold Builtin.SmallTypes.ownedTupleHandOut;have hz₆:IsZip (h₅.push { cls:=.type "tuple",data:=.seq #[x,y] }) z TI TO .ellipsis:=Zb _ hz₅;refine Zv (wpAny_setField_rec hz₆ (by simp) λh₇ hz₇ hs₇=>?_)
 replace hz₇:IsZip h₇ z TI TO (rawInt h₅.objs.size):=hz₇;refine wpAny_setField_rec hz₇ (by simp) λh₈ hz₈ hs₈=>?_
 replace hz₈:IsZip h₈ z TI TO (rawInt h₅.objs.size):=hz₈;have up:∀c o,c≠z->h₅.get? c=some o->h₈.get? c=some o:=λc o q1 e=>hs₈.extBut _ _ q1 (hs₇.extBut _ _ q1 (Zb _ e));have hT₈:IsPair h₈ h₅.objs.size x y:=hs₈.extBut _ _ (Nat.ne_of_gt hzlt) (hs₇.extBut _ _ (Nat.ne_of_gt hzlt) (Zf _ rfl));have hz8:h₈.objs.size=h₅.objs.size+1:=by rw[hs₈.1,hs₇.1,Heap.size_push]
 rw[hsz]at hz₈ hT₈ hz8;refine Zx ⟨_,rfl,?_⟩;show Q (.ref h₅.objs.size) _;rw[hsz];exact hQ h₈ hz₈ (up _ _ D.TOz hTO₅) (h1₅.at' λo e=>up _ o D.i1z e) (h2₅.at' λo e=>up _ o D.i2z e) hT₈ hz8 λc o q1 q2 q3 q4 e=>up c o q1 (hk₅ c o q1 q2 q3 q4 e)
theorem Mv{z TI TO i1 i2 l1 l2:Addr}{c1 c2:Bool}{k1 k2:Nat}{xs ys:Array Value}{a b:Value}{Q:PySem.Fin->Zsh->Prop}(hh:A.handled=none)(D:ZA z TI TO i1 i2)
  (l1z:l1≠z) (l2z:l2≠z) (l2i1:l2≠i1) (l2TO:l2≠TO)
  (hz:IsZip s.heap z TI TO .none) (hTI:IsPair s.heap TI (.ref i1) (.ref i2)) (hTO:IsPair s.heap TO a b)
  (h1:jx c1 s.heap i1 l1 k1) (h2:jx c2 s.heap i2 l2 k2) (hl1:nQ c1 s.heap l1 xs) (hl2:nQ c2 s.heap l2 ys) (hend:xs[k1]? =none∨ys[k2]? =none)
  (hE:∀h' e,(∀c o,c≠z->c≠TO->c≠i1->c≠i2->s.heap.get? c=some o->h'.get? c=some o)->(∃o,h'.get? e=some o/\o.cls= .type "StopIteration")->E (.ref e) { s with heap:=h'}):
  wpAny (model prog w) A (Builtin.«zip.__next__» ⟨[.ref z],[]⟩) Q E s:=by
 show wpAny _ _ (field (.ref z) 2 >>= _) _ _ _;refine Zv (wpAny_field hz rfl (x:=.bool false) rfl ?_);show wpAny _ _ (field (.ref z) 3 >>= _) _ _ _;refine Zv (wpAny_field hz rfl (x:=.ref TI) rfl ?_);refine Zv (wpAny_seqItems hTI rfl ?_);show wpAny _ _ (Builtin.SmallTypes.ownedTupleIsFree (.ref z) >>= _) _ _ _;refine Zv ?_;unfold Builtin.SmallTypes.ownedTupleIsFree;refine Zv (wpAny_field hz rfl (x:=.none) rfl (Zx ?_));simp only[if_true];refine Zv (wpAny_rule ?_);refine Zv (wpAny_field hz rfl (x:=.ref TO) rfl ?_);refine Zv (wpAny_setField_rec hz (by simp) λh₁ hz₁ hs₁=>?_)
 replace hz₁:IsZip h₁ z TI TO .ellipsis:=hz₁;refine Zv ?_;simp only[List.zipIdx_cons,List.zipIdx_nil,List.forIn_cons,List.forIn_nil];refine Zv (Zv (wpAny_onRaise ?_));show wpAny _ _ (Builtin.SmallTypes.nextOf (.ref i1) >>= _) _ _ _;cases hx:xs[k1]? with
 |none=>
  refine Zv (qQ hh (h1.at' λo e=>hs₁.extBut _ _ D.i1z e) (hl1.at' λo e=>hs₁.extBut _ _ l1z e) hx λh₂ e hs₂ he=>?_);obtain⟨oe,hoe,hce⟩:=he;have hz₂:IsZip h₂ z TI TO .ellipsis:=hs₂ _ _ D.i1z.symm hz₁;have hez:e≠z:=λx=>by subst x;rw[hz₂]at hoe;cases hoe;simp at hce
  exact wpAny_setField_rec hz₂ (by simp) λh₃ _ hs₃=>hE h₃ e (λc o q1 _ q3 _ x=>hs₃.extBut _ _ q1 (hs₂ _ _ q3 (hs₁.extBut _ _ q1 x))) ⟨oe,hs₃.extBut _ _ hez hoe,hce⟩
 |some x=>
  have hy:ys[k2]? =none:=by rcases hend with h|h;rw[hx]at h;cases h;exact h
  refine Zv (mJ (h1.at' λo e=>hs₁.extBut _ _ D.i1z e) (hl1.at' λo e=>hs₁.extBut _ _ l1z e) hx λh₂ h1₂ hs₂=>Zx ?_);have hTO₂:IsPair h₂ TO a b:=hs₂.extBut _ _ D.TOi1 (hs₁.extBut _ _ D.TOz hTO);refine Zv (wpAny_seqItems hTO₂ rfl ?_);refine Zv (wpAny_updateSeq_pair hTO₂ λh₃ hTO₃ hs₃=>?_);refine Zv (wpAny_letGo (Zx ?_));refine Zv (Zv (wpAny_onRaise ?_));show wpAny _ _ (Builtin.SmallTypes.nextOf (.ref i2) >>= _) _ _ _;refine Zv (qQ hh (h2.at' λo e=>hs₃.extBut _ _ D.TOi2.symm (hs₂.extBut _ _ D.i12.symm (hs₁.extBut _ _ D.i2z e))) (hl2.at' λo e=>hs₃.extBut _ _ l2TO (hs₂.extBut _ _ l2i1 (hs₁.extBut _ _ l2z e))) hy λh₄ e hs₄ he=>?_);obtain⟨oe,hoe,hce⟩:=he;have hz₄:IsZip h₄ z TI TO .ellipsis:=hs₄ _ _ D.i2z.symm (hs₃.extBut _ _ D.TOz.symm (hs₂.extBut _ _ D.i1z.symm hz₁));have hez:e≠z:=λx=>by subst x;rw[hz₄]at hoe;cases hoe;simp at hce
  exact wpAny_setField_rec hz₄ (by simp) λh₅ _ hs₅=>hE h₅ e (λc o q1 q2 q3 q4 x=>hs₅.extBut _ _ q1 (hs₄ _ _ q4 (hs₃.extBut _ _ q2 (hs₂.extBut _ _ q3 (hs₁.extBut _ _ q1 x))))) ⟨oe,hs₅.extBut _ _ hez hoe,hce⟩
end
section
variable {prog:Zpr} {w:World} {A:Zar} {E:Value->Zsh->Prop} {s:Zsh}
theorem tV{z TI TO i1 i2 l1 l2:Addr}{c1 c2:Bool}{k1 k2:Nat}{xs ys:Array Value}{x y a b:Value}{Q:Option Value->Zsh->Prop}(D:ZA z TI TO i1 i2)
  (l1z:l1≠z) (l2z:l2≠z) (l2i1:l2≠i1) (l2TO:l2≠TO)
  (hz:IsZip s.heap z TI TO .none) (hTI:IsPair s.heap TI (.ref i1) (.ref i2)) (hTO:IsPair s.heap TO a b)
  (h1:jx c1 s.heap i1 l1 k1) (h2:jx c2 s.heap i2 l2 k2) (hl1:nQ c1 s.heap l1 xs) (hl2:nQ c2 s.heap l2 ys) (hx:xs[k1]? =some x) (hy:ys[k2]? =some y)
  (hQ:∀h',IsZip h' z TI TO (rawInt s.heap.objs.size)->IsPair h' TO x y->jx c1 h' i1 l1 (k1+1)->jx c2 h' i2 l2 (k2+1)->IsPair h' s.heap.objs.size x y->h'.objs.size=s.heap.objs.size+1->
   (∀c o,c≠z->c≠TO->c≠i1->c≠i2->s.heap.get? c=some o->h'.get? c=some o)->Q (some (.ref s.heap.objs.size)) { s with heap:=h'}):
  wpAny (model prog w) A (pyNext (.ref z)) Q E s:=by
 have hT:s.TypeIs (.ref z) "zip":=⟨_,hz,rfl⟩;unfold pyNext;exact Zv (wpAny_attempt (wpAny_callSpecial?_slot (name:=Str.ofString "__next__") hT F.slot_zip_next
  (wpAny_call_entry F.slot_zip_next hT F.entry_zip_next
   (Hn D l1z l2z l2i1 l2TO hz hTI hTO h1 h2 hl1 hl2 hx hy λh' a1 a2 a3 a4 a5 a6 a7=>Zx (hQ h' a1 a2 a3 a4 a5 a6 a7)) (F.args_zip_next_1 _))))
theorem uv{z TI TO i1 i2 l1 l2:Addr}{c1 c2:Bool}{k1 k2:Nat}{xs ys:Array Value}{a b:Value}{Q:Option Value->Zsh->Prop}(hh:A.handled=none)(D:ZA z TI TO i1 i2)
  (l1z:l1≠z) (l2z:l2≠z) (l2i1:l2≠i1) (l2TO:l2≠TO)
  (hz:IsZip s.heap z TI TO .none) (hTI:IsPair s.heap TI (.ref i1) (.ref i2)) (hTO:IsPair s.heap TO a b)
  (h1:jx c1 s.heap i1 l1 k1) (h2:jx c2 s.heap i2 l2 k2) (hl1:nQ c1 s.heap l1 xs) (hl2:nQ c2 s.heap l2 ys) (hend:xs[k1]? =none∨ys[k2]? =none)
  (hQ:∀h',(∀c o,c≠z->c≠TO->c≠i1->c≠i2->s.heap.get? c=some o->h'.get? c=some o)->Q none { s with heap:=h'}):wpAny (model prog w) A (pyNext (.ref z)) Q E s:=by
 have hT:s.TypeIs (.ref z) "zip":=⟨_,hz,rfl⟩;unfold pyNext;refine Zv (wpAny_attempt (wpAny_callSpecial?_slot (name:=Str.ofString "__next__") hT F.slot_zip_next
  (wpAny_call_entry F.slot_zip_next hT F.entry_zip_next (Mv hh D l1z l2z l2i1 l2TO hz hTI hTO h1 h2 hl1 hl2 hend λh' e hk he=>?_) (F.args_zip_next_1 _))))
 obtain⟨o,ho,hc⟩:=he;refine Zv (wpAny_isInstance (T:="StopIteration") (b:=true) ⟨o,ho,hc⟩ isSubtype_stop ?_);exact Zx (hQ _ hk)
def itTy(k:Bool):String:=if k=true then "tuple_iterator" else "list_iterator"
abbrev qR(k:Bool)(l:Addr):Obj:={ cls:=.type (itTy k),data:=.fields #[.ref l,.int 0 0] }
theorem xM{Q:Value->Zsh->Prop}(hl:nQ k s.heap l xs)(hQ:Q (.ref s.heap.objs.size) { s with heap:=s.heap.push (qR k l) }):wpAny (model prog w) A (pyIter (.ref l)) Q E s:=by
 cases k
 .exact wpAny_pyIter_list hl hQ
 .exact wpAny_pyIter_tuple hl hQ
end
abbrev zH2(h:Heap)(c1 c2:Bool)(l1 l2:Addr):Heap:=(h.push (qR c1 l1)).push (qR c2 l2)
abbrev zH3(h:Heap)(c1 c2:Bool)(l1 l2:Addr):Heap:=(zH2 h c1 c2 l1 l2).push { cls:=.type "tuple",data:=.seq #[.ref h.objs.size,.ref (h.push (qR c1 l1)).objs.size] }
abbrev zH4(h:Heap)(c1 c2:Bool)(l1 l2:Addr):Heap:=(zH3 h c1 c2 l1 l2).push { cls:=.type "tuple",data:=.seq #[.none,.none] }
abbrev zH5(h:Heap)(c1 c2:Bool)(l1 l2:Addr):Heap:=(zH4 h c1 c2 l1 l2).push { cls:=.type "zip",data:=.fields #[.none,.bool false,.bool false,.ref (zH2 h c1 c2 l1 l2).objs.size,.ref (zH3 h c1 c2 l1 l2).objs.size] }
theorem Mj(c1 c2:Bool)(l1 l2:Addr)(xs ys:Array Value):
  Meets (Builtin.«zip.__new__» ⟨[.type "zip",.ref l1,.ref l2],[]⟩) (λ_ R s=>nQ c1 s.heap l1 xs/\nQ c2 s.heap l2 ys/\
   R (.ok (.ret (.ref (zH4 s.heap c1 c2 l1 l2).objs.size))) { s with heap:=zH5 s.heap c1 c2 l1 l2}):=
 .of_wp λprog w A R s h=>by
  obtain⟨hp,g,d,tk,os⟩:=s;obtain⟨hl1,hl2,h⟩:=h;have hsub:=sub_zip;have hL1:nQ c1 (Shared.heap ⟨hp,g,d,tk,os⟩) l1 xs:=hl1;have hL2:nQ c2 (Shared.heap ⟨hp.push (qR c1 l1),g,d,tk,os⟩) l2 ys:=hl2.at' λo e=>Zb _ e
  wp_walk using xM hL1,xM hL2
  exact⟨_,rfl,h⟩
section
variable {prog:Zpr} {w:World} {A:Zar} {E:Value->Zsh->Prop} {s:Zsh}
theorem jx.new(k:Bool)(h:Heap)(l:Addr):jx k (h.push (qR k l)) h.objs.size l 0:=by
 cases k
 .exact(⟨qR false l,Zf _ rfl,rfl,rfl⟩:Heap.IsListIter _ _ _ 0)
 .exact(⟨qR true l,Zf _ rfl,rfl,rfl⟩:Heap.IsTupleIter _ _ _ 0)
theorem Ir{Q:Value->Zsh->Prop}(hl1:nQ c1 s.heap l1 xs)(hl2:nQ c2 s.heap l2 ys)
  (h:∀h',IsZip h' (s.heap.objs.size+4) (s.heap.objs.size+2) (s.heap.objs.size+3) .none->IsPair h' (s.heap.objs.size+2) (.ref s.heap.objs.size) (.ref (s.heap.objs.size+1))->
   IsPair h' (s.heap.objs.size+3) .none .none->jx c1 h' s.heap.objs.size l1 0->jx c2 h' (s.heap.objs.size+1) l2 0->h'.objs.size=s.heap.objs.size+5->
   (∀c o,s.heap.get? c=some o->h'.get? c=some o)->Q (.ref (s.heap.objs.size+4)) { s with heap:=h'}):
  wpAny (model prog w) A (call (.type "zip") [.ref l1,.ref l2]) Q E s:=by
 refine callType_new F.called_zip (by decide) (F.typeCall_zip_2 _ _) (F.newCall_zip_2 _ _) (λobj=>F.args_object_init_3 obj _ _) F.entry_zip_new
  (Mj c1 c2 l1 l2 xs ys) ⟨hl1,hl2,?_⟩
 have z1:(s.heap.push (qR c1 l1)).objs.size=s.heap.objs.size+1:=Heap.size_push ..;have z2:(zH2 s.heap c1 c2 l1 l2).objs.size=s.heap.objs.size+2:=by rw[Heap.size_push,z1]
 have z3:(zH3 s.heap c1 c2 l1 l2).objs.size=s.heap.objs.size+3:=by rw[Heap.size_push,z2]
 have z4:(zH4 s.heap c1 c2 l1 l2).objs.size=s.heap.objs.size+4:=by rw[Heap.size_push,z3]
 have z5:(zH5 s.heap c1 c2 l1 l2).objs.size=s.heap.objs.size+5:=by rw[Heap.size_push,z4]
 have g5:(zH5 s.heap c1 c2 l1 l2).get? (zH4 s.heap c1 c2 l1 l2).objs.size=some _:=Zf _ rfl;have g4:(zH5 s.heap c1 c2 l1 l2).get? (zH3 s.heap c1 c2 l1 l2).objs.size=some _:=Zb _ (Zf _ rfl);have g3:(zH5 s.heap c1 c2 l1 l2).get? (zH2 s.heap c1 c2 l1 l2).objs.size=some _:=Zb _ (Zb _ (Zf _ rfl));have g2:jx c2 (zH5 s.heap c1 c2 l1 l2) (s.heap.push (qR c1 l1)).objs.size l2 0:=(jx.new c2 _ l2).at' λo e=>Zb _ (Zb _ (Zb _ e));have g1:jx c1 (zH5 s.heap c1 c2 l1 l2) s.heap.objs.size l1 0:=(jx.new c1 _ l1).at' λo e=>Zb _ (Zb _ (Zb _ (Zb _ e)));show _/\_;rw[z2,z3,z4]at g5;rw[z1,z2]at g3;rw[z3]at g4;rw[z1]at g2;rw[z4];exact⟨⟨_,g5,rfl⟩,h _ g5 g3 g4 g1 g2 z5 λc o x=>
  Zb _ (Zb _ (Zb _ (Zb _ (Zb _ x))))⟩
end
def SqB(c:Bool)(K:Zw)(H:Hp)(a:Addr)(xs:List V):Prop:=if c=true then SqT K H a xs else SqL K H a xs
section
variable {X:Cx} {pins:List (Addr×Obj)} {σ:L2.St} {H H':Hp} {s:Zsh} {h':Heap}
theorem Inv.sqB(I:Inv X pins σ H s)(h:SqB c X.K H a xs):∃its:List Value,bM xs its/\nQ c s.heap a its.toArray/\xs.length<=sizeLine:=by
 cases c
 .obtain⟨its,r,p,hz⟩:=I.list (show SqL X.K H a xs from h);exact⟨its,r,p.isList,hz⟩
 .obtain⟨its,r,p,hz⟩:=I.tuple (show SqT X.K H a xs from h);exact⟨its,r,p,hz⟩
theorem Inv.sqB_inj(I:Inv X pins σ H s)(h:SqB c X.K H a xs)(h':SqB c X.K H a ys):xs=ys:=by
 cases c
 .exact I.list_inj (show SqL X.K H a xs from h) h'
 .exact I.tuple_inj (show SqT X.K H a xs from h) h'
theorem Inv.sqB_ne(I:Inv X pins σ H s)(h:SqB c X.K H a xs)(f:mL X pins H b):a≠b:=by
 have key:(∃o,H a=some o)∨∃o,X.K.lookup a=some o:=by
  cases c
  .rcases(show SqL X.K H a xs from h)with(h|⟨o,h⟩)|⟨o,_,_,h,_⟩
   .exact .inl ⟨_,h⟩
   .exact .inl ⟨_,h⟩
   .exact .inr ⟨_,h⟩
  .rcases(show SqT X.K H a xs from h)with(h|⟨o,h⟩)|⟨o,_,_,h,_⟩
   .exact .inl ⟨_,h⟩
   .exact .inl ⟨_,h⟩
   .exact .inr ⟨_,h⟩
 intro z;subst z
 rcases key with⟨o,e⟩|⟨o,e⟩
 .rw[f.1]at e;cases e
 .have e':=I.ok.mod.kin a o e
  rcases f.2.2.2.1 with q|q
  .exact I.ok.noex a o e' q
  .exact absurd (Zc (Ze (I.ok.bs a o e').1) q) (Nat.lt_irrefl _)
theorem Inv.turnedL{t':Nat}{fp:List Addr}(I:Inv X pins σ H s)(k:∀b o,b∉fp->s.heap.get? b=some o->h'.get? b=some o)(hf:∀b∈fp,mL X pins H b):Inv X pins σ H { s with heap:=h',toks:=t'}:=by
 have nit:∀b u,H b=some u->b∉fp:=λb u e z=>by rw[(hf b z).1]at e;cases e
 refine I.step (g':=s.gens) (d':=s.drawn) (ch:=fp) (λb hb=>?_) (λb o _ _ hc e _=>k b o hc e) (λb o _ _ hc e _=>⟨o.slots,k b o hc e⟩) (λ_ _ _ _ n=>n)
  (λb o hc e=>⟨o,k b o hc e⟩) (λ_ _ e=>e) (λ_ _ _ e=>e) (λb ps e=>⟨#[],by rw[e];simp⟩) (λm hm=>?_) (λb u e=>?_) I.bare.again
 .obtain⟨f0,f1,f2,f3,f4,f5⟩:=hf b hb;exact⟨f3,f1,f4,f5⟩
 .obtain⟨o,es,ep,ho,r⟩:=hm;exact⟨o,es,ep,k _ o (λz=>(hf _ z).2.1 rfl) ho,r⟩
 .refine(I.hok b u e).stay (λc v hc q=>k c v ?_ q) (λ_ q=>q) λ_ _ q=>q
  rcases hc with z|z
  .rw[z];exact nit b u e
  .exact nit c _ z
end
def Itz(K:Zw)(c1 c2:Bool)(a1 a2:Addr):It:=
 ⟨λi H=>(∃xs x,SqB c1 K H a1 xs/\xs[i]? =some x)/\∃ys y,SqB c2 K H a2 ys/\ys[i]? =some y,
  λi H v H'=>∃p x y,v= .ref p/\H p=none/\H'=upd H p (.tup [x,y])/\(∀xs,SqB c1 K H a1 xs->xs[i]? =some x)/\∀ys,SqB c2 K H a2 ys->ys[i]? =some y,
  λi H=>∃xs ys,SqB c1 K H a1 xs/\SqB c2 K H a2 ys/\(xs.length<=i∨ys.length<=i)⟩
def ZSt(c1 c2:Bool)(z TI TO i1 i2 a1 a2:Addr)(i:Nat)(h:Heap):Prop:=
 IsZip h z TI TO .none/\IsPair h TI (.ref i1) (.ref i2)/\(∃a b,IsPair h TO a b)/\jx c1 h i1 a1 i/\jx c2 h i2 a2 i
theorem Ml{h:Heap}{o u:Obj}{b:Addr}(e:(h.push o).get? b=some u)(hb:b≠h.objs.size):h.get? b=some u:=by
 unfold Heap.get? at e ⊢;have hp:(h.push o).objs[b]? =h.objs[b]? :=by
  show(h.objs.push o)[b]? =h.objs[b]?;rw[Array.getElem?_push,if_neg hb]
 rw[hp]at e;exact e
theorem Ma{P:Zpr}{w:World}{K:Zw}{elts:List Expr}{kk:Nat}{pos:Pos}(c1 c2:Bool)(z TI TO i1 i2 a1 a2:Addr)(D:ZA z TI TO i1 i2):
  sG P w K (.Tuple elts kk pos) (Itz K c1 c2 a1 a2) [z,TI,TO,i1,i2] z (ZSt c1 c2 z TI TO i1 i2 a1 a2) where
 mem:=by simp
 obj:=λi h st b hb=>by
  obtain⟨hz,hTI,⟨a,b',hTO⟩,h1,h2⟩:=st;simp only[Zi,ZF,or_false]at hb
  rcases hb with rfl|rfl|rfl|rfl|rfl
  .exact⟨_,hz,λv q=>by cases q⟩
  .exact⟨_,hTI,λv q=>by cases q⟩
  .exact⟨_,hTO,λv q=>by cases q⟩
  .obtain⟨o,e,d,_⟩:=h1.obj;exact⟨o,e,d⟩
  .obtain⟨o,e,d,_⟩:=h2.obj;exact⟨o,e,d⟩
 keep:=λi h h' st k=>by
  obtain⟨hz,hTI,⟨a,b',hTO⟩,h1,h2⟩:=st;exact⟨k z (by simp) _ hz,k TI (by simp) _ hTI,⟨a,b',k TO (by simp) _ hTO⟩,h1.at' λo e=>k i1 (by simp) o e,h2.at' λo e=>k i2 (by simp) o e⟩
 item:=by
  intro X hP hw hK hc i pins s σ H E I hf st hg;subst hP hw hK;obtain⟨hz,hTI,⟨a,b',hTO⟩,h1,h2⟩:=st;obtain⟨⟨xs,x,hx,ex⟩,ys,y,hy,ey⟩:=hg;obtain⟨its1,r1,p1,z1⟩:=I.sqB hx;obtain⟨its2,r2,p2,z2⟩:=I.sqB hy;obtain⟨u1,eu1,ru1⟩:=r1.get ex;obtain⟨u2,eu2,ru2⟩:=r2.get ey;have fz:=hf z (by simp)
  have fTO:=hf TO (by simp)
  have fi1:=hf i1 (by simp)
  have ltz:z<s.heap.objs.size:=Ze hz;have ltTI:TI<s.heap.objs.size:=Ze hTI;have ltTO:TO<s.heap.objs.size:=Ze hTO;have lti1:i1<s.heap.objs.size:=let⟨_,e,_⟩:=h1.obj;Ze e;have lti2:i2<s.heap.objs.size:=let⟨_,e,_⟩:=h2.obj;Ze e;refine tV D (I.sqB_ne hx fz) (I.sqB_ne hy fz) (I.sqB_ne hy fi1) (I.sqB_ne hy fTO) hz hTI hTO h1 h2 p1 p2 (x:=u1) (y:=u2) (by simpa using eu1) (by simpa using eu2) λh' q1 q2 q3 q4 q5 q6 q7=>⟨_,rfl,?_⟩
  refine wpAny_letOwnedTupleGo_zip q1 λh2' y1 y2=>?_;have hpn:H s.heap.objs.size=none:=I.hok.fresh (Zg _);have IA:Inv X pins σ (upd H s.heap.objs.size (.tup [x,y])) { s with heap:=s.heap.push { cls:=.type "tuple",data:=.seq #[u1,u2] } }:=
   I.laid (t':=s.toks) (o:=.tup [x,y]) (λb ob q=>Zb _ q) (Zg _) ⟨by show 2<=sizeLine;decide,[u1,u2],.cons ru1 (.cons ru2 .nil),IsTup.new _ _⟩
  have hne:∀b∈[z,TI,TO,i1,i2],b≠s.heap.objs.size:=λb hb=>by
   simp only[Zi,ZF,or_false]at hb
   rcases hb with rfl|rfl|rfl|rfl|rfl
   .exact Zk ltz
   .exact Zk ltTI
   .exact Zk ltTO
   .exact Zk lti1
   .exact Zk lti2
  have hf':∀b∈[z,TI,TO,i1,i2],mL X pins (upd H s.heap.objs.size (.tup [x,y])) b:=λb hb=>by
   obtain⟨f0,f1⟩:=hf b hb;exact⟨by rw[aV (hne b hb)];exact f0,f1⟩
  have IB:Inv X pins σ (upd H s.heap.objs.size (.tup [x,y])) { s with heap:=h2'}:=by
   refine Inv.turnedL (s:={ s with heap:=s.heap.push { cls:=.type "tuple",data:=.seq #[u1,u2] } }) (t':=s.toks) (fp:=[z,TI,TO,i1,i2]) IA (λb o hb e=>?_) hf'
   simp only[Zi,ZF,or_false,not_or]at hb;obtain⟨b1,b2,b3,b4,b5⟩:=hb;by_cases hs:b=s.heap.objs.size
   .subst hs;have e':some ({ cls:=.type "tuple",data:=.seq #[u1,u2] }:Obj)=some o:=(Zf s.heap rfl).symm.trans e;cases e';exact y2.extBut _ _ b1 q5
   .exact y2.extBut _ _ b1 (q7 b o b1 b3 b4 b5 (Ml e hs))
  refine⟨.ref s.heap.objs.size,_,IB,rfl,⟨_,x,y,rfl,hpn,rfl,λzs hzs=>by rw[I.sqB_inj hzs hx];exact ex,λzs hzs=>by rw[I.sqB_inj hzs hy];exact ey⟩,?_,λb hb=>(hf' b hb).1⟩
  exact⟨y1,y2.extBut _ _ D.TIz (q7 _ _ D.TIz D.TITO D.TIi1 D.TIi2 hTI),⟨_,_,y2.extBut _ _ D.TOz q2⟩,q3.at' λo e=>y2.extBut _ _ D.i1z e,q4.at' λo e=>y2.extBut _ _ D.i2z e⟩
 done:=by
  intro X hP hw hK hc i pins s σ H E I hf st hg;subst hP hw hK;obtain⟨hz,hTI,⟨a,b',hTO⟩,h1,h2⟩:=st;obtain⟨xs,ys,hx,hy,hend⟩:=hg;obtain⟨its1,r1,p1,z1⟩:=I.sqB hx;obtain⟨its2,r2,p2,z2⟩:=I.sqB hy;have fz:=hf z (by simp)
  have fTO:=hf TO (by simp)
  have fi1:=hf i1 (by simp)
  have l1:=r1.length;have l2:=r2.length;refine uv (I.ok.hd hc) D (I.sqB_ne hx fz) (I.sqB_ne hy fz) (I.sqB_ne hy fi1) (I.sqB_ne hy fTO) hz hTI hTO h1 h2 p1 p2 ?_ λh' q=>⟨rfl,I.turnedL (t':=s.toks) (fp:=[z,TI,TO,i1,i2]) (λb o hb e=>?_) hf⟩
  .rcases hend with h|h
   .exact .inl (by simp;lia)
   .exact .inr (by simp;lia)
  .simp only[Zi,ZF,or_false,not_or]at hb;exact q b o hb.1 hb.2.2.1 hb.2.2.2.1 hb.2.2.2.2 e
 self:=λ_ _ _ _ _ st h=>wpAny_pyIter_zip st.1 h
def iZip(K:Zw)(ta:TA):TI:=λσ H R=>ta σ H λvs H1=>∃a1 a2 c1 c2,vs=[.ref a1,.ref a2]/\(∃xs,SqB c1 K H1 a1 xs)/\(∃ys,SqB c2 K H1 a2 ys)/\R (Itz K c1 c2 a1 a2) H1
section
variable {X:Cx}
theorem Vm{a b:Expr}{ta:TA}{p pos p':Pos}{elts:List Expr}{kk:Nat}(hg:Gl X "zip")(hm:X.mg "zip"=none)(ha:PA X [a,b] ta)(hs:starEach [a,b] X.env=[(false,eval a X.env),(false,eval b X.env)]:=by rfl)(hs2:starEach [b] X.env=[(false,eval b X.env)]:=by rfl):
  PI X (.Tuple elts kk p') (.Call (.Name "zip" p) [a,b] [] pos) (iZip X.K ta):=by
 intro pins s σ H R I h;refine Call_ (oU I hg hm boot_zip (PyProof.Rows.callWith_type1 (thn (ha pos pins s σ H _ I h) λus s1 ⟨vs,H1,I1,r1,q1⟩=>?_) (by rw[hs,hs2]) (by rw[hs2];rfl)))
 obtain⟨a1,a2,c1,c2,rfl,⟨xs,hx⟩,⟨ys,hy⟩,q⟩:=q1;obtain⟨u,v,rfl,ru,rv⟩:=vals2 r1;cases ru;cases rv;obtain⟨its1,_,p1,_⟩:=I1.sqB hx;obtain⟨its2,_,p2,_⟩:=I1.sqB hy;refine Ir p1 p2 λh' g1 g2 g3 g4 g5 g6 g7=>?_;refine wpAny_pyIter_zip g1 ?_;refine⟨_,[s1.heap.objs.size+4,s1.heap.objs.size+2,s1.heap.objs.size+3,s1.heap.objs.size,s1.heap.objs.size+1],_,_,H1,rfl,I1.kept (t':=s1.toks) g7,Ma c1 c2 _ _ _ _ _ a1 a2 ?_,⟨g1,g2,⟨_,_,g3⟩,g4,g5⟩,λb hb=>?_,q⟩
 .constructor<;>first|exact Zk (by lia)|exact Nat.ne_of_gt (by lia)
 .have hb':s1.heap.objs.size<=b:=by
   simp only[Zi,ZF,or_false]at hb
   rcases hb with q|q|q|q|q<;>rw[q]<;>first|exact Nat.le_add_right _ _|exact Zg _
  exact I1.fpOk hb' (I1.hok.fresh hb')
end
end L2
namespace L3
open PySem PySem.Spec PyProof.Rows L2
def dB:D->Mu->Option (List D)
 | .tup ds,_=>some ds
 | .lst ds,_=>some ds
 | .ro ds,_=>some ds
 | .cell n,μ=>match μ[n]? with
  |some (some ds)=>some ds
  |_=>none
 |_,_=>none
def EY:D->Bool
 | .tup _=>true
 |_=>false
section
variable {K:Zw} {tb:List Addr}
theorem kW(ok:WOk K tb W)(h:Den K tb W x v)(e:dB x W.mu=some ds):∃a xs,v= .ref a/\SqB (EY x) K W.H a xs/\dN K tb W ds xs:=by
 cases x with
 |tup es=>cases (e);obtain⟨a,xs,rfl,q,r⟩:=jP h;exact⟨a,xs,rfl,SqT.fz q,r⟩
 |lst es=>cases (e);obtain⟨a,xs,rfl,q,r⟩:=ph h;exact⟨a,xs,rfl,SqL.fz q,r⟩
 |ro es=>cases (e);obtain⟨a,xs,rfl,q,r⟩:=zR h;exact⟨a,xs,rfl,SqL.fz q,r⟩
 |cell n=>
  obtain⟨a,rfl,q⟩:=jB h;have e':(match W.mu[n]? with|some (some ds)=>some ds|_=>none)=some ds:=e
  cases e2:W.mu[n]? with
  |none=>rw[e2]at e';cases (e')
  |some o=>
   cases o with
   |none=>rw[e2]at e';cases (e')
   |some es=>
    rw[e2]at e';cases (e');obtain⟨xs,e3,r⟩:=ok.cont n a ds q e2;exact⟨a,xs,rfl,SqL.of e3,r⟩
 |_=>cases (e)
theorem SqB.or(h:SqB c K H a xs):SqL K H a xs∨SqT K H a xs:=by
 cases c
 .exact .inl h
 .exact .inr h
end
theorem Sq{K:Zw}{tb:List Addr}{W:Wd}{ds:List D}{xs:List V}{i:Int}{d:D}(r:dN K tb W ds xs)(h:atI ds i=some d):∃v,atI xs i=some v/\Den K tb W d v:=by
 unfold atI at h ⊢;rw[<-aG.length r];cases e:ixN ds.length i with
 |none=>rw[e]at h;cases h
 |some j=>
  rw[e]at h;exact aG.get r h
def oIx:O2:=λx y μ=>match y with
 | .int i=>(dB x μ).bind λds=>(atI ds i).map λd=>(d,μ)
 |_=>none
def bU:O1':=λx μ=>match x with
 | .str y=>if y.length<=sizeLine then some (.int y.length,μ)else none
 |_=>(dB x μ).map λds=>(.int ds.length,μ)
def pL:O1':=λx μ=>match x with
 | .int i=>some (.int (if i<0 then -i else i),μ)
 |_=>none
def iy:O1':=λx μ=>match x with
 | .int i=>some (.int (-i),μ)
 |_=>none
def qd(op:O2):ON:=λxs μ=>match xs with
 | [x,y]=>op x y μ
 |_=>none
theorem vB(h:qd op xs μ=some r):∃x y,xs=[x,y]/\op x y μ=some r:=by
 unfold qd at h;split at h
 .exact⟨_,_,rfl,h⟩
 .cases h
def uQ:O2:=λx y μ=>match x,y with
 | .int i,.int j=>some (.int (if j<i then j else i),μ)
 |_,_=>none
def JR:O2:=λx y μ=>match x,y with
 | .int i,.int j=>some (.int (if j>i then j else i),μ)
 |_,_=>none
def lK:ON:=λxs μ=>match xs with
 | [x]=>(dB x μ).map λds=>(.tup ds,μ)
 |_=>none
def wO(T:String):D->Option Bool
 | .non=>some false
 | .bl _=>some (T=="bool"||T=="int")
 | .int _=>some (T=="int")
 | .str _=>some (T=="str")
 | .tup _=>some (T=="tuple")
 | .lst _=>some (T=="list")
 | .ro _=>some (T=="list")
 | .dic _=>some (T=="dict")
 | .cell _=>none
def gF(T:String):O1':=λx μ=>match x with
 | .cell n=>match μ[n]? with
  |some (some _)=>some (.bl (T=="list"),μ)
  |_=>none
 |_=>(wO T x).map λk=>(.bl k,μ)
section
variable {X:Cx} {tb:List Addr} {a b e:Expr} {fa fb f:EF} {fs:AF} {p pos:Pos}
theorem bj(ha:PD X tb a fa)(hb:PD X tb b fb)(hs:Gx b:=by intro _ _;rfl):PD X tb (.Subscript a b pos) (M2 fa fb oIx):=
 DY (λta tb' ha hb=>Yu Ux ha hb hs) (λW x y v u d μ' Q ok dx dy ho h=>by
  cases y with
  |int i=>
   obtain⟨ds,e1,e2⟩:=Zbs (show((dB x W.mu).bind λds=>(atI ds i).map λd=>(d,W.mu))=some (d,μ')from ho);obtain⟨d0,e3,e4⟩:=Zp.mp e2;cases e4;rw[bF dy];obtain⟨a,xs,rfl,q,r⟩:=kW ok dx e1;obtain⟨v,ev,dv⟩:=Sq r e3
   rcases SqB.or q with q|q
   .exact .inl ⟨a,xs,i,v,rfl,rfl,q,ev,put ok h dv⟩
   .exact .inr (.inl ⟨a,xs,i,v,rfl,rfl,q,ev,put ok h dv⟩)
  |_=>cases ho) ha hb
theorem iu(ha:PD X tb a fa):PD X tb (.UnaryOp .USub a pos) (M1 fa iy):=
 VR (λta ha=>YL Vc ha) (λW x v d μ' Q ok dx ho h=>by
  cases x with
  |int i=>cases ho;rw[bF dx];exact⟨i,rfl,put ok h gk⟩
  |_=>cases ho) ha
def aO(op:O1'):ON:=λxs μ=>match xs with
 | [x]=>op x μ
 |_=>none
theorem rF(h:aO op xs μ=some r):∃x,xs=[x]/\op x μ=some r:=by
 unfold aO at h;split at h
 .exact⟨_,rfl,h⟩
 .cases h
theorem zT(h:lK xs μ=some r):∃x,xs=[x]/\lK [x] μ=some r:=by
 unfold lK at h;split at h
 .exact⟨_,rfl,h⟩
 .cases h
theorem cU(hm:X.mg "len"=none)(ha:PAD X tb [a] fs)(hg:Gl X "len":=by rfl)(he:starEach [a] X.env=(false,eval a X.env)::starEach [] X.env:=by rfl):PD X tb (.Call (.Name "len" p) [a] [] pos) (MC fs (aO bU)):=
 Ak (λta ha=>nZ (yz.or yI) hg hm PySem.boot_len ha (by decide) (by decide) he (by rfl)) (λW xs vs d μ' Q ok r ho h=>by
  obtain⟨x,rfl,ho⟩:=rF ho;obtain⟨v,rfl,dv⟩:=aG.one r;have gen:∀ds,dB x W.mu=some ds->some (D.int ds.length,W.mu)=some (d,μ')->((∃p ys,[v]=[V.ref p]/\(SqL X.K W.H p ys∨SqT X.K W.H p ys)/\Q (.int ys.length) W.H)∨∃z,[v]=[V.str z]/\z.length<=sizeLine/\Q (.int z.length) W.H):=λds e1 e2=>by
   cases e2;obtain⟨a,xs,e,q,r⟩:=kW ok dv e1;exact Or.inl ⟨a,xs,by rw[e],SqB.or q,by rw[<-aG.length r];exact put ok h gk⟩
  cases x with
  |str y=>
   have ho':(if y.length<=sizeLine then some (D.int y.length,W.mu)else none)=some (d,μ'):=ho;split at ho'
   .rename_i hz;cases ho';rw[nG dv];exact .inr ⟨y,rfl,hz,put ok h gk⟩
   .cases ho'
  |tup ds=>exact gen ds rfl ho
  |lst ds=>exact gen ds rfl ho
  |ro ds=>exact gen ds rfl ho
  |cell n=>
   obtain⟨ds,e1,e2⟩:=Zp.mp (show(dB (.cell n) W.mu).map (λds=>(D.int ds.length,W.mu))=some (d,μ')from ho);exact gen ds e1 (congrArg some e2)
  |_=>cases ho) ha
theorem tW(hm:X.mg "abs"=none)(ha:PAD X tb [a] fs)(hg:Gl X "abs":=by rfl)(he:starEach [a] X.env=(false,eval a X.env)::starEach [] X.env:=by rfl):PD X tb (.Call (.Name "abs" p) [a] [] pos) (MC fs (aO pL)):=
 Ak (λta ha=>nZ Nh hg hm PyProof.Rows.boot_abs ha (by decide) (by decide) he (by rfl)) (λW xs vs d μ' Q ok r ho h=>by
  obtain⟨x,rfl,ho⟩:=rF ho;obtain⟨v,rfl,dv⟩:=aG.one r;cases x with
  |int i=>cases ho;rw[bF dv];exact⟨i,rfl,put ok h gk⟩
  |_=>cases ho) ha
theorem Qs(hc:X.calm=true)(hm:X.mg "min"=none)(ha:PAD X tb [a,b] fs)(hg:Gl X "min":=by rfl)(he:starEach [a,b] X.env=(false,eval a X.env)::starEach [b] X.env:=by rfl)(hpl:(backTo pos (starEach [b] X.env)).any (·.1)=false:=by rfl):PD X tb (.Call (.Name "min" p) [a,b] [] pos) (MC fs (qd uQ)):=
 Ak (λta ha=>nZ (Hw hc) hg hm PyProof.Rows.boot_min ha (by decide) (by decide) he hpl) (λW xs vs d μ' Q ok r ho h=>by
  obtain⟨x,y,rfl,ho⟩:=vB ho;obtain⟨u,v,rfl,du,dv⟩:=aG.two r;cases x with
  |int i=>
   cases y with
   |int j=>
    cases ho;rw[bF du,bF dv];exact⟨i,j,rfl,put ok h gk⟩
   |_=>cases ho
  |_=>cases ho) ha
theorem Rg(hc:X.calm=true)(hm:X.mg "max"=none)(ha:PAD X tb [a,b] fs)(hg:Gl X "max":=by rfl)(he:starEach [a,b] X.env=(false,eval a X.env)::starEach [b] X.env:=by rfl)(hpl:(backTo pos (starEach [b] X.env)).any (·.1)=false:=by rfl):PD X tb (.Call (.Name "max" p) [a,b] [] pos) (MC fs (qd JR)):=
 Ak (λta ha=>nZ (Ho hc) hg hm PyProof.Rows.boot_max ha (by decide) (by decide) he hpl) (λW xs vs d μ' Q ok r ho h=>by
  obtain⟨x,y,rfl,ho⟩:=vB ho;obtain⟨u,v,rfl,du,dv⟩:=aG.two r;cases x with
  |int i=>
   cases y with
   |int j=>
    cases ho;rw[bF du,bF dv];exact⟨i,j,rfl,put ok h gk⟩
   |_=>cases ho
  |_=>cases ho) ha
theorem pO(hm:X.mg "tuple"=none)(ha:PAD X tb [a] fs)(hg:Gl X "tuple":=by rfl)(he:starEach [a] X.env=(false,eval a X.env)::starEach [] X.env:=by rfl):PD X tb (.Call (.Name "tuple" p) [a] [] pos) (MC fs lK):=
 Ak (λta ha=>tK wR hg hm ZL ha (by decide) (by decide) he (by rfl)) (λW xs vs d μ' Q ok r ho h=>by
  obtain⟨x,rfl,ho⟩:=zT ho;obtain⟨v,rfl,dv⟩:=aG.one r;obtain⟨ds,e1,e2⟩:=Zp.mp (show(dB x W.mu).map (λds=>(D.tup ds,W.mu))=some (d,μ')from ho);cases e2;by_cases ht:∃es,x= .tup es
  .obtain⟨es,rfl⟩:=ht;cases e1;obtain⟨a,xs,rfl,q,r⟩:=jP dv;exact⟨a,xs,rfl,.inr ⟨SqT.fz q,put ok h dv⟩⟩
  .obtain⟨a,xs,rfl,q,r⟩:=kW ok dv e1;have hf:EY x=false:=by cases x<;>first|rfl|exact absurd ⟨_,rfl⟩ ht
   rw[hf]at q;exact⟨a,xs,rfl,.inl ⟨q,λl hl=>oZ ok h r hl⟩⟩) ha
theorem jl(hm:X.mg "isinstance"=none)(hmT:X.mg T=none)(hT:bootBuiltins T=some (.type tn))(hmem:tn∈Rj)(ha:PD X tb a fa)(hg:Gl X "isinstance":=by rfl)(hgT:Gl X T:=by rfl)(hn:T≠"__name__":=by decide)(hdb:(T==("__debug__":Str))=false:=by decide)
  (hs:starEach [a,.Name T pt] X.env=(false,eval a X.env)::starEach [.Name T pt] X.env:=by rfl):PD X tb (.Call (.Name "isinstance" p) [a,.Name T pt] [] pos) (M1 fa (gF tn)):=
 gW (nZ MP hg hm PyProof.Rows.boot_isinstance (sH ha (sH (Qf hgT hmT hT (v:=.ty tn) rfl hn hdb) yp) hs) (by decide) (by decide) hs (by rfl)) λσ H Q zq2=>by
  obtain⟨W,δ,d,μ',e,ok,hd,hf,h⟩:=zq2;unfold M1 at hf;obtain⟨⟨x,μ1⟩,e1,e2⟩:=Zbs hf;refine⟨W,δ,x,μ1,e,ok,hd,e1,λv W1 ok1 l1 m1 d1=>?_⟩;have fin:∀k,Vb X.K tn v W1.H k->some (D.bl k,μ1)=some (d,μ')->∃x T k,[v,V.ty tn]=[x,.ty T]/\T∈Rj/\Vb X.K T x W1.H k/\Q (.bl k) W1.H:=λk hk e=>by
   cases e;exact⟨v,tn,k,rfl,hmem,hk,h _ W1 ok1 l1 m1 gK⟩
  cases x with
  |non=>rw[rM d1]at fin ⊢;exact fin _ rfl e2
  |bl b=>rw[lN d1]at fin ⊢;exact fin _ rfl e2
  |int b=>rw[bF d1]at fin ⊢;exact fin _ rfl e2
  |str b=>rw[nG d1]at fin ⊢;exact fin _ rfl e2
  |tup ds=>obtain⟨a,xs,rfl,q,r⟩:=jP d1;exact fin _ (.inr (.inl ⟨rfl,xs,SqT.fz q⟩)) e2
  |lst ds=>obtain⟨a,xs,rfl,q,r⟩:=ph d1;exact fin _ (.inl ⟨rfl,xs,SqL.fz q⟩) e2
  |ro ds=>obtain⟨a,xs,rfl,q,r⟩:=zR d1;exact fin _ (.inl ⟨rfl,xs,SqL.fz q⟩) e2
  |dic ds=>obtain⟨a,xs,rfl,q,r⟩:=Uy d1;exact fin _ (.inr (.inr ⟨rfl,xs,(gw q).1⟩)) e2
  |cell n=>
   have e2':(match μ1[n]? with|some (some _)=>some (D.bl (tn=="list"),μ1)|_=>none)=some (d,μ'):=e2
   obtain⟨a,rfl,q⟩:=jB d1;cases e4:μ1[n]? with
   |none=>rw[e4]at e2';cases e2'
   |some o=>
    cases o with
    |none=>rw[e4]at e2';cases e2'
    |some ds=>
     rw[e4]at e2';obtain⟨xs,ex,_⟩:=ok1.cont n a ds q (by rw[m1];exact e4)
     exact fin _ (.inl ⟨rfl,xs,SqL.of ex⟩) e2'
def jc(μ:Mu)(n:Nat):Bool:=match μ[n]? with
 |some (some _)=>true
 |_=>false
theorem Cv(h:jc μ n=true):∃ds,μ[n]? =some (some ds):=by
 unfold jc at h;split at h
 .exact⟨_,by assumption⟩
 .cases h
def gM(fo:EF)(fs:AF):EF:=λδ μ=>(fo δ μ).bind λr=>(fs δ r.2).bind λq=>match r.1,q.1 with
 | .cell n,[y]=>match q.2[n]? with
  |some (some ds)=>if jc r.2 n=true/\ds.length<sizeLine then some (.non,q.2.set n (some (ds++[y])))else none
  |_=>none
 |_,_=>none
theorem dY(ho:PD X tb o fo)(ha:PAD X tb [e] fs)
  (hbase:attributeBase o "append" X.env (eval o X.env)=eval o X.env:=by rfl)
  (hfew:((backTo cpos (starEach [e] X.env)).all (λx=>!x.1)&&(backToKw cpos (keywordEach [] X.env)).all (λx=>x.1.isSome)
   &&decide ([e].length+([]:List Keyword).length+(if([]:List Keyword).isEmpty then 0 else 1)<30))=true:=by rfl)
  (hline:(apos.endLine==cpos.line)=true:=by rfl) (hs:starEach [e] X.env=(false,eval e X.env)::starEach [] X.env:=by rfl):PD X tb (.Call (.Attribute o "append" apos) [e] [] cpos) (gM fo fs):=
 gW (Tz PySem.F.plainAttrs_list PySem.F.slot_list_append PySem.F.type_list_append IV ho ha hbase hfew hline hs (by rfl)) λσ H Q zq3=>by
  obtain⟨W,δ,d,μ',e,ok,hd,hf,h⟩:=zq3;unfold gM at hf;obtain⟨⟨x,μ1⟩,e1,hf⟩:=Zbs hf;obtain⟨⟨ys,μ2⟩,e2,hf⟩:=Zbs hf;refine⟨W,δ,x,μ1,e,ok,hd,e1,λv W1 ok1 l1 m1 d1=>?_⟩
  match x,ys,e1,e2,hf,d1 with
  | .cell n,[y],e1,e2,hf,d1=>
   have hf':(match μ2[n]? with|some (some ds)=>if jc μ1 n=true/\ds.length<sizeLine then some (D.non,μ2.set n (some (ds++[y])))else none|_=>none)=some (d,μ'):=hf
   cases e4:μ2[n]? with
   |none=>rw[e4]at hf';cases hf'
   |some oo=>
    cases oo with
    |none=>rw[e4]at hf';cases hf'
    |some ds=>
     rw[e4]at hf';have hf'':(if jc μ1 n=true/\ds.length<sizeLine then some (D.non,μ2.set n (some (ds++[y])))else none)=some (d,μ'):=hf';split at hf''
     .rename_i hz;cases hf'';obtain⟨a,rfl,q⟩:=jB d1;obtain⟨ds0,e5⟩:=Cv hz.1;obtain⟨xs0,ex0,_⟩:=ok1.cont n a ds0 q (by rw[m1];exact e5)
      refine⟨.inl ⟨rfl,xs0,SqL.of ex0⟩,W1,δ,[y],μ2,rfl,ok1,hd.mono' l1,(by rw[m1];exact e2),λvs W2 ok2 l2 m2 d2=>?_⟩
      obtain⟨u,rfl,du⟩:=aG.one d2;have q2:=l2.ad _ _ q;have e6:W2.mu[n]? =some (some ds):=by rw[m2];exact e4
      obtain⟨xs,ex,r⟩:=ok2.cont n a ds q2 e6;refine⟨a,xs,u,rfl,rfl,ex,by rw[<-aG.length r];exact hz.2,?_⟩
      obtain⟨ok3,l3⟩:=ok2.write q2 e6 (aG.append r (aG.cons du aG.nil));exact h .non _ ok3 ((l1.trans l2).trans l3) (by rw[<-m2]) uH
     .cases hf''
def Gd(fo:EF):EF:=λδ μ=>(fo δ μ).bind λr=>match r.1 with
 | .cell n=>match r.2[n]? with
  |some (some (y::ds))=>some (y,r.2.set n (some ds))
  |_=>none
 |_=>none
theorem QF{j}(ho:PD X tb o fo)
  (hbase:attributeBase o "pop" X.env (eval o X.env)=eval o X.env:=by rfl)
  (hfew:((backTo cpos (starEach [.Constant (.int 0) j p0] X.env)).all (λx=>!x.1)&&(backToKw cpos (keywordEach [] X.env)).all (λx=>x.1.isSome)
   &&decide ([Expr.Constant (.int 0) j p0].length+([]:List Keyword).length+(if([]:List Keyword).isEmpty then 0 else 1)<30))=true:=by rfl)
  (hline:(apos.endLine==cpos.line)=true:=by rfl):PD X tb (.Call (.Attribute o "pop" apos) [.Constant (.int 0) j p0] [] cpos) (Gd fo):=
 gW (Tz PySem.F.plainAttrs_list PySem.F.slot_list_pop PySem.F.type_list_pop Ny ho (sH Lh yp) hbase hfew hline (by rfl) (by rfl)) λσ H Q zq4=>by
  obtain⟨W,δ,d,μ',e,ok,hd,hf,h⟩:=zq4;unfold Gd at hf;obtain⟨⟨x,μ1⟩,e1,hf⟩:=Zbs hf;refine⟨W,δ,x,μ1,e,ok,hd,e1,λv W1 ok1 l1 m1 d1=>?_⟩;cases x with
  |cell n=>
   have hf':(match μ1[n]? with|some (some (y::ds))=>some (y,μ1.set n (some ds))|_=>none)=some (d,μ'):=hf
   cases e4:μ1[n]? with
   |none=>rw[e4]at hf';cases (hf')
   |some oo=>
    match oo,e4 with
    |none,e4=>rw[e4]at hf';cases (hf')
    |some [],e4=>rw[e4]at hf';cases (hf')
    |some (y::ds),e4=>
     rw[e4]at hf';have hf'':some (y,μ1.set n (some ds))=some (d,μ'):=hf';cases (hf'');obtain⟨a,rfl,q⟩:=jB d1;have e6:W1.mu[n]? =some (some (d::ds)):=by rw[m1];exact e4
     obtain⟨xs,ex,r⟩:=ok1.cont n a _ q e6;have r':aG _ _ _ _ _:=r;unfold aG at r';obtain⟨u,us,rfl,du,r2⟩:=r';refine⟨.inl ⟨rfl,_,SqL.of ex⟩,a,u::us,0,0,u,rfl,rfl,ex,by decide,by decide,?_,rfl,?_⟩
     .simp[seqIndex?]
     .obtain⟨ok3,l3⟩:=ok1.write q e6 r2;exact h u _ ok3 (l1.trans l3) (by rw[<-m1]) (Den.mono' du l3)
  |_=>cases (hf)
theorem pdv(i:Nat)(hN:X.N[i]? =some x:=by rfl)(hv:Vis X.env.scope x:=by first|exact Or.inl rfl|exact Or.inr (Or.inl rfl)|exact Or.inr (Or.inr rfl))(hd:(x==("__debug__":Str))=false:=by decide)(hcd:(x==("__classdict__":Str))=false:=by decide):PD X tb (.Name x pos) (aq i):=Uu hN hv hd hcd
end
end L3
namespace L2
open PySem PySem.Spec PyProof.Rows
section
variable {X:Cx} {e:Expr} {es:List Expr} {te:TE} {t:TA}
def Yg(K:Zw)(te:TE)(t:TA):TA:=λσ H Q=>te σ H λx H1=>∃a c xs,x= .ref a/\SqB c K H1 a xs/\t σ H1 λvs H2=>Q (xs++vs) H2
theorem PQ(ha:PE X e te)(hr:PA X es t)(hs:starEach (.Starred e p::es) X.env=(true,eval e X.env)::starEach es X.env:=by rfl):PA X (.Starred e p::es) (Yg X.K te t):=by
 intro pos pins s σ H Q I h;refine PySem.W.items_star (thn (ha pins s σ H _ I h) λu s1 zq1=>?_) hs;obtain⟨x,H1,I1,r1,q1⟩:=zq1;obtain⟨a,c,xs,rfl,hq,q⟩:=q1;cases r1;obtain⟨its,rv,p1,hz⟩:=I1.sqB hq;obtain⟨T,hT,o,n,ho,hc,hd⟩:∃T,(T="list"∨T="tuple")/\∃o n,s1.heap.get? a=some o/\o.cls= .type T/\o.data= .seq its.toArray n:=by
  cases c
  .obtain⟨o,ho,hc,n,hd⟩:s1.heap.IsList a its.toArray:=p1;exact⟨"list",.inl rfl,o,n,ho,hc,hd⟩
  .obtain⟨o,ho,hc,n,hd⟩:s1.heap.IsTuple a its.toArray:=p1;exact⟨"tuple",.inr rfl,o,n,ho,hc,hd⟩
 have hlen:=rv.length;unfold PySem.W.StarOf notIterableAtAll;have hty:s1.TypeIs (.ref a) T:=⟨o,ho,hc⟩;have fin:wpAny (model X.prog X.w) X.A (collect (.ref a)) (λhere s₂=>wpAny (model X.prog X.w) X.A (spliced (backTo pos (starEach es X.env))) (λvs s₃=>AP X pins σ Q (here++vs) s₃) X.xe s₂) X.xe s1:=by
  refine wpAny_collect_seq a hT ho hc hd (λh' kp=>?_) (by simp only[Zd];lia)
  have I2:Inv X pins σ H1 { s1 with heap:=h'}:=I1.kept (t':=s1.toks) kp
  refine thn (hr pos pins { s1 with heap:=h'} σ H1 _ I2 q) λus s3 zq2=>?_
  obtain⟨vs,H3,I3,r3,q3⟩:=zq2;exact⟨xs++vs,H3,I3,rv.append r3,q3⟩
 rcases hT with rfl|rfl
 .exact Zv (wpAny_specialOf hty PySem.F.slot_list_iter.lookup (Zx ⟨rfl,fin⟩))
 .exact Zv (wpAny_specialOf hty PySem.F.slot_tuple_iter.lookup (Zx ⟨rfl,fin⟩))
end
end L2
namespace L3
open PySem PySem.Spec PyProof.Rows L2
section
variable {X:Cx} {tb:List Addr} {a b e:Expr} {es:List Expr} {fa fb f:EF} {fs:AF} {p pos:Pos}
def Bm(f:EF)(fs:AF):AF:=λδ μ=>(f δ μ).bind λr=>(dB r.1 r.2).bind λxs=>(fs δ r.2).bind λq=>match r.1 with
 | .cell _=>none
 |_=>some (xs++q.1,q.2)
theorem JD(ha:PD X tb e f)(hr:PAD X tb es fs)(hs:starEach (.Starred e p::es) X.env=(true,eval e X.env)::starEach es X.env:=by rfl):PAD X tb (.Starred e p::es) (Bm f fs):=
 Ko (PQ ha hr hs) λσ H Q zq3=>by
  obtain⟨W,δ,ds,μ',e,ok,hd,hf,h⟩:=zq3;unfold Bm at hf;obtain⟨⟨x,μ1⟩,e1,hf⟩:=Zbs hf;obtain⟨xs,e2,hf⟩:=Zbs hf;obtain⟨⟨ys,μ2⟩,e3,hf⟩:=Zbs hf;have hf':some (xs++ys,μ2)=some (ds,μ'):=by cases x<;>first|exact hf|cases hf
  cases hf';refine⟨W,δ,x,μ1,e,ok,hd,e1,λv W1 ok1 l1 m1 d1=>?_⟩;obtain⟨a,vs,rfl,q,r⟩:=kW ok1 d1 (by rw[m1];exact e2)
  refine⟨a,_,vs,rfl,q,W1,δ,ys,_,rfl,ok1,hd.mono' l1,(by rw[m1];exact e3),λus W2 ok2 l2 m2 d2=>?_⟩
  exact h (vs++us) W2 ok2 (l1.trans l2) m2 (aG.append (dN.mono' r l2) d2)
def jZ:List D->List D->List D
 |x::xs,y::ys=>.tup [x,y]::jZ xs ys
 |_,_=>[]
theorem Ai:∀{xs ys:List D}{i:Nat}{d:D},(jZ xs ys)[i]? =some d->∃x y,d= .tup [x,y]/\xs[i]? =some x/\ys[i]? =some y
 | [],ys,i,d,h=>by simp[jZ]at h
 |x::xs,[],i,d,h=>by simp[jZ]at h
 |x::xs,y::ys,0,d,h=>by
  have h':some (D.tup [x,y])=some d:=by simpa[jZ]using h
  cases h';exact⟨x,y,rfl,rfl,rfl⟩
 |x::xs,y::ys,i+1,d,h=>by
  obtain⟨u,v,e,e1,e2⟩:=Ai (xs:=xs) (ys:=ys) (i:=i) (by simpa[jZ]using h)
  exact⟨u,v,e,by simpa using e1,by simpa using e2⟩
theorem Bk:∀(xs ys:List D),(jZ xs ys).length=min xs.length ys.length
 | [],ys=>by simp[jZ]
 |x::xs,[]=>by simp[jZ]
 |x::xs,y::ys=>by simp[jZ,Bk xs ys]
def fJ:D->Option (List D)
 | .tup ds=>some ds
 | .lst ds=>some ds
 | .ro ds=>some ds
 |_=>none
theorem Ly{K:Zw}{W:Wd}{x:D}{v:V}{ds:List D}(h:Den K tb W x v)(e:fJ x=some ds):∃a xs,v= .ref a/\SqB (EY x) K (W.fz tb) a xs/\dN K tb W ds xs:=by
 cases x with
 |tup es=>cases e;obtain⟨a,xs,rfl,q,r⟩:=jP h;exact⟨a,xs,rfl,q,r⟩
 |lst es=>cases e;obtain⟨a,xs,rfl,q,r⟩:=ph h;exact⟨a,xs,rfl,q,r⟩
 |ro es=>cases e;obtain⟨a,xs,rfl,q,r⟩:=zR h;exact⟨a,xs,rfl,q,r⟩
 |_=>cases e
theorem qm{K:Zw}{c:Bool}{W0 W:Wd}{a:Addr}{xs:List V}(h:SqB c K (W0.fz tb) a xs)(l:Le tb W0 W):SqB c K W.H a xs:=by
 cases c
 .exact SqL.fz (SqL.mono l.same (show SqL K (W0.fz tb) a xs from h))
 .exact SqT.fz (SqT.mono l.same (show SqT K (W0.fz tb) a xs from h))
def lR(fs:AF):IF:=λδ μ=>(fs δ μ).bind λr=>match r.1 with
 | [x,y]=>(fJ x).bind λxs=>(fJ y).map λys=>(⟨jZ xs ys,none⟩,r.2)
 |_=>none
theorem lg{p':Pos}{elts:List Expr}{kk:Nat}(hm:X.mg "zip"=none)(ha:PAD X tb [a,b] fs)(hg:Gl X "zip":=by rfl)(hs:starEach [a,b] X.env=[(false,eval a X.env),(false,eval b X.env)]:=by rfl)(hs2:starEach [b] X.env=[(false,eval b X.env)]:=by rfl):
  PID X tb (.Tuple elts kk p') (.Call (.Name "zip" p) [a,b] [] pos) (lR fs):=
 Lk (Vm hg hm ha hs hs2) λσ H R zq4=>by
  obtain⟨W,δ,S,μ',e,ok,hd,hf,h⟩:=zq4;unfold lR at hf;obtain⟨⟨zs,μ1⟩,e1,hf⟩:=Zbs hf
  match zs,e1,hf with
  | [x,y],e1,hf=>
   obtain⟨xs,e2,hf⟩:=Zbs (show((fJ x).bind λxs=>(fJ y).map λys=>((⟨jZ xs ys,none⟩:Src),μ1))=some (S,μ')from hf);obtain⟨ys,e3,e4⟩:=Zp.mp hf;cases e4;refine⟨W,δ,[x,y],_,e,ok,hd,e1,λvs W1 ok1 l1 m1 d1=>?_⟩;obtain⟨u,v,rfl,du,dv⟩:=aG.two d1;obtain⟨a1,us,rfl,q1,r1⟩:=Ly du e2;obtain⟨a2,ws,rfl,q2,r2⟩:=Ly dv e3;refine⟨a1,a2,_,_,rfl,⟨us,qm q1 (Le.refl _)⟩,⟨ws,qm q2 (Le.refl _)⟩,h _ W1 ok1 l1 m1 ⟨λi W2 d l ok2 _ ei=>?_,λi W2 l ok2 _ hi=>?_⟩⟩
   .obtain⟨x0,y0,rfl,ex,ey⟩:=Ai ei;obtain⟨vx,evx,dvx⟩:=aG.get (dN.mono' r1 l) ex;obtain⟨vy,evy,dvy⟩:=aG.get (dN.mono' r2 l) ey;refine⟨⟨⟨us,vx,qm q1 l,evx⟩,ws,vy,qm q2 l,evy⟩,λz H' ⟨p,x',y',ez,hp,eH,hx',hy'⟩=>?_⟩;have ex':=hx' us (qm q1 l);have ey':=hy' ws (qm q2 l);rw[evx]at ex';cases ex';rw[evy]at ey';cases ey';obtain⟨ok3,l3,e3⟩:=ok2.alloc (o:=.tup [vx,vy]) hp;refine⟨_,eH.symm,ok3,l3,rfl,?_⟩;rw[ez];show bN _ _ _ _ _;unfold bN;exact⟨p,[vx,vy],rfl,.inl (.inl e3),dN.mono' (aG.cons dvx (aG.cons dvy aG.nil)) l3⟩
   .have hi':min xs.length ys.length<=i:=by rw[<-Bk];exact hi
    have l1':=aG.length r1;have l2':=aG.length r2;refine⟨us,ws,qm q1 l,qm q2 l,?_⟩
    lia
end
theorem Ga{K:Zw}{F:Hp}{ad:List Addr}:∀(ns:List Int),aG K F ad (ns.map D.int) (ns.map V.int)
 | []=>aG.nil
 |n::ns=>aG.cons (by unfold bN;rfl) (Ga ns)
theorem Hk{P:Zpr}{w:World}{K:Zw}{mg mb:Str->Option Value}{k:Nat}{fa a:Addr}{fd:FuncData}{x:Str}{s₁:Zsh}{vs:List Value}{ns:List Int}{tb:List Addr}{φ:FF}{μ':Mu}
  (KX:K.In s₁.heap) (hns:s₁.heap.Ns mainGlobals mg) (hb:s₁.heap.Ns builtinsNs mb) (hbb:∀x:Str,x≠"__name__"->mb x=bootBuiltins x) (hlim:s₁.heap.NoLimit)
  (hbm:∃bm ob,mg "__builtins__"=some (.ref bm)/\bm≠builtinsNs/\s₁.heap.get? bm=some ob/\ob.cls= .type "module"/\ob.dict=some builtinsNs/\ob.data= .plain) (hg:s₁.gens= #[])
  (ha:s₁.heap.get? a=some { cls:=.type "list",data:=.seq vs.toArray}) (hi:IntsAre vs ns) (hl:ns.length<=sizeLine) (hr:dH k callerA)
  (htb:∀P∈tb,∃c,ZB s₁.heap c P/\s₁.heap.get? P=some (PySem.W.tabObj #[])) (hnt:PySem.W.noTabs K=true)
  (F:∀base:Heap,K.In base->base.Ns mainGlobals mg->tB P w K mg base CX0 k fa fd [x] (spD K tb 1 φ)) (hbind:∀(s:Zsh)(u:Value),BindsTo s fd ⟨[u],[]⟩ [(x,u)])
  (hsp:φ [.ro (ns.map .int)] []=some (.bl true,μ')):
  codeAny (model P w) callerA (.call (.ref fa) ⟨[.ref a],[]⟩) (λr s'=>r= .ok (.ret (.bool true))/\OldK s₁.heap s'.heap/\s'.os=s₁.os/\AllBare s'.gens) s₁:=by
 have rv:=yf hi;have lenV:=hi.length;have hat:a∉tb:=λz=>by
  obtain⟨c,_,e⟩:=htb a z;rw[ha]at e;cases e
 have hKt:∀P∈tb,K.lookup P=none:=λP hP=>by
  cases q:K.lookup P with
  |none=>rfl
  |some o=>
   obtain⟨c,_,e⟩:=htb P hP;have e2:=KX P o q;rw[e]at e2;cases e2;have h2:=List.all_eq_true.mp hnt (P,_) (PySem.W.mem_of_lookupK q);exact absurd (show false=true from h2) Zr
 have core:∀H:Hp,(∀b,H b=none∨(b=a/\∃o xs,H b=some (.frz o (.lst xs)))∨(b∈tb/\H b=some (.tbl #[])))->SqL K H a (ns.map V.int)->HOk P w H s₁.heap->(∀P∈tb,H P=some (.tbl #[]))->(H a≠none->K.lookup a=none)->
   codeAny (model P w) callerA (.call (.ref fa) ⟨[.ref a],[]⟩) (λr s'=>r= .ok (.ret (.bool true))/\OldK s₁.heap s'.heap/\s'.os=s₁.os/\AllBare s'.gens) s₁:=by
  intro H hO hS hok hT hK;have base_of:∀{b:Addr}{o:Obj},s₁.heap.get? b=some o->H b=none->(yu s₁.heap H).get? b=some o:=λe n=>Oc e n;have noH:∀{b:Addr}{o:Obj},s₁.heap.get? b=some o->o.cls≠ .type "list"->o.cls≠ .none->H b=none:=λ{b o} e d1 d2=>by
   rcases hO b with z|⟨rfl,_⟩|⟨z,_⟩
   .exact z
   .rw[ha]at e;cases e;exact absurd rfl d1
   .obtain⟨c,_,e2⟩:=htb b z;rw[e2]at e;cases e;exact absurd rfl d2
  have noA:∀{b:Addr}{o:Obj}{es:Array DictEntry}{ep:Nat},s₁.heap.get? b=some o->o.data= .dict es ep->H b=none:=λ{b o es ep} e d=>by
   rcases hO b with z|⟨rfl,_⟩|⟨z,_⟩
   .exact z
   .rw[ha]at e;cases e;cases d
   .obtain⟨c,_,e2⟩:=htb b z;rw[e2]at e;cases e;cases d
  have nsK:∀{b:Addr}{m:Str->Option Value},s₁.heap.Ns b m->(yu s₁.heap H).Ns b m:=λ{b m}⟨o,es,ep,e,d,r⟩=>⟨o,es,ep,base_of e (noA e d),d,r⟩;have hKb:K.In (yu s₁.heap H):=λb o e=>base_of (KX b o e) (by
   rcases hO b with z|⟨rfl,_,_,z⟩|⟨z,_⟩
   .exact z
   .rw[hK (by rw[z];simp)]at e;cases e
   .rw[hKt b z]at e;cases e)
  have hM:Mod K mg (yu s₁.heap H):=⟨hKb,nsK hns,⟨mb,nsK hb,hbb⟩,(let⟨mc,h1,h2⟩:=hlim;⟨mc,nsK h1,h2⟩),(let⟨bm,ob,h1,h2,h3,h4,r⟩:=hbm;⟨bm,ob,h1,h2,base_of h3 (noH h3 (by rw[h4];decide) (by rw[h4];decide)),h4,r⟩)⟩
  have e0:Qe P w K mg (yu s₁.heap H) callerA [] s₁ H:=⟨rfl,hM,λb o e=>QG e,Nat.le_of_eq (Hr _ _),trivial,λb hb=>absurd (show b∈([]:List Addr)from hb) (by simp),hok,.of_eq hg⟩
  have okW:WOk K tb ⟨H,[],[]⟩:=⟨rfl,λi a ds e=>by simp at e,λi j a ds es e=>by simp at e,λP hP=>⟨#[],hT P hP,TOk.nil⟩⟩
  have nlive:∀b,¬qN ([]:List Addr) ([]:Mu) b:=λb ⟨i,ds,e,_⟩=>by simp at e
  have fzA:Wd.fz tb ⟨H,[],[]⟩ a=H a:=rZ (W:=⟨H,[],[]⟩) (nlive a) hat;have hden:Den K tb ⟨H,[],[]⟩ (.ro (ns.map .int)) (.ref a):=by
   show bN _ _ _ _ _;unfold bN;refine⟨a,_,rfl,?_,Ga ns⟩
   rcases hS with(h|⟨o,h⟩)|h
   .exact .inl (.inl (fzA.trans h))
   .exact .inl (.inr ⟨o,fzA.trans h⟩)
   .exact .inr h
  refine codeAny_mono ((F _ hKb (nsK hns)).run callerA [] s₁ H ⟨[.ref a],[]⟩ [.ref a] [.ref a] (λv _=>v= .bl true) (λ_ _ _=>False) hr e0 (hbind s₁ (.ref a)) (.cons rfl .nil)
   ⟨⟨H,[],[]⟩,[.ro (ns.map .int)],_,_,rfl,okW,aG.cons hden aG.nil,rfl,hsp,λv W' _ _ _ dv=>lN dv⟩) λr s' h=>?_
  cases r with
  |error e=>exact False.elim h
  |ok fl=>
   cases fl with
   |next=>exact False.elim h
   |brk=>exact False.elim h
   |cont=>exact False.elim h
   |ret u=>
    obtain⟨v,H',os,bare,un,hok',r',q⟩:=h;have q':v= .bl true:=q;subst q';obtain rfl:u=Value.bool true:=r';have old:∀b o,s₁.heap.get? b=some o->asItWas s₁.heap s'.heap b o/\∃o',s'.heap.get? b=some o':=λb o e=>by
     rcases hO b with z|⟨rfl,ob,xs,z⟩|⟨hb,z⟩
     .have:=un.keep b o e z (by intro z;exact absurd (show b∈([]:List Addr)from z) (by simp)) (by simp)
      exact⟨.inl this,o,this⟩
     .have z2:=un.frzs b ob _ z;obtain⟨e1,_⟩:=hok b _ z;obtain⟨e2,_⟩:=hok' b _ z2;rw[e]at e1;cases e1;exact⟨.inl e2,_,e2⟩
     .obtain⟨more,z2⟩:=un.tbls b _ z;have e2:=hok' b _ z2;obtain⟨c,hd,hp⟩:=htb b hb;rw[hp]at e;cases e;have e3:s'.heap.get? b=some { cls:=.none,data:=.fields (#[]++more) }:=e2;exact⟨.inr (.inl ⟨(hd.tab hp).isCodeTable,rfl,#[],more,rfl,e3⟩),_,e3⟩
    exact⟨rfl,⟨λb o e=>(old b o e).1,λb o e=>(old b o e).2⟩,os,bare.bare⟩
 have tbOk:∀{H:Hp}{b:Addr},b∈tb->kj P w H s₁.heap b (.tbl #[]):=λ{H b} hb=>by
  obtain⟨c,_,e⟩:=htb b hb;exact e
 classical
 cases hk:K.lookup a with
 |some o=>
  have e:=KX a o hk;rw[ha]at e;cases e;refine core (λb=>if b∈tb then some (.tbl #[])else none) (λb=>?_) (.inr ⟨_,vs.toArray,_,hk,rfl,rfl,rfl,by rw[Zd,lenV];exact hl,by simpa using rv⟩) (λb u z=>?_) (λP hP=>if_pos hP) λz=>absurd (if_neg hat) z
  .by_cases hb:b∈tb
   .exact .inr (.inr ⟨hb,if_pos hb⟩)
   .exact .inl (if_neg hb)
  .by_cases hb:b∈tb
   .have z':=(if_pos hb).symm.trans z;cases z';exact tbOk hb
   .have z':=(if_neg hb).symm.trans z;cases z'
 |none=>
  refine core (λb=>if b=a then some (.frz { cls:=.type "list",data:=.seq vs.toArray} (.lst (ns.map V.int)))else if b∈tb then some (.tbl #[])else none) (λb=>?_) (.inl (.inr ⟨{ cls:=.type "list",data:=.seq vs.toArray},if_pos rfl⟩)) (λb u z=>?_) (λP hP=>?_) λ_=>hk
  .by_cases hb:b=a
   .exact .inr (.inl ⟨hb,_,_,if_pos hb⟩)
   .by_cases hb':b∈tb
    .exact .inr (.inr ⟨hb',(if_neg hb).trans (if_pos hb')⟩)
    .exact .inl ((if_neg hb).trans (if_neg hb'))
  .by_cases hb:b=a
   .have z':=(if_pos hb).symm.trans z;cases z';subst hb;exact⟨ha,by rw[Zu];exact hl,vs,_,rv,ha⟩
   .have z1:=(if_neg hb).symm.trans z;by_cases hb':b∈tb
    .have z':=(if_pos hb').symm.trans z1;cases z';exact tbOk hb'
    .have z':=(if_neg hb').symm.trans z1;cases z'
  .have hne:P≠a:=λz=>hat (z▸hP);exact(if_neg hne).trans (if_pos hP)
theorem Lr{l:PySem.W.OpenLaw}{n k:Nat}{q:Zpr}{loose:List Str}{XP:(Str->Option Value)->Heap->Prop}{YP:World->Heap->Prop}{d:DefRec}{K:Params->Zw}{x:Str}{φ:FF}
  (hn:l.most=some n) (hn2:n<=sizeLine) (hdf:d.params.defaults=[]) (hr:dH k callerA)
  (hY:∀(w:World)(h:Heap),YP w h->(K w.params).In h)
  (F:∀(w:World)(mg mb:Str->Option Value)(mean:ExcName->Option Value)(lo:List Str)(fa:Addr)(h:Heap),(K w.params).In h->Top q lo mean mg mb h->mg d.name=some (.ref fa)->
   ∃(fd:FuncData)(tb:List Addr),(∀(s:Zsh)(u:Value),BindsTo s fd ⟨[u],[]⟩ [(x,u)])/\(∀P∈tb,∃c,ZB h c P/\h.get? P=some (PySem.W.tabObj #[]))/\PySem.W.noTabs (K w.params)=true/\
    ∀base:Heap,(K w.params).In base->base.Ns mainGlobals mg->tB l.prog w (K w.params) mg base CX0 k fa fd [x] (spD (K w.params) tb 1 φ))
  (hsp:∀(ns:List Int),ns.length<=n->∃μ',φ [.ro (ns.map .int)] []=some (.bl true,μ')):
  PySem.W.WalkO q loose XP YP l.row.toRowW d [] (λf vs=>PySem.call f vs):=by
 refine Att.attach_call hn hdf λw s₀ s₁ mg mb fa o pm cd doc a vs ns G Y ho hd hcd hmg hobj hints hlen hg=>?_;have KX:=hY w _ Y;obtain⟨fd,tb,hb,htb,hnt,hF⟩:=F w mg mb _ _ fa _ KX G.T hmg;obtain⟨μ',hs⟩:=hsp ns hlen;exact Hk KX G.T.g G.T.b G.T.builtins G.T.nolimit G.T.bmain hg hobj hints (Zl hlen hn2) hr htb hnt hF hb hs
section
variable {X:Cx} {tb:List Addr} {e tg iter elt:Expr} {f:EF} {pos:Pos}
theorem QL{fi:IF}{h:GF}{tt:TF}{fe:EF}{own:List Str}{capI ts:List Nat}{σ:SV}{H:Hp}{Q:VK}(hts:∀i∈ts,i<own.length)(hx:tDN X.K tb (lLC own capI fi h tt fe) σ H Q):
  tLC own capI (tDI X.K tb fi) (tDG X.K tb ts h) (tDT X.K tb tt) (tD X.K tb fe) σ H Q:=by
  obtain⟨W,δ,ds,μ',e,ok,hd,hf,k⟩:=hx;unfold lLC at hf;obtain⟨⟨S,μ1⟩,e1,e2⟩:=Zbs hf;split at e2
  .rename_i hz;refine⟨W,δ,S,μ1,e,ok,hd,e1,λJ W1 ok1 l1 m1 io=>?_⟩;refine⟨λi m ys H2=>m=S.items.length-i/\i<=S.items.length/\ys.length<=i/\∃W2 zs rs,W2.H=H2/\WOk X.K tb W2/\Le tb W1 W2/\dN X.K tb W2 zs ys/\lcL S h tt fe (bW own δ capI) (S.items.drop i) W2.mu=some (rs,μ')/\zs++rs=ds,
    ⟨S.items.length,rfl,Nat.zero_le _,Nat.zero_le _,W1,[],ds,rfl,ok1,Le.refl _,aG.nil,by rw[m1];exact e2,rfl⟩,?_⟩
   rintro i m ys H2 ⟨hm,hi',hy,W2,zs,rs,rfl,ok2,l2,d2,hn,hzs⟩;by_cases hlt:i<S.items.length
   .right
    have hdr:S.items.drop i=S.items[i]::S.items.drop (i+1):=ZJ hlt;rw[hdr]at hn;unfold lcL at hn;split at hn
    .rename_i hok;obtain⟨δ3,e3,hn⟩:=Zbs hn;obtain⟨⟨kk,μ4⟩,e4,hn⟩:=Zbs hn;obtain⟨go,yl⟩:=io.go i W2 S.items[i] l2 ok2 hok (by simp[hlt])
     refine⟨go,Zc (Nat.lt_of_le_of_lt hy hlt) hz,λx H' y=>?_⟩;obtain⟨W3,rfl,ok3,l3,m3,d3⟩:=yl x H' y;refine⟨W3,bW own δ capI,S.items[i],δ3,rfl,ok3,(uE hd).mono' ((l1.trans l2).trans l3),d3,(by rw[m3];exact e3),λσ3 d3' hl3 ht3=>⟨fits_of hts hl3 ht3,?_⟩⟩
     refine⟨W3,δ3,kk,μ4,rfl,ok3,d3',(by rw[m3];exact e4),λW4 ok4 l4 m4=>?_⟩
     cases kk with
     |false=>
      rw[if_neg Zr];exact⟨S.items.length-(i+1),by lia,rfl,hlt,by lia,W4,zs,rs,rfl,ok4,(l2.trans l3).trans l4,dN.mono' d2 (l3.trans l4),by rw[m4];exact hn,hzs⟩
     |true=>
      rw[if_pos rfl];have hn':((fe δ3 μ4).bind λy=>(lcL S h tt fe (bW own δ capI) (S.items.drop (i+1)) y.2).bind λys=>some (y.1::ys.1,ys.2))=some (rs,μ'):=hn;obtain⟨⟨yd,μ5⟩,e5,hn'⟩:=Zbs hn';obtain⟨⟨rs',μ6⟩,e6,e7⟩:=Zbs hn';cases e7;refine⟨W4,δ3,yd,μ5,rfl,ok4,d3'.mono' l4,(by rw[m4];exact e5),λv W5 ok5 l5 m5 d5=>?_⟩
      refine⟨S.items.length-(i+1),by lia,rfl,hlt,by rw[ZG];simp;lia,W5,zs++[yd],rs',rfl,ok5,((l2.trans l3).trans l4).trans l5,aG.append (dN.mono' d2 ((l3.trans l4).trans l5)) (aG.cons d5 aG.nil),by rw[m5];exact e6,by rw[List.append_assoc];exact hzs⟩
    .cases hn
   .left
    have hdr:S.items.drop i=[]:=List.drop_of_length_le (by lia)
    rw[hdr]at hn;unfold lcL at hn;split at hn
    .rename_i hok;cases hn;rw[List.append_nil]at hzs;subst hzs;exact⟨io.stop i W2 l2 ok2 hok (by lia),λl hl=>k l ys W2 ok2 (l1.trans l2) rfl hl d2⟩
    .cases hn
  .cases e2
theorem Ru{i:Nat}{x:Str}{px spos:Pos}{ifs:List Expr}{fi:IF}{h:GF}{tt:TF}{fe:EF}{own cap:List Str}{capI ts:List Nat}{scope:Scope}(hN:X.N.Nodup)(hc:X.calm=true)(B:fV X own cap capI scope)(hown:∀x∈own,(x,NameKind.free)∉scope.names)(hi:PID X tb tg iter fi)
  (hg:∀cs C fp s2 H2,PGD (gb X own cap scope cs C fp s2 H2) tb tg ts h) (ht:∀cs C fp s2 H2,BZ (gb X own cap scope cs C fp s2 H2) tb ifs tt) (he:∀cs C fp s2 H2,PD (gb X own cap scope cs C fp s2 H2) tb elt fe)
  (hts:∀i∈ts,i<own.length:=by decide) (hs:∀x,foldedSetIterable iter X.env x=pure x:=by intro _;rfl) (hi₀:X.N[i]? =some x:=by rfl) (hx₀:Loc X.env.scope x:=by first|exact Or.inl rfl|exact Or.inr rfl)
  (hsw:swapsWith (.ListComp elt [⟨tg,iter,ifs,0⟩] scope pos) (some (.Name x px)) spos.line X.env=pure true:=by rfl)
  (hf₀:X.fn x=true∨X.env.scope.names.lookup x=some .local:=by first|exact .inl rfl|exact .inr rfl|assumption):
  PSD X tb (.Assign [.Name x px] (.ListComp elt [⟨tg,iter,ifs,0⟩] scope pos) spos) (bw i (mFz (lLC own capI fi h tt fe))):=
 mX (ZP (g:=tDG X.K tb ts h) (tt:=tDT X.K tb tt) (te:=tD X.K tb fe) hN hi₀ hx₀ hc B hown hi hg ht he hs hsw hf₀) λE σ H zq1=>by
  obtain⟨W,δ,fl,δ',μ',e,ok,hd,hf,k⟩:=zq1;unfold bw at hf;obtain⟨⟨d,μ1⟩,e1,e2⟩:=Zbs hf;cases e2;unfold mFz at e1;obtain⟨⟨ds,μ2⟩,e3,e4⟩:=Zbs e1;cases e4;refine QL hts ⟨W,δ,ds,_,e,ok,hd,e3,λp vs W1 ok1 l1 m1 hp r=>?_⟩;exact mZ (Q:=λv H=>E.nx (σ.set i (some v)) H) ok1 (λv W' ok' l' m' d'=>k _ W' ok' (l1.trans l') (m'.trans m1) ((hd.mono' (l1.trans l')).set d')) r hp
end
theorem Ry{P:Zpr}{w:World}{K:Zw}{mg:Str->Option Value}{base:Heap}{tb:List Addr}{x qual:Str}{st:Stmt}{f:Addr}{fd:FuncData}{T:Addr}{N ps:List Str}{n k:Nat}{g:SF}(F:Oa K x qual st f fd T)(KB:K.In base)(S:qH N ps (dF st))(hps:ps.length=n)
  (hbody:∀(c:Addr)(A:Zar)(outer:List Env)(s:Zsh)(H:Hp)(E:XK),ZB base c T->dH k (A.deeper (envOfC qual (dF st) s.heap.objs.size f (.ref c)))->
   ut (Ax CX0 P w K mg base N qual (dF st) f (.ref c) A outer s H E).nox tb (jA st) g):tB P w K mg base CX0 (k+1) f fd ps (spD K tb n (aH N.length g)):=by
 obtain⟨oc,od,kV,doc,pm,an,c,ct,osl,rfl,lk,hcd,hhd⟩:=F.ex;refine TX lk hcd S (λvs H Q E ⟨W,ds,d,μ',e,ok,dl,hl,_,_⟩=>by rw[<-aG.length dl,hl,hps]) λA outer s H vs Q E hr hsp=>?_
 obtain⟨W,ds,d,μ',e,ok,dl,hl,hf,k⟩:=hsp;refine⟨_,(hbody c A outer s H E (hhd base KB) hr).nox,?_⟩;unfold aH at hf;obtain⟨⟨fl,δ',μ1⟩,e1,e2⟩:=Zbs hf;refine⟨W,_,fl,δ',μ1,e,ok,?_,e1,λσ' W' ok' l' m' d'=>?_⟩
 .have hlen:=aG.length dl;refine⟨by unfold L2.start;simp[hlen],λi y q=>?_⟩
  unfold L2.start;by_cases hi:i<ds.length
  .rw[Zs (by simpa using hi),List.getElem?_map]at q
   cases q2:ds[i]? with
   |none=>rw[q2]at q;cases q
   |some z=>
    rw[q2]at q;cases q;obtain⟨v,ev,dv⟩:=aG.get dl q2;exact⟨v,by rw[Zs (by rw[Zu,<-hlen];exact hi),List.getElem?_map,ev];rfl,dv⟩
  .rw[List.getElem?_append_right (by simpa using hi),List.getElem?_replicate]at q
   split at q<;>cases q
 .cases fl with
  |nx=>cases e2;exact k .non W' ok' l' m' uH
  |rt d0=>cases e2;exactλv dv=>k v W' ok' l' m' dv
  |bk=>cases e2
  |ct=>cases e2
def zq(vs:Array Value):Bool:=(match vs.getD 18 .none with| .str _ _=>true|_=>false)&&(match vs.getD 7 .none with| .int _ _=>true|_=>false)&&
 (match vs.getD 9 .none with| .bool _=>true|_=>false)&&(match vs.getD 10 .none with| .int _ _=>true|_=>false)
theorem Jc{K:Zw}{c P:Addr}{dd:Option Addr}{vs:Array Value}{sl:Array (Option Value)}(lc:K.lookup c=some ⟨.type "code",dd,.fields vs,sl⟩)(p:vs[11]? =some (.ref P))(q:zq vs=true)(ne:(c != P)=true):PySem.W.codeHdIn K c P=true:=by
 unfold PySem.W.codeHdIn;rw[lc];unfold zq at q;simp only[Zo]at q ⊢;obtain⟨⟨⟨q1,q2⟩,q3⟩,q4⟩:=q;refine⟨⟨⟨⟨⟨?_,q1⟩,q2⟩,q3⟩,q4⟩,ne⟩;rw[p];exact beq_self_eq_true P
theorem OD{K:Zw}{x qual:Str}{st:Stmt}{f c P:Addr}{oc:Value}{od an:Option Addr}{osl:Array (Option Value)}{kV doc pm ct:Value}{dd:Option Addr}{vs:Array Value}{sl:Array (Option Value)}
  (l:K.lookup f=some ⟨oc,od,.func (PySem.W.fnOf x qual (nq st) (jA st) (dF st) .none kV doc pm an (.ref c) ct),osl⟩) (hc:PySem.W.codeIn K (.ref c) qual=true) (k:PySem.W.keepIn K (.ref f)=true)
  (lc:K.lookup c=some ⟨.type "code",dd,.fields vs,sl⟩) (p:vs[11]? =some (.ref P)) (q:zq vs=true) (ne:(c != P)=true):Oa K x qual st f (PySem.W.fnOf x qual (nq st) (jA st) (dF st) .none kV doc pm an (.ref c) ct) P:=
 ⟨⟨oc,od,kV,doc,pm,an,c,ct,osl,rfl,l,hc,λh X=>PySem.W.codeHd_of_K X (Jc lc p q ne)⟩,k⟩
theorem Wm{K:Zw}{x:Str}{f c P:Addr}{oc oc':Value}{od dd:Option Addr}{fd:FuncData}{osl sl:Array (Option Value)}{vs:Array Value}(a:PySem.W.nsIn K mainGlobals x=some (some (.ref f)))(l:K.lookup f=some ⟨oc,od,.func fd,osl⟩)(hc:fd.code= .ref c)
  (lc:K.lookup c=some ⟨oc',dd,.fields vs,sl⟩) (p:vs[11]? =some (.ref P)):PySem.W.tabIn K x=some (c,P):=by
 unfold PySem.W.tabIn;rw[a];simp only[l,hc,lc,p]
theorem rG{q:Zpr}{lo:List Str}{mean:ExcName->Option Value}{mg mb:Str->Option Value}{h:Heap}{K:Zw}{x:Str}{c P:Addr}(T:Top q lo mean mg mb h)(X:K.In h)(hr:((recsOf q).find? (λe=>e.name==x)).isSome=true)(ht:PySem.W.tabIn K x=some (c,P)):ZB h c P/\h.get? P=some (PySem.W.tabObj #[]):=by
 obtain⟨d,hd⟩:=Option.isSome_iff_exists.mp hr;exact PySem.W.tab_of T X hd ht
end L3
namespace L2
open PySem PySem.Spec PyProof.Rows HT
section
variable {prog:Zpr} {w:World} {A:Zar} {E:Value->Zsh->Prop} {s:Zsh}
theorem qL{t sl:Addr}{items:Array Value}{vl vu:Value}{lo hi:Option Int}{Q:Value->Zsh->Prop}(ht:IsTup s.heap t items)(hs:s.heap.IsSliceOf sl vl vu .none)(pl:IsPart vl lo)(pu:IsPart vu hi)
  (hw:sIx items.size 0 lo=0/\sIx items.size items.size hi=items.size) (h:Q (.ref t) s):wpAny (model prog w) A (getItem (.ref t) (.ref sl)) Q E s:=by
 obtain⟨os,hos,hcs,hds⟩:=id hs;have hTs:s.TypeIs (.ref sl) "slice":=⟨os,hos,hcs⟩;unfold getItem
 try with_reducible refine wpAny_holding ?_
 first|refine Zv (Zx ?_)|skip
 refine Zv (wpAny_sequenceKey ht.typeIs (by decide) ?_)
 refine Zv (wpAny_callSpecial?_slot (name:=Str.ofString "__getitem__") ht.typeIs PyProof.Rows.slot_tuple_getitem
  (wpAny_call_entry PyProof.Rows.slot_tuple_getitem ht.typeIs entry_tuple_getitem ?_ (args_tuple_getitem _ _)))
 show wpAny _ _ (Builtin.Tuple.tupleItemsOf (.ref t) >>= _) _ _ s;refine Zv (tupleItemsOf_ ht ?_);refine Zv (wpAny_typeOf hTs ?_);rw[if_pos (by decide)]
 refine Zv (oF hs pl pu ?_);have hyes:(((sIx items.size 0 lo:Nat):Int)==0&&(1:Int)==1&&(sIx items.size items.size hi-sIx items.size 0 lo)==items.size)=true:=by
  rw[hw.1,hw.2];simp
 show wpAny _ _ (if(((sIx items.size 0 lo:Nat):Int)==0&&(1:Int)==1&&(sIx items.size items.size hi-sIx items.size 0 lo)==items.size)=true then _ else _) _ _ s;rw[if_pos hyes];refine Zv (m:=Builtin.Tuple.tupleIsExact (.ref t)) (Zv (wpAny_typeOf ht.typeIs (Zx ?_)));rw[if_pos (by decide)]
 refine Zv (wpAny_rule ?_)
 first
  |exact Zx ⟨_,rfl,Zx h⟩
  |exact Zv (Zx (Zx ⟨_,rfl,Zx h⟩))
  |exact Zx (Zx h)
end
section
variable {X:Cx}
def rSlW(K:Zw):V->Option Int->Option Int->Hp->VK->Prop:=λx lo hi H Q=>∃a xs,x= .ref a/\SqT K H a xs/\
 (HT.sIx xs.length 0 lo=0/\HT.sIx xs.length xs.length hi=xs.length)/\Q (.ref a) H
theorem QQ:SlR X (rSlW X.K):=by
 intro pins s σ H x v vl vu lo hi sl Q I rx hs pl pu h;obtain⟨a,xs,rfl,hx,hw,q⟩:=h;cases rx;obtain⟨its,r,ht,hz⟩:=I.tuple hx;have hlen:its.toArray.size=xs.length:=by rw[Zd];exact r.length.symm
 refine⟨"tuple",_,PyProof.Rows.slot_tuple_getitem.lookup,ht.typeIs,?_⟩;exact qL ht hs pl pu (by rw[hlen];exact hw) ⟨.ref a,H,I,rfl,q⟩
end
end L2
namespace L3
open PySem PySem.Spec PyProof.Rows L2
abbrev PF:=En->Mu->Option (Option Int×Mu)
inductive tDO(K:Zw)(tb:List Addr)(f:PF)(σ:SV)(H:Hp)(Q:Option Int->Hp->Prop):Prop
 |mk (W) (δ) (i) (μ'):(W.H=H)->(WOk K tb W)->(jF K tb W δ σ)->(f δ W.mu=some (i,μ'))->(∀W',WOk K tb W'->Le tb W W'->W'.mu=μ'->Q i W'.H)->tDO K tb f σ H Q
def POD(X:Cx)(tb:List Addr)(e:Option Expr)(f:PF):Prop:=PO X e (tDO X.K tb f)
theorem Th(h:PO X e t)(k:∀σ H Q,t' σ H Q->t σ H Q):PO X e t':=λpins s σ H Q I hq=>h pins s σ H Q I (k σ H Q hq)
def fNo:PF:=λ_ μ=>some (none,μ)
def fAt(f:EF):PF:=λδ μ=>(f δ μ).bind λr=>match r.1 with
 | .int i=>some (some i,r.2)
 |_=>none
def rQ(ds:List D)(lo hi:Option Int):List D:=(ds.drop (HT.sIx ds.length 0 lo)).take (HT.sIx ds.length ds.length hi-HT.sIx ds.length 0 lo)
def oSl(x:D)(lo hi:Option Int)(μ:Mu):Option (D×Mu):=match x with
 | .tup ds=>some (.tup (rQ ds lo hi),μ)
 | .lst ds=>some (.lst (rQ ds lo hi),μ)
 | .ro ds=>some (.lst (rQ ds lo hi),μ)
 | .cell n=>match μ[n]? with
  |some (some ds)=>some (.lst (rQ ds lo hi),μ)
  |_=>none
 |_=>none
def mSl(f:EF)(fl fh:PF):EF:=λδ μ=>(f δ μ).bind λr=>(fl δ r.2).bind λl=>(fh δ l.2).bind λu=>oSl r.1 l.1 u.1 u.2
section
variable {X:Cx} {tb:List Addr} {e:Expr} {lo hi:Option Expr} {f:EF} {fl fh:PF} {pos p2:Pos}
theorem qi:POD X tb none fNo:=Th PK λσ H Q zq1=>by
 obtain⟨W,δ,i,μ',e,ok,hd,hf,h⟩:=zq1;subst e;cases hf;exact h W ok (Le.refl _) rfl
theorem pY(h:PD X tb e f):POD X tb (some e) (fAt f):=Th (Pj h) λσ H Q zq2=>by
 obtain⟨W,δ,i,μ',e,ok,hd,hf,h⟩:=zq2;unfold fAt at hf;obtain⟨⟨x,μ1⟩,e1,e2⟩:=Zbs hf;cases x with
 |int j=>
  cases e2;exact⟨W,δ,_,_,e,ok,hd,e1,λv W1 ok1 l1 m1 d1=>⟨j,bF d1,h W1 ok1 l1 m1⟩⟩
 |_=>cases e2
theorem uL{K:Zw}{W:Wd}{ds:List D}{vs:List V}{l h:Option Int}(r:dN K tb W ds vs):dN K tb W (rQ ds l h) (Al vs l h):=by
 unfold rQ Al;rw[<-aG.length r];exact aG.take _ (aG.drop _ r)
theorem pM(he:PD X tb e f)(hl:POD X tb lo fl)(hh:POD X tb hi fh):PD X tb (.Subscript e (.Slice lo hi none p2) pos) (mSl f fl fh):=
 gW (Kh (Wi.or (QQ.or Pu)) he hl hh) λσ H Q zq3=>by
  obtain⟨W,δ,d,μ',e,ok,hd,hf,h⟩:=zq3;unfold mSl at hf;obtain⟨⟨x,μ1⟩,e1,hf⟩:=Zbs hf;obtain⟨⟨l,μ2⟩,e2,hf⟩:=Zbs hf;obtain⟨⟨u,μ3⟩,e3,hf⟩:=Zbs hf;refine⟨W,δ,x,μ1,e,ok,hd,e1,λv W1 ok1 l1 m1 d1=>⟨W1,δ,l,μ2,rfl,ok1,hd.mono' l1,(by rw[m1];exact e2),λW2 ok2 l2 m2=>⟨W2,δ,u,μ3,rfl,ok2,hd.mono' (l1.trans l2),(by rw[m2];exact e3),λW3 ok3 l3 m3=>?_⟩⟩⟩
  have d3:=Den.mono' d1 (l2.trans l3);have k:∀v W',WOk X.K tb W'->Le tb W3 W'->W'.mu=W3.mu->Den X.K tb W' d v->W3.mu=μ'->Q v W'.H:=λv W' ok' l' m' d' q=>h v W' ok' (((l1.trans l2).trans l3).trans l') (m'.trans q) d';cases x with
  |tup ds=>
   obtain⟨a,xs,rfl,q,r⟩:=jP d3;cases hf;by_cases hw:HT.sIx ds.length 0 l=0/\HT.sIx ds.length ds.length u=ds.length
   .have e:rQ ds l u=ds:=by unfold rQ;rw[hw.1,hw.2];simp
    exact .inr (.inl ⟨a,xs,rfl,SqT.fz q,by rw[<-aG.length r];exact hw,k (.ref a) W3 ok3 (Le.refl _) rfl (by rw[e];exact d3) m3⟩)
   .exact .inl ⟨a,xs,rfl,SqT.fz q,by rw[<-aG.length r];exact hw,λp hp=>oZ ok3 (λv W' ok' l' m' d'=>k v W' ok' l' m' d' m3) (uL r) hp⟩
  |lst ds=>
   obtain⟨a,xs,rfl,q,r⟩:=ph d3;cases hf;exact .inr (.inr ⟨a,xs,rfl,SqL.fz q,λp hp=>mZ ok3 (λv W' ok' l' m' d'=>k v W' ok' l' m' d' m3) (uL r) hp⟩)
  |ro ds=>
   obtain⟨a,xs,rfl,q,r⟩:=zR d3;cases hf;exact .inr (.inr ⟨a,xs,rfl,SqL.fz q,λp hp=>mZ ok3 (λv W' ok' l' m' d'=>k v W' ok' l' m' d' m3) (uL r) hp⟩)
  |cell n=>
   obtain⟨a,rfl,q⟩:=jB d3;have hf:(match μ3[n]? with|some (some ds)=>some (D.lst (rQ ds l u),μ3)|_=>none)=some (d,μ'):=hf
   cases e4:μ3[n]? with
   |none=>rw[e4]at hf;cases hf
   |some o=>
    rw[e4]at hf;cases o with
    |none=>cases hf
    |some ds=>
     cases hf;obtain⟨xs,ex,r⟩:=ok3.cont n a ds q (by rw[m3];exact e4)
     exact .inr (.inr ⟨a,xs,rfl,SqL.of ex,λp hp=>mZ ok3 (λv W' ok' l' m' d'=>k v W' ok' l' m' d' m3) (uL r) hp⟩)
  |_=>cases hf
end
end L3
namespace L2
open PySem PySem.Spec PyProof.Rows
section
variable {κ:Type} [DecidableEq κ]
def putK(kvs:List (κ×V))(k:κ)(v:V):List (κ×V):=
 if(kvs.any λkv=>decide (kv.1=k))=true then kvs.map (λkv=>if kv.1=k then(kv.1,v)else kv)else kvs++[(k,v)]
theorem KV.any(r:KV kvs vs)(k:κ):(kvs.any λkv=>decide (kv.1=k))=vs.any λkv=>decide (kv.1=k):=by
 unfold KV at r
 induction r with
 |nil=>rfl
 |cons h t ih=>rw[List.any_cons,List.any_cons,ih,h.1]
theorem KV.repl(r:KV kvs vs)(k:κ)(ry:cI y u):
  KV (kvs.map λkv=>if kv.1=k then(kv.1,y)else kv) (vs.map λkv=>if kv.1=k then(kv.1,u)else kv):=by
 unfold KV at r ⊢
 induction r with
 |nil=>exact .nil
 | @cons p q ps qs h t ih=>
  rw[Zj,Zj];refine .cons ?_ ih;obtain⟨h1,h2⟩:=h;by_cases e:p.1=k
  .rw[if_pos e,if_pos (h1.symm.trans e)];exact⟨h1,ry⟩
  .rw[if_neg e,if_neg (λz=>e (h1.trans z))];exact⟨h1,h2⟩
theorem KV.put(r:KV kvs vs)(k:κ)(ry:cI y u):KV (putK kvs k y) (stored vs k u):=by
 unfold putK stored;rw[r.any k];by_cases e:(vs.any λkv=>decide (kv.1=k))=true
 .rw[if_pos e,if_pos e];exact r.repl k ry
 .rw[if_neg e,if_neg e];exact Paired.snoc r ⟨rfl,ry⟩
end
theorem XS(r:cI (kV k) u):(lr P w).is k u=true:=by
 cases k with
 |inl i=>obtain⟨t,e⟩:=(show∃t,u=Value.int i t from r);subst e;exact Ac P w i t
 |inr x=>obtain⟨t,e⟩:=(show∃t,u=Value.str x t from r);subst e;exact Ce P w x t
section
variable {X:Cx} {pins:List (Addr×Obj)} {σ:St} {H:Hp} {s:Zsh} {a:Addr} {y v:V} {u r:Value} {o:Option V} {A:Zar} {E:Value->Zsh->Prop}
theorem Inv.big(I:Inv X pins σ H s):sysModules<s.heap.objs.size:=by
 have h:mainGlobals<s.heap.objs.size:=(I.mod.glob.keeps I.bk).lt;exact Nat.lt_trans (by decide) h
end
theorem Jk(h:Heap)(hb:sysModules<h.objs.size):kj P w H (h.push { cls:=.type "dict",data:=.dict #[] }) h.objs.size (.dK []):=
 ⟨Nat.zero_le _,ZM.mpr (Ne.symm (Zk hb)),[],.nil,Heap.DictOf.new h⟩
def WP:TE:=λ_ H Q=>∀p,H p=none->Q (.ref p) (upd H p (.dK []))
section
variable {X:Cx} {pos:Pos}
theorem Ms:PE X (.Dict [] [] pos) WP:=λpins s σ H Q I h=>
 wpAny_Dict_empty ⟨.ref s.heap.objs.size,_,I.laid (a:=s.heap.objs.size) (o:=.dK []) (t':=s.toks) (λ_ _ q=>Zb _ q) (Zg _) (Jk s.heap I.big),rfl,h _ (I.hok.fresh (Zg _))⟩
end
def Du:List (TE×TE)->St->Hp->(List (V×V)->Hp->Prop)->Prop
 | [],_,H,Q=>Q [] H
 |(tk,tv)::r,σ,H,Q=>tk σ H λx H1=>tv σ H1 λy H2=>Du r σ H2 λps H3=>Q ((x,y)::ps) H3
abbrev VV:List (V×V)->List (Value×Value)->Prop:=Paired λp q=>cI p.1 q.1/\cI p.2 q.2
def PPs(X:Cx)(pos:Pos)(keys:List (Option Expr))(values:List Expr)(trs:List (TE×TE)):Prop:=
 ∀(pins:List (Addr×Obj))(s:Zsh)(σ:St)(H:Hp)(Q:List (V×V)->Hp->Prop),Inv X pins σ H s->Du trs σ H Q->
  wpAny (model X.prog X.w) X.A (evalPairs (pairTrees keys values X.env pos)) (λvs s'=>∃ps H',Inv X pins σ H' s'/\VV ps vs/\Q ps H') X.xe s
theorem PB:PPs X pos [] [] []:=λpins s σ H Q I h=>pairTrees_nil_walk ⟨[],H,I,.nil,h⟩
theorem Ks(hk:PE X k tk)(hv:PE X v tv)(hr:PPs X pos ks vs trs):
  PPs X pos (some k::ks) (v::vs) ((tk,tv)::trs):=λpins s σ H Q I h=>
 pairTrees_cons_walk (thn (hk pins s σ H _ I h) λu s1 ⟨x,H1,I1,rx,q1⟩=>thn (hv pins s1 σ H1 _ I1 q1) λw2 s2 ⟨y,H2,I2,ry,q2⟩=>
  thn (hr pins s2 σ H2 _ I2 q2) λws s3 ⟨ps,H3,I3,rel,q3⟩=>⟨(x,y)::ps,H3,I3,.cons ⟨rx,ry⟩ rel,q3⟩)
def CN(kvs more:List (Key×V)):List (Key×V):=more.foldl (λacc kv=>putK acc kv.1 kv.2) kvs
theorem KV.merge:∀{more:List (Key×V)}{rs:List (Key×Value)}{kvs:List (Key×V)}{vs:List (Key×Value)},KV more rs->KV kvs vs->KV (CN kvs more) (merged vs rs):=by
 intro more rs kvs vs r;unfold KV at r
 induction r generalizing kvs vs with
 |nil=>intro q;exact q
 | @cons p q ps qs h t ih=>
  intro r0;have e:KV (putK kvs p.1 p.2) (stored vs q.1 q.2):=by
   have:=r0.put p.1 h.2;rw[<-h.1];exact this
  exact ih e
theorem vK:∀{kvs:List (Key×V)}{ws:List (Value×Value)},VV (kvs.map λkv=>(kV kv.1,kv.2)) ws->∃rs,Carries (lr P w) ws rs/\KV kvs rs
 | [],_,r=>by rw[List.map_nil]at r;cases r;exact⟨[],True.intro,.nil⟩
 |p::kvs,_,r=>by
  rw[Zj]at r;cases r with
  | @cons a b as bs h t=>
   obtain⟨rs,c,q⟩:=vK (P:=P) (w:=w) t;obtain⟨b1,b2⟩:=b;exact⟨(p.1,b2)::rs,⟨XS h.1,rfl,c⟩,.cons ⟨rfl,h.2⟩ q⟩
section
variable {X:Cx} {pins:List (Addr×Obj)} {σ:St} {H H2:Hp} {s s2:Zsh} {h':Heap} {p:Addr} {o:HO} {ob:Obj} {t':Nat}
theorem Inv.pin1(I:Inv X pins σ H s)(hd:∀v,ob.data≠ .cell v)(hfr:ob.isFreed=false):Inv X (pins++[(s.heap.objs.size,ob)]) σ H { s with heap:=s.heap.push ob}:=by
 have I1:Inv X pins σ H { s with heap:=s.heap.push ob}:=I.kept (t':=s.toks) λb u e=>Zb _ e
 refine I1.pins_of λq hq=>?_
 rcases Zm.mp hq with z|z
 .exact I1.pin q (Zn _ z)
 .have e:q=(s.heap.objs.size,ob):=by simpa using z
  subst e;exact⟨Zf _ hfr,I.hok.fresh (Zg _),Nat.ne_of_gt I.lt,I.nofs (Zg _),hd⟩
theorem Inv.track(I0:Inv X pins σ H s)(hp:s.heap.objs.size<=p)(I:Inv X (pins++[(p,ob)]) σ H2 s2)(k:∀b u,b≠p->s2.heap.get? b=some u->h'.get? b=some u)(he:∃u,h'.get? p=some u)(new:kj X.prog X.w (upd H2 p o) h' p o):
  Inv X pins σ (upd H2 p o) { s2 with heap:=h',toks:=t'}:=by
 obtain⟨h1,h2,h3,h4,h5⟩:=I.pin (p,ob) (by simp)
 have J:Inv X pins σ H2 s2:=I.pins_of λq hq=>I.pin q (by simp only[Zm];exact .inr (.inl hq))
 have np:∀b u,H2 b=some u->b≠p:=λb u e z=>by rw[z,h2]at e;cases e
 refine J.step (g':=s2.gens) (d':=s2.drawn) (t':=t') (ch:=[p]) (λb hb=>?_) (λb o _ _ hc e _=>k b o (λz=>hc (by simp[z])) e) (λb o _ _ hc e _=>⟨o.slots,k b o (λz=>hc (by simp[z])) e⟩)
  (λb o hc e n=>?_) (λb o hc e=>⟨o,k b o (λz=>hc (by simp[z])) e⟩) (λb xs e=>?_) (λb o u e=>?_) (λb ps e=>⟨#[],?_⟩) (λm hm=>?_) (λb u e=>?_) J.bare.again
 .have e:b=p:=by simpa using hb
  subst e;refine⟨.inr (Zl I0.sz hp),h3,λx c e z=>?_,λq hq z=>?_⟩
  .obtain⟨v,oc,hc,_⟩:=I0.cell x c e;have:=Ze hc;rw[z]at this;exact absurd this (Nat.not_lt.mpr hp)
  .have:=Ze (I0.pin q hq).1;rw[z]at this;exact absurd this (Nat.not_lt.mpr hp)
 .rw[aV (λz=>hc (by simp[z]))];exact n
 .rw[aV (np b _ e)];exact e
 .rw[aV (np b _ e)];exact e
 .rw[aV (np b _ e),e];simp
 .obtain⟨o,es,ep,ho,r⟩:=hm;exact⟨o,es,ep,k _ o (Ne.symm h3) ho,r⟩
 .by_cases hb:b=p
  .subst hb;rw[ie]at e;cases e;exact new
  .rw[aV hb]at e;refine(J.hok b u e).stay (λc v hc q=>k c v ?_ q) (λc q=>by rw[aV (np c _ q)];exact q) λc xs q=>by rw[aV (np c _ q)];exact q
   rcases hc with z|z
   .rw[z];exact hb
   .exact np c _ z
end
def Vz(tk tv:TE):TE:=λσ H Q=>tk σ H λx H1=>tv σ H1 λy H2=>∃k:Key,x=kV k/\∀p,H2 p=none->Q (.ref p) (upd H2 p (.dK [(k,y)]))
theorem Jq(hk:PE X k tk)(hv:PE X v tv):PE X (.Dict [some k] [v] pos) (Vz tk tv):=by
 intro pins s σ H Q I q;have I1:=I.pin1 (ob:={ cls:=.type "dict",data:=.dict #[] }) (λv z=>by cases z) rfl
 have h:=Ks (pos:=pos) hk hv PB;refine wpAny_Dict_walk (knd:=lr X.prog X.w) rfl rfl (by simp) (by simp) (thn (h (pins++[(s.heap.objs.size,{ cls:=.type "dict",data:=.dict #[] })]) _ σ H (λps H2=>∃(k:Key)(y:V),ps=[(kV k,y)]/\∀p,H2 p=none->Q (.ref p) (upd H2 p (.dK [(k,y)]))) I1 ?_) λws s2 ⟨ps,H2,I2,rel,k,y,ep,q2⟩=>?_)
 .have:Du [(tk,tv)] σ H (λps H2=>∃(k:Key)(y:V),ps=[(kV k,y)]/\∀p,H2 p=none->Q (.ref p) (upd H2 p (.dK [(k,y)])))=tk σ H λx H1=>tv σ H1 λy H2=>∃(k:Key)(y':V),[(x,y)]=[(kV k,y')]/\∀p,H2 p=none->Q (.ref p) (upd H2 p (.dK [(k,y')])):=rfl;rw[this];have e2:(λx H1=>tv σ H1 λy H2=>∃k:Key,x=kV k/\∀p,H2 p=none->Q (.ref p) (upd H2 p (.dK [(k,y)])))=(λx H1=>tv σ H1 λy H2=>∃(k:Key)(y':V),[(x,y)]=[(kV k,y')]/\∀p,H2 p=none->Q (.ref p) (upd H2 p (.dK [(k,y')]))):=by
   funext x H1
   congr 1
   funext y H2
   apply propext
   constructor
   .rintro⟨k,rfl,h⟩;exact⟨k,y,rfl,h⟩
   .rintro⟨k,y',e,h⟩;simp only[List.cons.injEq,Prod.mk.injEq,and_true]at e;obtain⟨rfl,rfl⟩:=e;exact⟨k,rfl,h⟩
  rw[<-e2];exact q
 .subst ep;obtain⟨rs,c,rk⟩:=vK (P:=X.prog) (w:=X.w) (kvs:=[(k,y)]) rel;obtain⟨h1,h2,_⟩:=I2.pin (s.heap.objs.size,{ cls:=.type "dict",data:=.dict #[] }) (by simp)
  have dd:s2.heap.DictOf (lr X.prog X.w) s.heap.objs.size []:=by
   obtain⟨o,es,ep,e1,e2,e3,e4⟩:=Heap.DictOf.new (knd:=lr X.prog X.w) s.heap;rw[Zf _ rfl]at e1;cases e1;exact⟨_,es,ep,h1,e2,e3,e4⟩
  refine⟨rs,c,dd,λh' dd' hs=>⟨.ref s.heap.objs.size,_,?_,rfl,q2 _ h2⟩⟩;have he:∃q,h'.get? s.heap.objs.size=some q:=let⟨q,_,_,hq,_⟩:=dd';⟨q,hq⟩;have hm:KV (CN [] [(k,y)]) (merged [] rs):=rk.merge .nil;have e:CN [] [(k,y)]=[(k,y)]:=rfl;rw[e]at hm;refine I.track (Zg _) I2 (λb u hb e=>(hs.2 b hb).trans e) he (show kj X.prog X.w _ h' _ (.dK [(k,y)])from⟨?_,?_,_,hm,dd'⟩)
  .show 1<=sizeLine;rw[sizeLine_eq];decide
  .exact ZM.mpr (Ne.symm (Zk I.big))
end L2
namespace L3
open PySem PySem.Spec PyProof.Rows L2
def Rc:D->Option Key
 | .int i=>some (.inl i)
 | .str x=>some (.inr x)
 |_=>none
theorem Qk{K:Zw}{tb:List Addr}{W:Wd}{x:D}{v:V}{k:Key}(h:Den K tb W x v)(e:Rc x=some k):v=kV k:=by
 cases x with
 |int i=>cases e;exact bF h
 |str z=>cases e;exact nG h
 |_=>cases e
def Gs:EF:=λ_ μ=>some (.dic [],μ)
def uh(fk fv:EF):EF:=λδ μ=>(fk δ μ).bind λr=>(fv δ r.2).bind λq=>(Rc r.1).map λk=>(.dic [(k,q.1)],q.2)
section
variable {X:Cx} {tb:List Addr} {k v:Expr} {fk fv:EF} {pos:Pos}
theorem Gr{K:Zw}{W:Wd}{Q:VK}{kvs:List (Key×D)}{ps:List (Key×V)}{p:Addr}(ok:WOk K tb W)(h:∀v W',WOk K tb W'->Le tb W W'->W'.mu=W.mu->Den K tb W' (.dic kvs) v->Q v W'.H)(r:jk K (W.fz tb) W.ad kvs ps)(hp:W.H p=none):Q (.ref p) (upd W.H p (.dK ps)):=by
 obtain⟨ok',le,e⟩:=ok.alloc (o:=.dK ps) hp;refine h (.ref p) _ ok' le rfl ?_;show bN _ _ _ _ _;unfold bN;exact⟨p,ps,rfl,e,jk.mono le.same le.ad _ _ r⟩
theorem Pn:PD X tb (.Dict [] [] pos) Gs:=gW Ms λσ H Q zq1=>by
 obtain⟨W,δ,d,μ',e,ok,hd,hf,h⟩:=zq1;subst e;cases hf
 exactλp hp=>Gr ok h (by unfold jk;rfl) hp
theorem GZ(hk:PD X tb k fk)(hv:PD X tb v fv):PD X tb (.Dict [some k] [v] pos) (uh fk fv):=gW (Jq hk hv) λσ H Q zq2=>by
 obtain⟨W,δ,d,μ',e,ok,hd,hf,h⟩:=zq2;unfold uh at hf;obtain⟨⟨x,μ1⟩,e1,hf⟩:=Zbs hf;obtain⟨⟨y,μ2⟩,e2,hf⟩:=Zbs hf;obtain⟨k,e3,e4⟩:=Zp.mp hf;cases e4;refine⟨W,δ,x,μ1,e,ok,hd,e1,λv W1 ok1 l1 m1 d1=>⟨W1,δ,y,_,rfl,ok1,hd.mono' l1,(by rw[m1];exact e2),λu W2 ok2 l2 m2 d2=>⟨k,Qk d1 e3,λp hp=>?_⟩⟩⟩
 exact Gr ok2 (λv' W' ok' l' m' d'=>h v' W' ok' ((l1.trans l2).trans l') (m'.trans m2) d') (by unfold jk;exact⟨_,_,rfl,⟨rfl,d2⟩,by unfold jk;rfl⟩) hp
end
theorem Io:lO X (.type "range") (λxs H Q=>∃i j,xs=[.int i,.int j]/\∀p,H p=none->Q (.ref p) (upd H p (.rng i j))):=by
 intro pins s σ H xs us Q I r h;obtain⟨i,j,rfl,q⟩:=h;obtain⟨u,w',rfl,⟨t,rfl⟩,⟨t',rfl⟩⟩:=vals2 r;exact call_range_2 ⟨.ref s.heap.objs.size,_,I.laid (a:=s.heap.objs.size) (o:=.rng i j) (λb o e=>Zb _ e) (Zg _) ⟨_,_,_,Zf _ rfl⟩,rfl,q _ (I.hok.fresh (Zg _))⟩
def QH(lo:Int)(n:Nat):List V:=(List.range n).map λ(k:Nat)=>V.int (lo+(k:Int))
theorem wX{lo:Int}:∀{acc:List Value}{n k:Nat},acc.length=n->(∀j v,acc[j]? =some v->∃t,v=Value.int (lo+((k+j:Nat):Int)) t)->bM ((List.range' k n).map λ(i:Nat)=>V.int (lo+(i:Int))) acc
 | [],n,k,e,_=>by cases e;exact .nil
 |v::r,n,k,e,h=>by
  cases e;rw[ZH,List.range'_succ,Zj];refine .cons ?_ (wX rfl λj u hu=>?_)
  .obtain⟨t,q⟩:=h 0 v rfl;exact⟨t,by simpa using q⟩
  .obtain⟨t,q⟩:=h (j+1) u hu;exact⟨t,by rw[q];congr 2;lia⟩
theorem Gp{K:Zw}{F:Hp}{ad:List Addr}{lo:Int}:∀(l:List Nat),aG K F ad (l.map λ(k:Nat)=>D.int (lo+(k:Int))) (l.map λ(k:Nat)=>V.int (lo+(k:Int)))
 | []=>aG.nil
 |k::l=>aG.cons (by unfold bN;rfl) (Gp l)
def tM(f:EF):EF:=λδ μ=>(f δ μ).bind λr=>match r.1 with
 | .cell n=>(r.2.getD n none).map λds=>(.lst ds,r.2.set n none)
 |d=>some (d,r.2)
theorem qe(h:PD X tb e f):PD X tb e (tM f):=
 gW h λσ H Q zq1=>by
  obtain⟨W,δ,d,μ',e,ok,hd,hf,k⟩:=zq1;unfold tM at hf;obtain⟨⟨x,μ1⟩,e1,e2⟩:=Zbs hf;refine⟨W,δ,x,μ1,e,ok,hd,e1,λv W1 ok1 l1 m1 d1=>?_⟩;cases x with
  |cell n=>
   obtain⟨ds,e3,e4⟩:=Zp.mp e2;cases e4;obtain⟨a,rfl,ea⟩:=jB d1;have em:W1.mu[n]? =some (some ds):=by
    rw[m1];rw[List.getD_eq_getElem?_getD]at e3;cases q:μ1[n]? with
    |none=>rw[q]at e3;cases e3
    |some z=>rw[q]at e3;exact congrArg some e3
   obtain⟨ok2,l2,d2⟩:=ok1.freeze ea em;exact k _ ⟨W1.H,W1.ad,W1.mu.set n none⟩ ok2 (l1.trans l2) (by show W1.mu.set n none=_;rw[m1]) d2
  |_=>cases e2;exact k v W1 ok1 l1 m1 d1
mutual
def cLt(m:Nat):D->Bool
 | .tup ds=>pg m ds
 | .lst ds=>pg m ds
 | .ro ds=>pg m ds
 | .dic kvs=>wA m kvs
 | .cell n=>decide (n<m)
 |_=>true
def pg(m:Nat):List D->Bool
 | []=>true
 |d::ds=>cLt m d&&pg m ds
def wA(m:Nat):List (Key×D)->Bool
 | []=>true
 |p::ds=>cLt m p.2&&wA m ds
end
section
variable {K:Zw} {F F':Hp} {ad:List Addr} {m:Nat}
mutual
theorem bN.cut(s:pK F F'):∀(d:D)(v:V),cLt m d=true->bN K F ad d v->bN K F' (ad.take m) d v
 | .non,v,_,h=>by unfold bN at h ⊢;exact h
 | .bl _,v,_,h=>by unfold bN at h ⊢;exact h
 | .int _,v,_,h=>by unfold bN at h ⊢;exact h
 | .str _,v,_,h=>by unfold bN at h ⊢;exact h
 | .tup ds,v,c,h=>by
  unfold bN at h ⊢;unfold cLt at c;obtain⟨a,xs,e,q,r⟩:=h;exact⟨a,xs,e,SqT.mono s q,aG.cut s ds xs c r⟩
 | .lst ds,v,c,h=>by
  unfold bN at h ⊢;unfold cLt at c;obtain⟨a,xs,e,q,r⟩:=h;exact⟨a,xs,e,s _ _ q,aG.cut s ds xs c r⟩
 | .ro ds,v,c,h=>by
  unfold bN at h ⊢;unfold cLt at c;obtain⟨a,xs,e,q,r⟩:=h;exact⟨a,xs,e,SqL.mono s q,aG.cut s ds xs c r⟩
 | .dic kvs,v,c,h=>by
  unfold bN at h ⊢;unfold cLt at c;obtain⟨a,ps,e,q,r⟩:=h;exact⟨a,ps,e,s _ _ q,jk.cut s kvs ps c r⟩
 | .cell n,v,c,h=>by
  unfold bN at h ⊢;unfold cLt at c;obtain⟨a,e,q⟩:=h;exact⟨a,e,by rw[List.getElem?_take_of_lt (by simpa using c)];exact q⟩
theorem aG.cut(s:pK F F'):∀(ds:List D)(vs:List V),pg m ds=true->aG K F ad ds vs->aG K F' (ad.take m) ds vs
 | [],vs,_,h=>by unfold aG at h ⊢;exact h
 |d::ds,vs,c,h=>by
  unfold aG at h ⊢;unfold pg at c;have c:=(Zo _ _).mp c;obtain⟨u,us,e,p,r⟩:=h;exact⟨u,us,e,bN.cut s d u c.1 p,aG.cut s ds us c.2 r⟩
theorem jk.cut(s:pK F F'):∀(ds:List (Key×D))(vs:List (Key×V)),wA m ds=true->jk K F ad ds vs->jk K F' (ad.take m) ds vs
 | [],vs,_,h=>by unfold jk at h ⊢;exact h
 |p::ds,vs,c,h=>by
  unfold jk at h ⊢;unfold wA at c;have c:=(Zo _ _).mp c;obtain⟨u,us,e,⟨p1,p2⟩,r⟩:=h;exact⟨u,us,e,⟨p1,bN.cut s p.2 u.2 c.1 p2⟩,jk.cut s ds us c.2 r⟩
end
end
def cOk(m:Nat)(μ:Mu):Bool:=μ.all λo=>match o with
 |some ds=>pg m ds
 |none=>true
theorem WOk.cut{K:Zw}{tb:List Addr}{W:Wd}{m:Nat}(ok:WOk K tb W)(c:cOk m (W.mu.take m)=true):
  WOk K tb ⟨W.H,W.ad.take m,W.mu.take m⟩/\pK (W.fz tb) (Wd.fz tb ⟨W.H,W.ad.take m,W.mu.take m⟩):=by
 have lv:∀b,qN (W.ad.take m) (W.mu.take m) b->qN W.ad W.mu b:=λb zq2=>by
  obtain⟨i,es,e1,e2⟩:=zq2;have h1:i<m:=by have:=(Zh.mp e1).1;simp at this;lia
  rw[List.getElem?_take_of_lt h1]at e1 e2;exact⟨i,es,e1,e2⟩
 have sm:pK (W.fz tb) (Wd.fz tb ⟨W.H,W.ad.take m,W.mu.take m⟩):=λb u e=>by
  obtain⟨e1,e2,e3⟩:=gw e;have q:=rZ (tb:=tb) (W:=⟨W.H,W.ad.take m,W.mu.take m⟩) (b:=b) (λz=>e2 (lv b z)) e3;rw[q];exact e1
 refine⟨⟨by simp[ok.len],λi a ds e1 e2=>?_,λi j a ds es e1 e2 e3 e4=>?_,ok.tab⟩,sm⟩
 .have h1:i<m:=by have:=(Zh.mp e1).1;simp at this;lia
  have cd:pg m ds=true:=by
   have:=List.all_eq_true.mp c (some ds) (List.mem_of_getElem? e2);exact this
  have e1':(W.ad.take m)[i]? =some a:=e1;have e2':(W.mu.take m)[i]? =some (some ds):=e2;rw[List.getElem?_take_of_lt h1]at e1' e2';obtain⟨xs,e,r⟩:=ok.cont i a ds e1' e2';exact⟨xs,e,aG.cut sm ds xs cd r⟩
 .have h1:i<m:=by have:=(Zh.mp e1).1;simp at this;lia
  have h2:j<m:=by have:=(Zh.mp e2).1;simp at this;lia
  have e1':(W.ad.take m)[i]? =some a:=e1;have e2':(W.ad.take m)[j]? =some a:=e2;have e3':(W.mu.take m)[i]? =some (some ds):=e3;have e4':(W.mu.take m)[j]? =some (some es):=e4;rw[List.getElem?_take_of_lt h1]at e1' e3';rw[List.getElem?_take_of_lt h2]at e2' e4';exact ok.inj i j a ds es e1' e2' e3' e4'
def trunc(φ:FF):FF:=λds μ=>(φ ds μ).bind λr=>if(cLt μ.length r.1&&cOk μ.length (r.2.take μ.length))=true then some (r.1,r.2.take μ.length)else some r
theorem FI.trunc{P:Zpr}{w:World}{K:Zw}{mg:Str->Option Value}{base:Heap}{tb:List Addr}{x:Str}{n k:Nat}{φ:FF}(F:FI P w K mg base tb x n k φ):FI P w K mg base tb x n k (trunc φ):=by
 obtain⟨f,fd,ps,h1,h2⟩:=F.is;refine⟨f,fd,ps,h1.imp λvs H Q E ⟨W,ds,d,μ',e,ok,dl,hl,hf,k⟩=>?_,h2⟩;unfold L3.trunc at hf;obtain⟨⟨d1,μ1⟩,e1,e2⟩:=Zbs hf;split at e2
 .rename_i hc;have hc:=(Zo _ _).mp hc;cases (e2);refine⟨W,ds,d1,μ1,e,ok,dl,hl,e1,λv W' ok' l' m' d'=>?_⟩;obtain⟨ok2,sm⟩:=ok'.cut (m:=W.mu.length) (by rw[m'];exact hc.2)
  exact k v ⟨W'.H,W'.ad.take W.mu.length,W'.mu.take W.mu.length⟩ ok2 ⟨l'.same.trans sm,λi x q=>by
   have hi:i<W.mu.length:=by rw[<-ok.len];exact(Zh.mp q).1
   show(W'.ad.take W.mu.length)[i]? =some x;rw[List.getElem?_take_of_lt hi];exact l'.ad i x q⟩ (by show W'.mu.take _=_;rw[m']) (bN.cut sm d1 v hc.1 d')
 .cases (e2);exact⟨W,ds,d,μ',e,ok,dl,hl,e1,k⟩
theorem VG{K:Zw}{mg:Str->Option Value}{x:Str}{i:Int}{t:Tok}(h:mg x=some (.int i t)):GD K mg x (.int i):=⟨_,.int i,h,⟨t,rfl⟩,λF ad=>by unfold bN;rfl⟩
theorem tE{φ:FF}{ds:List D}{μ μ':Mu}{d:D}(h:φ ds μ=some (d,μ'))(hl:μ'.length=μ.length):trunc φ ds μ=some (d,μ'):=by
 unfold trunc;rw[h];simp only[ZK];rw[<-hl,List.take_length];split<;>rfl
theorem iZ{φ:FF}{ds:List D}{μ:Mu}{d:D}(h:φ ds μ=some (d,μ)):trunc φ ds μ=some (d,μ):=tE h rfl
theorem zH{K:Zw}{F:Hp}{ad:List Addr}:∀{ds:List D}{vs:List V}{d:D}{v:V}(j:Nat),aG K F ad ds vs->bN K F ad d v->aG K F ad (ds.set j d) (vs.set j v)
 | [],vs,d,v,j,r,h=>by
  unfold aG at r;subst r;exact aG.nil
 |x::ds,vs,d,v,j,r,h=>by
  unfold aG at r;obtain⟨u,us,rfl,p,r⟩:=r;cases j with
  |zero=>exact aG.cons h r
  |succ j=>exact aG.cons p (zH j r h)
def Hj(x o i:D)(μ:Mu):Option Mu:=match o,i with
 | .cell n,.int k=>match μ[n]? with
  |some (some ds)=>(ixN ds.length k).map λj=>μ.set n (some (ds.set j x))
  |_=>none
 |_,_=>none
def Be(f fo fi:EF):SF:=λδ μ=>(f δ μ).bind λr=>(fo δ r.2).bind λo=>(fi δ o.2).bind λi=>(Hj r.1 o.1 i.1 i.2).map λμ'=>(.nx,δ,μ')
theorem Fj(he:PD X tb e f)(ho:PD X tb o fo)(hi:PD X tb i fi)
  (ha:∀v,assign (.Subscript o i pos') X.env v=(do
   let ov<-holding [v] (eval o X.env)
   let iv<-holding [v,ov] (eval i X.env)
   standAt pos'
   holding [v,ov,iv] (setItem ov iv v)
   release [v,ov,iv] []):=by intro _;rfl)
  (hs:swapsWithSole [.Subscript o i pos'] e pos.line X.env=pure false:=by rfl) (hw:swappedStores [.Subscript o i pos'] e X.env=pure none:=by rfl)
  (h1:(assignEach [.Subscript o i pos'] X.env).map (·.2)=[assign (.Subscript o i pos') X.env]:=by rfl):PSD X tb (.Assign [.Subscript o i pos'] e pos) (Be f fo fi):=
 mX (KZ he (VL ho hi set_list ha) hs hw h1) λE σ H zq1=>by
  obtain⟨W,δ,fl,δ',μ',e,ok,hd,hf,h⟩:=zq1;unfold Be at hf;obtain⟨⟨x,μ1⟩,e1,hf⟩:=Zbs hf;obtain⟨⟨c,μ2⟩,e2,hf⟩:=Zbs hf;obtain⟨⟨k,μ3⟩,e3,hf⟩:=Zbs hf;obtain⟨μ4,e4,e5⟩:=Zp.mp hf;cases e5;refine⟨W,δ,x,μ1,e,ok,hd,e1,λv W1 ok1 l1 m1 d1=>⟨W1,δ,c,μ2,rfl,ok1,hd.mono' l1,(by rw[m1];exact e2),λu W2 ok2 l2 m2 d2=>⟨W2,δ,k,μ3,rfl,ok2,hd.mono' (l1.trans l2),(by rw[m2];exact e3),λy W3 ok3 l3 m3 d3=>?_⟩⟩⟩
  have d2:=Den.mono' d2 l3;have d1:=Den.mono' d1 (l2.trans l3);cases c with
  |cell n=>
   cases k with
   |int k=>
    have e4':(match μ3[n]? with|some (some ds)=>(ixN ds.length k).map λj=>μ3.set n (some (ds.set j x))|_=>none)=some μ':=e4
    cases e6:μ3[n]? with
    |none=>rw[e6]at e4';cases e4'
    |some oo=>
     cases oo with
     |none=>rw[e6]at e4';cases e4'
     |some ds=>
      rw[e6]at e4';obtain⟨j,e7,e8⟩:=Zp.mp e4';obtain⟨a,rfl,q⟩:=jB d2;have e6:W3.mu[n]? =some (some ds):=by rw[m3];exact e6
      obtain⟨xs,ex,r⟩:=ok3.cont n a ds q e6;refine⟨a,xs,k,j,rfl,bF d3,ex,by rw[<-aG.length r];exact e7,?_⟩
      obtain⟨ok4,l4⟩:=ok3.write q e6 (zH j r d1);exact h _ _ ok4 (((l1.trans l2).trans l3).trans l4) (by rw[<-e8,<-m3]) (hd.mono' (((l1.trans l2).trans l3).trans l4))
   |_=>cases e4
  |_=>cases e4
def Ik(i:Nat)(f:EF)(op:O2):SF:=λδ μ=>match δ[i]? with
 |some (some x)=>(f δ μ).bind λr=>(op x r.1 r.2).map λz=>(.nx,δ.set i (some z.1),z.2)
 |_=>none
def XR:O2
 | .int i,.int j,μ=>some (.int (i+j),μ)
 |_,_,_=>none
def Gk:O2
 | .int i,.int j,μ=>if lX i j<=134217728 then some (.int (i*j),μ)else none
 |_,_,_=>none
theorem Qo:PIp X .Mult (λx y H Q=>∃i j,x= .int i/\y= .int j/\lX i j<=134217728/\Q (.int (i*j)) H):=by
 intro pins s σ H x y v u Q I r1 r2 h;obtain⟨i,j,e1,e2,hb,q⟩:=h;subst e1;subst e2;obtain⟨t,rfl⟩:=r1;obtain⟨t',rfl⟩:=r2;exact imul_int ⟨.int _,H,I.tok _,⟨_,rfl⟩,q⟩ (IntMulOk.of_le (Zg _) (Zg _) hb)
section
variable {X:Cx} {tb:List Addr} {e:Expr} {f:EF} {pos pos':Pos} {i:Nat} {x:Str}
theorem Vr(hN:X.N.Nodup)(he:PD X tb e f)(hip:PIp X op ti)(hi:X.N[i]? =some x)(hx:Loc X.env.scope x)(hf:X.fn x=true∨X.env.scope.names.lookup x=some .local)
  (ho:∀x y μ d μ',o x y μ=some (d,μ')->μ'=μ/\∃a b c,x= .int a/\y= .int b/\d= .int c/\∀H Q,Q (.int c) H->ti (.int a) (.int b) H Q):PSD X tb (.AugAssign (.Name x pos') op e pos) (Ik i f o):=
 mX (WR hN hi hx he hip hf) λE σ H zq2=>by
  obtain⟨W,δ,fl,δ',μ',e,ok,hd,hf,h⟩:=zq2;unfold Ik at hf;cases e0:δ[i]? with
  |none=>rw[e0]at hf;cases hf
  |some oo=>
   cases oo with
   |none=>rw[e0]at hf;cases hf
   |some z=>
    rw[e0]at hf;obtain⟨⟨y,μ1⟩,e1,hf⟩:=Zbs hf;obtain⟨⟨d,μ2⟩,e2,e3⟩:=Zp.mp hf;obtain⟨rfl,a,b,c,rfl,rfl,rfl,q⟩:=ho _ _ _ _ _ e2;cases e3;obtain⟨v,ev,dv⟩:=hd.2 i _ e0;rw[bF dv]at ev;refine⟨.int a,ev,W,δ,_,_,e,ok,hd,e1,λu W1 ok1 l1 m1 d1=>?_⟩;rw[bF d1];exact q _ _ (h _ W1 ok1 l1 m1 ((hd.mono' l1).set gk))
theorem Dg(hN:X.N.Nodup)(he:PD X tb e f)(hi:X.N[i]? =some x:=by rfl)(hx:Loc X.env.scope x:=by first|exact Or.inl rfl|exact Or.inr rfl)(hf:X.fn x=true∨X.env.scope.names.lookup x=some .local:=by first|exact .inl rfl|exact .inr rfl|assumption):PSD X tb (.AugAssign (.Name x pos') .Mult e pos) (Ik i f Gk):=
 Vr hN he Qo hi hx hf λx y μ d μ' h=>by
  unfold Gk at h;split at h
  .split at h
   .rename_i hb;cases h;exact⟨rfl,_,_,_,rfl,rfl,rfl,λH Q q=>⟨_,_,rfl,rfl,hb,q⟩⟩
   .cases h
  .cases h
end
def vV:D->Bool
 | .non=>true
 | .bl _=>true
 | .int _=>true
 | .str _=>true
 |_=>false
def eqF:D->D->Bool
 | .non,.non=>true
 | .bl a,.bl b=>a==b
 | .bl a,.int b=>(if a then 1 else 0)==b
 | .int a,.bl b=>a==(if b then 1 else 0)
 | .int a,.int b=>a==b
 | .str a,.str b=>a==b
 |_,_=>false
def inF(x:D)(ds:List D):Bool:=ds.any λy=>eqF y x
def oIn(neg:Bool):O2:=λx y μ=>(dB y μ).bind λds=>if vV x=true/\ds.all vV=true then some (.bl (if neg then !inF x ds else inF x ds),μ)else none
section
variable {K:Zw} {tb:List Addr} {W:Wd}
theorem vU(h:Den K tb W x v)(f:vV x=true):qT v=true/\(∀y u,Den K tb W y u->vV y=true->eqV v u=eqF x y):=by
 cases x with
 |non=>rw[rM h];refine⟨rfl,λy u d g=>?_⟩;cases y<;>first|(rw[rM d];rfl)|(rw[lN d];rfl)|(rw[bF d];rfl)|(rw[nG d];rfl)|cases g
 |bl b=>rw[lN h];refine⟨rfl,λy u d g=>?_⟩;cases y<;>first|(rw[rM d];rfl)|(rw[lN d];rfl)|(rw[bF d];rfl)|(rw[nG d];rfl)|cases g
 |int b=>rw[bF h];refine⟨rfl,λy u d g=>?_⟩;cases y<;>first|(rw[rM d];rfl)|(rw[lN d];rfl)|(rw[bF d];rfl)|(rw[nG d];rfl)|cases g
 |str b=>rw[nG h];refine⟨rfl,λy u d g=>?_⟩;cases y<;>first|(rw[rM d];rfl)|(rw[lN d];rfl)|(rw[bF d];rfl)|(rw[nG d];rfl)|cases g
 |_=>cases f
theorem tU(h:Den K tb W x v)(f:vV x=true):∀{ds:List D}{vs:List V},dN K tb W ds vs->ds.all vV=true->vs.all qT=true/\inV v vs=inF x ds
 | [],vs,r,_=>by
  have r':aG _ _ _ _ _:=r;unfold aG at r';subst r';exact⟨rfl,rfl⟩
 |d::ds,vs,r,g=>by
  have r':aG _ _ _ _ _:=r;unfold aG at r';obtain⟨u,us,rfl,p,r2⟩:=r';rw[List.all_cons,Zo]at g;obtain⟨h1,h2⟩:=tU h f (show dN K tb W ds us from r2) g.2;obtain⟨h3,h4⟩:=vU (show Den K tb W d u from p) g.1;refine⟨by rw[List.all_cons,h3,h1];rfl,?_⟩
  show(eqV u v||inV v us)=(eqF d x||inF x ds)
  rw[h4 x v h f,h2]
end
theorem Xw:OpD X tb (compareOp .In) (oIn false):=⟨_,Iu,λW x y v u d μ' Q ok dx dy ho h=>by
 unfold oIn at ho;obtain⟨ds,e1,e2⟩:=Zbs ho;split at e2
 .rename_i hf;cases e2;obtain⟨a,xs,rfl,q,r⟩:=kW ok dy e1;obtain⟨h1,h2⟩:=tU dx hf.1 r hf.2;refine⟨a,xs,rfl,SqB.or q,(vU dx hf.1).1,h1,?_⟩;rw[h2];exact put ok h gK
 .cases e2⟩
theorem Mp:OpD X tb (compareOp .NotIn) (oIn true):=⟨_,yO,λW x y v u d μ' Q ok dx dy ho h=>by
 unfold oIn at ho;obtain⟨ds,e1,e2⟩:=Zbs ho;split at e2
 .rename_i hf;cases e2;obtain⟨a,xs,rfl,q,r⟩:=kW ok dy e1;obtain⟨h1,h2⟩:=tU dx hf.1 r hf.2;refine⟨a,xs,rfl,SqB.or q,(vU dx hf.1).1,h1,?_⟩;rw[h2];exact put ok h gK
 .cases e2⟩
open PySem.SeqAt
theorem KR(hr:dH k X.A):OpR X (compareOp .NotEq) (λv u H Q=>∃a b xs ys,v= .ref a/\u= .ref b/\SqL X.K H a xs/\SqL X.K H b ys/\xs.length≠ys.length/\Q (.bl true) H):=by
 intro pins s σ H v u vv uu Q I rv ru h;obtain⟨a,b,xs,ys,rfl,rfl,hx,hy,hl,q⟩:=h;have hun:=hr.un;cases rv;cases ru;obtain⟨its0,iv0,pl0,hz0⟩:=I.list hx;obtain⟨its1,iv1,pl1,hz1⟩:=I.list hy;have hl':its0.length≠its1.length:=by rw[<-iv0.length,<-iv1.length];exact hl
 exact RcNeAt.lists_lengths (A:=X.A) pl0.isList pl1.isList (by simpa using hl') (by lia) X.prog X.w X.xe _ ⟨.bl true,H,I,rfl,q⟩
def vH:O2:=λx y μ=>match x,y with
 | .lst ds,.lst []=>some (.bl (!ds.isEmpty),μ)
 |x,y=>oNe x y μ
theorem Ez:vH x y μ=oNe x y μ∨∃d ds,x= .lst (d::ds)/\y= .lst []/\vH x y μ=some (.bl true,μ):=by
 unfold vH;split
 .rename_i ds;cases ds with
  |nil=>left;unfold oNe rsv;simp[dq,gG,iQ,jV,eqD,lu]
  |cons d ds=>exact .inr ⟨d,ds,rfl,rfl,rfl⟩
 .exact .inl rfl
theorem JQ{X:Cx}{tb:List Addr}{k:Nat}(hr:dH k X.A):OpD X tb (compareOp .NotEq) vH:=⟨_,(Nr hr).or (KR hr),λW x y v u d μ' Q ok dx dy ho h=>by
 rcases Ez (x:=x) (y:=y) (μ:=W.mu)with e|⟨d',ds,rfl,rfl,e⟩
 .rw[e]at ho;unfold oNe at ho;split at ho
  .rename_i hc;cases ho;rw[Zo]at hc;exact .inl ⟨_,_,qj ok dx hc.1.1,qj ok dy hc.1.2,hc.2,put ok h gK⟩
  .cases ho
 .rw[e]at ho;cases ho;obtain⟨a,xs,rfl,q,r⟩:=ph dx;obtain⟨b,ys,rfl,q2,r2⟩:=ph dy;refine .inr ⟨a,b,xs,ys,rfl,rfl,SqL.fz q,SqL.fz q2,?_,put ok h gK⟩;have h1:=aG.length r;have h2:=aG.length r2;simp at h1 h2
  lia⟩
def CP(fa fb:EF):LF:=λδ μ=>(fa δ μ).bind λr=>(fb δ r.2).bind λq=>match r.1,q.1 with
 | .lst xs,.int k=>if -(2 ^ 63)<=k/\k<2 ^ 63/\xs.length*k.toNat<=sizeLine then some ((List.replicate k.toNat xs).flatten,q.2)else none
 |_,_=>none
theorem OJ(ha:PD X tb a fa)(hb:PD X tb b fb):PDN X tb (.BinOp a .Mult b pos) (CP fa fb):=
 gW (Ju Kp ha hb) λσ H Q zq2=>by
  obtain⟨W,δ,ds,μ',e,ok,hd,hf,h⟩:=zq2;unfold CP at hf;obtain⟨⟨x,μ1⟩,e1,hf⟩:=Zbs hf;obtain⟨⟨y,μ2⟩,e2,hf⟩:=Zbs hf;refine⟨W,δ,x,μ1,e,ok,hd,e1,λv W1 ok1 l1 m1 d1=>⟨W1,δ,y,μ2,rfl,ok1,hd.mono' l1,(by rw[m1];exact e2),λu W2 ok2 l2 m2 d2=>?_⟩⟩
  have d1:=Den.mono' d1 l2;cases x with
  |lst xs=>
   cases y with
   |int k=>
    have hf':(if -(2 ^ 63)<=k/\k<2 ^ 63/\xs.length*k.toNat<=sizeLine then some ((List.replicate k.toNat xs).flatten,μ2)else none)=some (ds,μ'):=hf;split at hf'
    .rename_i hz;cases hf';obtain⟨c,us,rfl,q1,r1⟩:=qD d1;rw[bF d2];exact⟨c,k,us,rfl,rfl,(gw q1).1,hz.1,hz.2.1,by rw[<-aG.length r1];exact hz.2.2,λp hp=>h p _ W2 ok2 (l1.trans l2) m2 hp (uK r1 _)⟩
    .cases hf'
   |_=>cases hf
  |_=>cases y<;>cases hf
def vQ:D->Mu->Option (List D)
 | .lst ds,_=>some ds
 | .cell n,μ=>(μ[n]?).join
 |_,_=>none
theorem xu{K:Zw}{tb:List Addr}{W:Wd}{x:D}{v:V}{ds:List D}(ok:WOk K tb W)(h:Den K tb W x v)(e:vQ x W.mu=some ds):∃a xs,v= .ref a/\W.H a=some (.lst xs)/\dN K tb W ds xs:=by
 cases x with
 |lst es=>
  cases e;obtain⟨a,xs,rfl,q,r⟩:=qD h;exact⟨a,xs,rfl,(gw q).1,r⟩
 |cell n=>
  obtain⟨a,rfl,q⟩:=jB h;have e:(W.mu[n]?).join=some ds:=e;cases e2:W.mu[n]? with
  |none=>rw[e2]at e;cases e
  |some o=>
   rw[e2]at e;have e:o=some ds:=e;subst e;obtain⟨xs,ex,r⟩:=ok.cont n a ds q e2;exact⟨a,xs,rfl,ex,r⟩
 |_=>cases e
def Jw(fa fb:EF):LF:=λδ μ=>(fa δ μ).bind λr=>(fb δ r.2).bind λq=>(vQ r.1 q.2).bind λxs=>(vQ q.1 q.2).bind λys=>if xs.length+ys.length<=sizeLine then some (xs++ys,q.2)else none
theorem QJ(ha:PD X tb a fa)(hb:PD X tb b fb):PDN X tb (.BinOp a .Add b pos) (Jw fa fb):=
 gW (Ju JS ha hb) λσ H Q zq3=>by
  obtain⟨W,δ,ds,μ',e,ok,hd,hf,h⟩:=zq3;unfold Jw at hf;obtain⟨⟨x,μ1⟩,e1,hf⟩:=Zbs hf;obtain⟨⟨y,μ2⟩,e2,hf⟩:=Zbs hf;obtain⟨xs,e3,hf⟩:=Zbs hf;obtain⟨ys,e4,hf⟩:=Zbs hf;refine⟨W,δ,x,μ1,e,ok,hd,e1,λv W1 ok1 l1 m1 d1=>⟨W1,δ,y,μ2,rfl,ok1,hd.mono' l1,(by rw[m1];exact e2),λu W2 ok2 l2 m2 d2=>?_⟩⟩
  have d1:=Den.mono' d1 l2;split at hf
  .rename_i hz;cases hf;obtain⟨a1,us,rfl,q1,r1⟩:=xu ok2 d1 (by rw[m2];exact e3)
   obtain⟨a2,ws,rfl,q2,r2⟩:=xu ok2 d2 (by rw[m2];exact e4)
   exact⟨a1,a2,us,ws,rfl,rfl,q1,q2,by rw[<-aG.length r1,<-aG.length r2];exact hz,λp hp=>h p _ W2 ok2 (l1.trans l2) m2 hp (aG.append r1 r2)⟩
  .cases hf
end L3
namespace L2
open PySem PySem.Spec PyProof.Rows
section
variable {X:Cx} {pos:Pos}
def ZZ(i j k:Nat)(ta:TA):TS:=λD σ H=>ta σ H λvs H1=>∃v w z,vs=[v,w,z]/\D.nx (((σ.set i (some v)).set j (some w)).set k (some z)) H1
theorem Om{kt k2 pt2}(hc:X.calm=true)(hN:X.N.Nodup)(hi:X.N[i]? =some x)(hj:X.N[j]? =some y)(hk:X.N[k]? =some z)(hij:i≠j)(hik:i≠k)(hjk:j≠k)
  (hx:X.env.scope.names.lookup x=some .local) (hy:X.env.scope.names.lookup y=some .local) (hz:X.env.scope.names.lookup z=some .local) (ha:PA X [a,b,c] ta)
  (hw:swappedStores [.Tuple [.Name x px,.Name y py,.Name z pz] kt pt] (.Tuple [a,b,c] k2 pt2) X.env=pure (some [x,y,z]))
  (hs:swapsWithSole [.Tuple [.Name x px,.Name y py,.Name z pz] kt pt] (.Tuple [a,b,c] k2 pt2) pos.line X.env=pure false:=by rfl):
  PS X (.Assign [.Tuple [.Name x px,.Name y py,.Name z pz] kt pt] (.Tuple [a,b,c] k2 pt2) pos) (ZZ i j k ta):=by
 intro pins s σ H D I h;rw[exec_Assign_arm];refine Zv (wpAny_standAt ?_);rw[hs];refine Zv (Zx ?_);rw[if_neg (by decide)]
 refine Zv (Tuple_ (thn (ha _ pins s σ H _ I h) λus s1 zq4=>?_));obtain⟨vs,H1,I1,r1,q1⟩:=zq4;obtain⟨v,w,t,e1,q1⟩:=q1;subst e1;obtain⟨u1,u2,u3,rfl,rv,rw',rt⟩:∃u1 u2 u3,us=[u1,u2,u3]/\cI v u1/\cI w u2/\cI t u3:=by
  cases r1 with
  |cons p q=>
   cases q with
   |cons p' q'=>
    cases q' with
    |cons p'' q''=>
     cases q'';exact⟨_,_,_,rfl,p,p',p''⟩
 refine Zz ?_ (by show 3<=sizeLine;decide)
 have I2:Inv X pins σ H1 { s1 with heap:=s1.heap.push { cls:=.type "tuple",data:=.seq [u1,u2,u3].toArray} }:=I1.kept (t':=s1.toks) λb o e=>Zb _ e
 rw[hw];refine Zv (Zx ?_);show wpAny (model X.prog X.w) X.A (do rule "assign.swapped-stores";let items<-unpackItems (.ref s1.heap.objs.size) 3 none;assignInOrder [λv=>bindName X.env z v,λv=>bindName X.env y v,λv=>bindName X.env x v] items.reverse;pure Flow.next) _ _ _
 refine Zv (wpAny_rule (Zv (unpackItems_tuple (items:= #[u1,u2,u3]) (I.ok.hd hc) (IsTup.new s1.heap _) λh' hx'=>?_)));have I3:=I2.kept (h':=h') (t':=s1.toks) λb o e=>hx' b o (Zk (Ze e)) e;show wpAny _ _ (assignInOrder [λv=>bindName X.env z v,λv=>bindName X.env y v,λv=>bindName X.env x v] [u3,u2,u1] >>= λ_=>pure Flow.next) _ _ _;refine Zv (assignInOrder_cons (wpAny_bindName (lA I3 hN hk (.inl hz) rt (λs2 I4=>?_) (.inr hz))));refine assignInOrder_cons (wpAny_bindName (lA I4 hN hj (.inl hy) rw' (λs3 I5=>?_) (.inr hy)));refine assignInOrder_cons (wpAny_bindName (lA I5 hN hi (.inl hx) rv (λs4 I6=>assignInOrder_nil (Zx ?_)) (.inr hx)));have e:((σ.set k (some t)).set j (some w)).set i (some v)=((σ.set i (some v)).set j (some w)).set k (some t):=by
  rw[List.set_comm _ _ (Ne.symm hij),List.set_comm _ _ (Ne.symm hik),List.set_comm (l:=σ.set i (some v)) _ _ (Ne.symm hjk)]
 rw[e]at I6;exact⟨_,H1,I6,q1⟩
end
end L2
namespace L3
open PySem PySem.Spec PyProof.Rows L2
def Aj(i j k:Nat)(fs:AF):SF:=λδ μ=>(fs δ μ).bind λr=>match r.1 with
 | [x,y,z]=>some (.nx,((δ.set i (some x)).set j (some y)).set k (some z),r.2)
 |_=>none
theorem Ca{kt k2 pt2}(hc:X.calm=true)(hN:X.N.Nodup)(ha:PAD X tb [a,b,c] fs)(hij:i≠j:=by decide)(hik:i≠k:=by decide)(hjk:j≠k:=by decide)(hi:X.N[i]? =some x:=by rfl)(hj:X.N[j]? =some y:=by rfl)(hk:X.N[k]? =some z:=by rfl)
  (hx:X.env.scope.names.lookup x=some .local:=by rfl) (hy:X.env.scope.names.lookup y=some .local:=by rfl) (hz:X.env.scope.names.lookup z=some .local:=by rfl)
  (hw:swappedStores [.Tuple [.Name x px,.Name y py,.Name z pz] kt pt] (.Tuple [a,b,c] k2 pt2) X.env=pure (some [x,y,z]):=by rfl)
  (hs:swapsWithSole [.Tuple [.Name x px,.Name y py,.Name z pz] kt pt] (.Tuple [a,b,c] k2 pt2) pos.line X.env=pure false:=by rfl):
  PSD X tb (.Assign [.Tuple [.Name x px,.Name y py,.Name z pz] kt pt] (.Tuple [a,b,c] k2 pt2) pos) (Aj i j k fs):=
 mX (Om hc hN hi hj hk hij hik hjk hx hy hz ha hw hs) λE σ H zq5=>by
  obtain⟨W,δ,fl,δ',μ',e,ok,hd,hf,h⟩:=zq5;unfold Aj at hf;obtain⟨⟨xs,μ1⟩,e1,e2⟩:=Zbs hf
  match xs,e1,e2 with
  | [x,y,z],e1,e2=>
   cases e2;refine⟨W,δ,_,_,e,ok,hd,e1,λvs W1 ok1 l1 m1 d1=>?_⟩;unfold dN aG at d1;obtain⟨u,us,rfl,du,d1⟩:=d1;obtain⟨v,w,rfl,dv,dw⟩:=aG.two d1;exact⟨u,v,w,rfl,h _ W1 ok1 l1 m1 ((((hd.mono' l1).set du).set dv).set dw)⟩
theorem us0{α:Type}{P:List α->Prop}(h:P []):∀us:List α,us.length=0->P us
 | [],_=>h
theorem us1{α:Type}{P:List α->Prop}(h:∀a,P [a]):∀us:List α,us.length=1->P us
 | [a],_=>h a
theorem us2{α:Type}{P:List α->Prop}(h:∀a b,P [a,b]):∀us:List α,us.length=2->P us
 | [a,b],_=>h a b
theorem us3{α:Type}{P:List α->Prop}(h:∀a b c,P [a,b,c]):∀us:List α,us.length=3->P us
 | [a,b,c],_=>h a b c
theorem us4{α:Type}{P:List α->Prop}(h:∀a b c d,P [a,b,c,d]):∀us:List α,us.length=4->P us
 | [a,b,c,d],_=>h a b c d
theorem us5{α:Type}{P:List α->Prop}(h:∀a b c d e,P [a,b,c,d,e]):∀us:List α,us.length=5->P us
 | [a,b,c,d,e],_=>h a b c d e
theorem us6{α:Type}{P:List α->Prop}(h:∀a b c d e f,P [a,b,c,d,e,f]):∀us:List α,us.length=6->P us
 | [a,b,c,d,e,f],_=>h a b c d e f
structure Got(K:Zw)(x:Str)(st:Stmt)(f c P:Addr)(fd:FuncData):Prop where
 F:Oa K x x st f fd P
 m:PySem.W.nsIn K mainGlobals x=some (some (.ref f))
 t:PySem.W.tabIn K x=some (c,P)
 e:∃kV dc pm an ct,fd=PySem.W.fnOf x x (nq st) (jA st) (dF st) .none kV dc pm an (.ref c) ct
theorem Vh{K:Zw}{x:Str}{st:Stmt}{f c P:Addr}{oc:Value}{od an:Option Addr}{osl:Array (Option Value)}{kV doc pm ct:Value}{dd:Option Addr}{vs:Array Value}{sl:Array (Option Value)}(a:PySem.W.nsIn K mainGlobals x=some (some (.ref f)))
  (l:K.lookup f=some ⟨oc,od,.func (PySem.W.fnOf x x (nq st) (jA st) (dF st) .none kV doc pm an (.ref c) ct),osl⟩) (hc:PySem.W.codeIn K (.ref c) x=true) (k:PySem.W.keepIn K (.ref f)=true)
  (lc:K.lookup c=some ⟨.type "code",dd,.fields vs,sl⟩) (p:vs[11]? =some (.ref P)) (q:zq vs=true) (ne:(c != P)=true):∃f c P fd,Got K x st f c P fd:=
 ⟨f,c,P,_,OD l hc k lc p q ne,a,Wm a l rfl lc p,kV,doc,pm,an,ct,rfl⟩
end L3
namespace L2
open PySem PySem.Spec PyProof.Rows PySem.W
theorem xY:∀{ns:List Int}{us:List Value},bM (ns.map V.int) us->IntsAre us ns
 | [],_,.nil=>.nil
 |n::ns,_,.cons ⟨t,e⟩ r=>by subst e;exact .cons n t (xY r)
end L2
namespace L3
open PySem PySem.Spec PyProof.Rows L2
def wu:List D->Option (List Int)
 | []=>some []
 | .int i::r=>(wu r).map (i:: ·)
 |_=>none
theorem BK:∀{ds:List D}{ns:List Int},wu ds=some ns->ds=ns.map .int
 | [],ns,h=>by cases h;rfl
 |d::r,ns,h=>by
  cases d with
  |int i=>
   obtain⟨ms,e,rfl⟩:=Zp.mp (show(wu r).map (i:: ·)=some ns from h);rw[BK e];rfl
  |_=>cases h
theorem Bd:∀(ns:List Int),wu (ns.map .int)=some ns
 | []=>rfl
 |n::ns=>by
  show(wu (ns.map .int)).map (n:: ·)=_;rw[Bd ns];rfl
theorem BL{K:Zw}{tb:List Addr}{W:Wd}:∀{ns:List Int}{xs:List V},dN K tb W (ns.map .int) xs->xs=ns.map V.int
 | [],xs,h=>by
  have:=aG.length h;cases xs with
  |nil=>rfl
  |cons a b=>cases this
 |n::ns,xs,h=>by
  cases xs with
  |nil=>have:=aG.length h;cases this
  |cons a b=>
   obtain⟨u,us,e,h1,h2⟩:∃u us,a::b=u::us/\bN K (Wd.fz tb W) W.ad (.int n) u/\aG K (Wd.fz tb W) W.ad (ns.map .int) us:=by unfold dN aG at h;exact h
   cases e;rw[bF h1,BL h2];rfl
open PySem.SeqAt
theorem Um(hr:dH k X.A):OpR X (compareOp .Eq) (λv u H Q=>∃a b xs,v= .ref a/\u= .ref b/\SqT X.K H a xs/\SqT X.K H b []/\Q (.bl xs.isEmpty) H):=by
 intro pins s σ H v u vv uu Q I rv ru h;obtain⟨a,b,xs,rfl,rfl,hx,hy,q⟩:=h;have hun:=hr.un;cases rv;cases ru;obtain⟨its0,iv0,pl0,hz0⟩:=I.tuple hx;obtain⟨its1,iv1,pl1,hz1⟩:=I.tuple hy;have e1:its1=[]:=List.eq_nil_of_length_eq_zero (by rw[<-iv1.length];rfl)
 subst e1;have rc:=RcAt.tuples (A:=X.A) (e:=λ_=>true) pl0 pl1 (by lia) (λj h1 h2=>absurd h2 (by simp))
 have e2:((List.range (min its0.toArray.size ([]:List Value).toArray.size)).all (λ_=>true)&&its0.toArray.size==([]:List Value).toArray.size)=xs.isEmpty:=by
  have hl:=iv0.length;cases xs with
  |nil=>
   have:its0=[]:=List.eq_nil_of_length_eq_zero hl.symm;subst this;rfl
  |cons x xs=>
   cases its0 with
   |nil=>cases hl
   |cons y ys=>simp
 rw[e2]at rc;exact rc X.prog X.w X.xe _ ⟨.bl xs.isEmpty,H,I,rfl,q⟩
def Ci:O2:=λx y μ=>match x,y with
 | .tup ds,.tup []=>some (.bl ds.isEmpty,μ)
 |x,y=>oEq x y μ
theorem Dz:Ci x y μ=oEq x y μ∨∃ds,x= .tup ds/\y= .tup []/\Ci x y μ=some (.bl ds.isEmpty,μ):=by
 unfold Ci;split
 .exact .inr ⟨_,rfl,rfl,rfl⟩
 .exact .inl rfl
theorem Vu{X:Cx}{tb:List Addr}{k:Nat}(hr:dH k X.A):OpD X tb (compareOp .Eq) Ci:=⟨_,(JH hr).or (Um hr),λW x y v u d μ' Q ok dx dy ho h=>by
 rcases Dz (x:=x) (y:=y) (μ:=W.mu)with e|⟨ds,rfl,rfl,e⟩
 .rw[e]at ho;unfold oEq at ho;split at ho
  .rename_i hc;cases ho;rw[Zo]at hc;exact .inl ⟨_,_,qj ok dx hc.1.1,qj ok dy hc.1.2,hc.2,put ok h gK⟩
  .cases ho
 .rw[e]at ho;cases ho;obtain⟨a,xs,rfl,q,r⟩:=jP dx;obtain⟨b,ys,rfl,q2,r2⟩:=jP dy;have e1:ys=[]:=List.eq_nil_of_length_eq_zero (aG.length r2).symm;subst e1;have e2:xs.isEmpty=ds.isEmpty:=by
   have:=aG.length r;cases ds<;>cases xs<;>first|rfl|cases this
  refine .inr ⟨a,b,xs,rfl,rfl,SqT.fz q,SqT.fz q2,?_⟩;rw[e2];exact put ok h gK⟩
end L3
namespace L2
open PySem PySem.Spec PyProof.Rows
theorem HS{X:Cx}(hc:X.calm=true):lO X (.builtin "max") (λxs H Q=>∃(a:Addr)(ns:List Int),xs=[.ref a]/\SqL X.K H a (ns.map V.int)/\0<ns.length/\∀M,M∈ns->(∀a∈ns,a<=M)->Q (.int M) H):=by
 intro pins s σ H xs us Q I r h;obtain⟨a,ns,rfl,hq,hne,q⟩:=h;obtain⟨u,rfl,rx⟩:=vals1 r;cases rx;obtain⟨its,r',pl,hz⟩:=I.list hq;have hi:=xY r';have hl:=pl.isList;obtain⟨xs,e⟩:=hi.allInts.items;have hns:ns=xs.toList.map (·.1):=by rw[<-hi.numsOf,<-nums_intItems,<-e]
 have hsz:0<xs.size:=by
  have h3:=hne;rw[hns,Zu,Array.length_toList]at h3;exact h3
 rw[e]at hl;refine max_intList (I.ok.hd hc) hl hsz λv h' tk hv hk=>?_;obtain⟨t,rfl⟩:=intItems_at hv;obtain⟨h1,h2⟩:=argBest_gt (numAt xs) (xs.size-1);refine⟨.int _,H,I.kept hk,⟨t,rfl⟩,q _ ?_ λa ha=>?_⟩
 .rw[hns,numAt_eq];exact getD_mem (by rw[Zu,Array.length_toList];lia)
 .rw[hns]at ha;obtain⟨j,hj,rfl⟩:=mem_getD ha;rw[Zu,Array.length_toList]at hj;rw[<-numAt_eq];exact h2 j (by lia)
end L2
namespace L3
open PySem PySem.Spec PyProof.Rows L2
def nW:List Int->Int
 | []=>0
 | [n]=>n
 |n::m::ns=>max n (nW (m::ns))
theorem Gu:∀{ns:List Int}{M:Int},M∈ns->(∀a∈ns,a<=M)->M=nW ns
 | [n],M,h,_=>ZI.mp h
 |n::m::ns,M,h,k=>by
  unfold nW
  rcases Zi.mp h with z|z
  .subst z;have hm:nW (m::ns)<=M:=by
    have:∀(l:List Int),l≠[]->nW l∈l:=by
     intro l
     induction l with
     |nil=>exactλh=>absurd rfl h
     |cons a l ih=>
      intro _;cases l with
      |nil=>simp[nW]
      |cons b l=>
       unfold nW;have:=ih (by simp)
       by_cases hab:a<=nW (b::l)
       .rw[Int.max_eq_right hab];exact ZE _ this
       .rw[Int.max_eq_left (by lia)];simp
    exact k _ (ZE _ (this _ (by simp)))
   rw[Int.max_eq_left hm]
  .have e:=Gu z λa ha=>k a (ZE _ ha);rw[<-e];rw[Int.max_eq_right (k n (by simp))]
def vO:O1':=λx μ=>match x with
 | .lst ds=>match wu ds with
  |some (n::ns)=>some (.int (nW (n::ns)),μ)
  |_=>none
 |_=>none
theorem Ad{ns:List Int}{μ:Mu}(h:ns≠[]):vO (.lst (ns.map .int)) μ=some (.int (nW ns),μ):=by
 unfold vO;cases ns with
 |nil=>exact absurd rfl h
 |cons n ns=>
  have:=Bd (n::ns);simp only[this]
theorem Hg{X:Cx}{tb:List Addr}{a:Expr}{fs:AF}{p pos:Pos}(hc:X.calm=true)(hm:X.mg "max"=none)(ha:PAD X tb [a] fs)(hg:Gl X "max":=by rfl)(he:starEach [a] X.env=(false,eval a X.env)::starEach [] X.env:=by rfl):PD X tb (.Call (.Name "max" p) [a] [] pos) (MC fs (aO vO)):=
 Ak (λta ha=>nZ (HS hc) hg hm PyProof.Rows.boot_max ha (by decide) (by decide) he (by rfl)) (λW xs vs d μ' Q ok r ho h=>by
  obtain⟨x,rfl,ho⟩:=rF ho;obtain⟨v,rfl,dv⟩:=aG.one r;cases x with
  |lst ds=>
   have ho:(match wu ds with|some (n::ns)=>some (D.int (nW (n::ns)),W.mu)|_=>none)=some (d,μ'):=ho
   split at ho
   .rename_i n ns hi;cases ho;have hds:=BK hi;obtain⟨a,xs,e,q,r⟩:=kW ok dv rfl;rw[hds]at r;have hx:=BL r;subst hx;exact⟨a,n::ns,by rw[e],(show SqL X.K W.H a _ from q),by simp,λM h1 h2=>by rw[Gu h1 h2];exact put ok h gk⟩
   .cases ho
  |_=>cases ho) ha
end L3
namespace PySem
open Sem (wp)
open AutoSeq1 (wpAny_loadPart')
section
variable {prog:Zpr} {w:World} {A:Zar} {E:Value->Zsh->Prop} {s:Zsh}
theorem Cm{Q:List Value->Zsh->Prop}{r:Addr}{a b c:Int}{t u v:Tok}{n:Nat}(hh:A.handled=none)(hr:IsRange s.heap r a b c t u v)(hsmall:Builtin.Range.small a b c=true)
  (hn:Builtin.Range.rangeSize a b c=n) (hlen:n<=2 ^ 24)
  (hQ:∀h' tk acc,(∀b o,s.heap.get? b=some o->h'.get? b=some o)->ItemsOf (λi v=>∃t,v= .int (a+i*c) t) acc n->Q acc.toList { s with heap:=h',toks:=tk}):
  wpAny (model prog w) A (collect (.ref r)) Q E s:=by
 unfold collect;refine Zv (wpAny_runValue (codeAny_builtin F.entry_proto_collect ?_));rw[Around.under_plainId F.plain_proto_collect _];show wpAny _ A.in1 (newList [] >>= λl=>again (.builtin "list.__iadd__" ⟨[l,.ref r],[]⟩)) _ _ s;refine Zv (Zz ?_);refine Zx ⟨plainId_quiet F.plain_list_iadd _,codeAny_builtin F.entry_list_iadd ?_⟩;rw[Around.under_plainId F.plain_list_iadd _];show wpAny _ A.in1 (Builtin.List.listExtendWith (.ref s.heap.objs.size) (.ref r) (.ref s.heap.objs.size)) _ _ _;have hS:(s.heap.push { cls:=.type "list",data:=.seq ([]:List Value).toArray}).get? s.heap.objs.size=some { cls:=.type "list",data:=.seq #[] 0}:=Zf _ rfl;refine Zy (wpAny_extend_range (A:=A) (R:=λr s'=>r= .ok (.ret (.ref s.heap.objs.size))/\∃h' tk acc' c',(∀b o,s.heap.get? b=some o->h'.get? b=some o)/\h'.get? s.heap.objs.size=some { cls:=.type "list",dict:=none,data:=.seq acc' c',slots:= #[] }/\ItemsOf (λi v=>∃t,v= .int (a+i*c) t) acc' n/\s'={ s with heap:=h',toks:=tk})
  (s:={ s with heap:=s.heap.push { cls:=.type "list",data:=.seq ([]:List Value).toArray} }) hh (Zb _ hr) hsmall hn hlen _ _ 0 hS λh' tk acc' c' hk hS' hacc=>⟨rfl,h',tk,acc',c',λb o e=>hk b o (Zk (Ze e)) (Zb _ e),hS',hacc,rfl⟩) (λfin s' h=>?_) (λe s' h=>?_)
 .have fin':∀(r':Result)(s':Zsh),(r'= .ok (.ret (.ref s.heap.objs.size))/\∃h' tk acc' c',(∀b o,s.heap.get? b=some o->h'.get? b=some o)/\h'.get? s.heap.objs.size=some { cls:=.type "list",dict:=none,data:=.seq acc' c',slots:= #[] }/\ItemsOf (λi v=>∃t,v= .int (a+i*c) t) acc' n/\s'={ s with heap:=h',toks:=tk})->wpAny (model prog w) A (match Value.ref s.heap.objs.size with
   |Value.ref a=>do
    match(<-load a).data with
     |Data.seq xs _=>pure xs.toList
     |_=>unsupported "internal:collect"
   |_=>unsupported "internal:collect") Q E s':=by
   rintro r' s' ⟨_,h',tk,acc',c',h1,h2,h3,rfl⟩;show wpAny _ A (load s.heap.objs.size >>= _) _ _ _;refine Zv (wpAny_load h2 ?_);exact Zx (hQ h' tk acc' h1 h3)
  cases fin with
  |done f=>
   have e:=h.1;cases e;exact fin' _ _ h
  |again c'=>exact⟨h.1,codeAny_mono h.2 λr s'' hr=>by
   have e:=hr.1;subst e;exact fin' _ _ hr⟩
 .exact absurd h.1 (by simp)
end
theorem uw(r:Addr)(a b c:Int)(t u v:Tok)(n:Nat)(hsmall:Builtin.Range.small a b c=true)(hn:Builtin.Range.rangeSize a b c=n)(hlen:n<=2 ^ 24):
  Meets (Builtin.«tuple.__new__» ⟨[.type "tuple",.ref r],[]⟩)
   (λA R s=>A.handled=none/\IsRange s.heap r a b c t u v/\∀(h':Heap)(tk:Nat)(acc:Array Value),(∀b o',s.heap.get? b=some o'->h'.get? b=some o')->ItemsOf (λi v=>∃t,v= .int (a+i*c) t) acc n->R (.ok (.ret (.ref h'.objs.size))) { s with heap:=h'.push { cls:=.type "tuple",data:=.seq acc},toks:=tk}):=
 .of_wp λprog w A R s h=>by
  obtain⟨hp,g,d,tk,os⟩:=s;obtain⟨hh,hr,h⟩:=h;have hsub:=sub_tuple_self;have hinit:=init_tuple_lookup;have hmh:=madeHere_tuple;have hT:Shared.TypeIs ⟨hp,g,d,tk,os⟩ (.ref r) "range":=⟨_,hr,rfl⟩;have hh1:A.in1.handled=none:=hh
  wp_walk using wpAny_loadPart' hr,wpAny_typeOf hT,Cm hh1 hr hsmall hn hlen
  intro h' tk acc hk hacc;show wpAny _ _ (Builtin.Tuple.tupleExact acc.toList.toArray >>= λv=>ret v) _ _ _;unfold Builtin.Tuple.tupleExact;refine Zv (Zz ?_ (show acc.toList.toArray.size<=sizeLine by simp only[Array.toArray_toList];rw[hacc.1,sizeLine_eq];exact hlen))
  refine Zx ⟨_,rfl,?_⟩;have e:acc.toList.toArray=acc:=by simp
  rw[e];exact h h' tk acc hk hacc
theorem vN{prog:Zpr}{w:World}{A:Zar}{E:Value->Zsh->Prop}{s:Zsh}{Q:Value->Zsh->Prop}{r:Addr}{a b c:Int}{t u v:Tok}{n:Nat}(hh:A.handled=none)(hr:IsRange s.heap r a b c t u v)(hsmall:Builtin.Range.small a b c=true)
  (hn:Builtin.Range.rangeSize a b c=n) (hlen:n<=2 ^ 24)
  (h:∀(h':Heap)(tk:Nat)(acc:Array Value),(∀b o',s.heap.get? b=some o'->h'.get? b=some o')->ItemsOf (λi v=>∃t,v= .int (a+i*c) t) acc n->Q (.ref h'.objs.size) { s with heap:=h'.push { cls:=.type "tuple",data:=.seq acc},toks:=tk}):
  wpAny (model prog w) A (call (.type "tuple") [.ref r]) Q E s:=
 callType_new F.called_tuple (by decide) (F.typeCall_tuple_1 _) (F.newCall_tuple_1 _) (λobj=>F.args_object_init_2 obj _) F.entry_tuple_new
  (uw r a b c t u v n hsmall hn hlen) ⟨hh,hr,λh' tk acc hk hacc=>⟨⟨_,Zf _ rfl,rfl⟩,h h' tk acc hk hacc⟩⟩
end PySem
namespace L3
open PySem PySem.Spec PyProof.Rows L2
theorem zA(hc:X.calm=true):lO X (.type "tuple") (λxs H Q=>∃p i j,xs=[.ref p]/\H p=some (.rng i j)/\(-(2 ^ 62)<=i/\i<2 ^ 62/\ -(2 ^ 62)<=j/\j<2 ^ 62)/\(j-i).toNat<=sizeLine/\∀l,H l=none->Q (.ref l) (upd H l (.tup (QH i (j-i).toNat)))):=by
 intro pins s σ H xs us Q I r h;obtain⟨p,i,j,rfl,hp,⟨h1,h2,h3,h4⟩,hz,q⟩:=h;obtain⟨u,rfl,rx⟩:=vals1 r;cases rx;obtain⟨t,u,v,ho⟩:=I.hok p _ hp;have hn:Builtin.Range.rangeSize i j 1=((j-i).toNat:Nat):=by rw[rangeSize_one];split<;>lia
 refine vN (I.ok.hd hc) ho (small_one h1 h2 h3 h4) hn (by rw[sizeLine_eq]at hz;lia) λh' tk acc' kp it=>?_
 obtain⟨e1,e2⟩:=it;have hv:bM (QH i (j-i).toNat) acc'.toList:=by
  unfold QH;rw[List.range_eq_range'];refine wX (by simpa using e1) λk v hk=>?_
  obtain⟨t,q⟩:=e2 k v (by simpa using hk)
  exact⟨t,by rw[q];congr 1;first|done|lia⟩
 have I1:Inv X pins σ H { s with heap:=h',toks:=tk}:=I.kept (t':=tk) kp
 have I2:Inv X pins σ (upd H h'.objs.size (.tup (QH i (j-i).toNat))) { s with heap:=h'.push { cls:=.type "tuple",data:=.seq acc'},toks:=tk}:=
  I1.laid (t':=tk) (λb o e=>Zb _ e) (Zg _) (show kj X.prog X.w _ _ _ (.tup _)from⟨by rw[hv.length];simpa[e1]using hz,acc'.toList,hv,by simpa using IsTup.new (h:=h') (items:=acc')⟩)
 exact⟨.ref h'.objs.size,_,I2,rfl,q _ (I1.hok.fresh (Zg _))⟩
def aaV(fs:AF):EF:=λδ μ=>(fs δ μ).bind λr=>match r.1 with
 | [.int j]=>if -(2 ^ 62)<=j/\j<2 ^ 62/\j.toNat<=sizeLine then some (.tup (cW 0 j.toNat),r.2)else none
 |_=>none
def vP(fs:AF):EF:=λδ μ=>(fs δ μ).bind λr=>match r.1 with
 | [.int i,.int j]=>if(-(2 ^ 62)<=i/\i<2 ^ 62/\ -(2 ^ 62)<=j/\j<2 ^ 62)/\(j-i).toNat<=sizeLine then some (.tup (cW i (j-i).toNat),r.2)else none
 |_=>none
section
variable {X:Cx} {tb:List Addr} {a b:Expr} {fs:AF} {p p2 pos pos2:Pos}
theorem Mt(hc:X.calm=true)(hm:X.mg "tuple"=none)(hm2:X.mg "range"=none)(ha:PAD X tb [a,b] fs)(hg:Gl X "tuple":=by rfl)(hg2:Gl X "range":=by rfl)(he:starEach [a,b] X.env=(false,eval a X.env)::starEach [b] X.env:=by rfl)(hpl:(backTo pos2 (starEach [b] X.env)).any (·.1)=false:=by rfl)
  (he2:starEach [.Call (.Name "range" p2) [a,b] [] pos2] X.env=(false,eval (.Call (.Name "range" p2) [a,b] [] pos2) X.env)::starEach [] X.env:=by rfl):
  PD X tb (.Call (.Name "tuple" p) [.Call (.Name "range" p2) [a,b] [] pos2] [] pos) (vP fs):=
 gW (tK (zA hc) hg hm ZL (sH (tK Io hg2 hm2 PyProof.Rows.boot_range ha (by decide) (by decide) he hpl) yp he2) (by decide) (by decide) he2 (by rfl)) λσ H Q zq4=>by
  obtain⟨W,δ,d,μ',e,ok,hd,hf,k⟩:=zq4;unfold vP at hf;obtain⟨⟨xs,μ1⟩,e1,e2⟩:=Zbs hf
  match xs,e1,e2 with
  | [.int i,.int j],e1,e2=>
   have e2':(if(-(2 ^ 62)<=i/\i<2 ^ 62/\ -(2 ^ 62)<=j/\j<2 ^ 62)/\(j-i).toNat<=sizeLine then some (D.tup (cW i (j-i).toNat),μ1)else none)=some (d,μ'):=e2;split at e2'
   .rename_i hj;cases e2';refine⟨W,δ,[.int i,.int j],_,e,ok,hd,e1,λvs W1 ok1 l1 m1 d1=>?_⟩;obtain⟨v,v',rfl,dv,dv'⟩:=aG.two d1;rw[bF dv,bF dv'];refine⟨i,j,rfl,λq hq=>?_⟩;obtain⟨ok2,l2,eq⟩:=ok1.alloc (o:=.rng i j) hq;exact⟨q,i,j,rfl,ie,hj.1,hj.2,λl hl=>oZ ok2 (λv W' ok' l' m' d'=>k v W' ok' ((l1.trans l2).trans l') (m'.trans m1) d') (Gp (List.range (j-i).toNat)) hl⟩
   .cases e2'
end
theorem Nm{own:List Str}{capI:List Nat}{σ σ1 σ2:SV}{ts1 ts2:List Nat}(h1:∀i∈ts2,i<own.length)(hd:∀i∈ts2,i∉ts1)(e1:∀i,i∉ts1->σ1[i]? =(cu own σ capI)[i]?)(hl:σ2.length=σ1.length)(e2:∀i,i∉ts2->σ2[i]? =σ1[i]?):Fits σ1 σ2:=
 ⟨hl,λi v e=>by
  by_cases hi:i∈ts2
  .rw[e1 i (hd i hi)]at e;unfold cu at e;rw[Zs (by simpa using h1 i hi),List.getElem?_replicate]at e
   split at e<;>cases e
  .rw[e2 i hi];exact e⟩
open Classical in
def thP(μ:Mu)(fe:EF)(δ:En):gH:=λν=>if ν=μ then(fe δ μ).bind λr=>if r.2=μ then some (r.1,μ)else none else none
open Classical in
def oN(μ:Mu)(h:GF)(tt:TF)(fe:EF)(δ1:En):List D->Option (List gH)
 | []=>some []
 |d::r=>(h d δ1 μ).bind λδ2=>(tt δ2 μ).bind λk=>if k.2=μ then(oN μ h tt fe δ1 r).bind λts=>if k.1=true then some (thP μ fe δ2::ts)else some ts else none
open Classical in
def lw(μ:Mu)(h1:GF)(tt1:TF)(fi2:IF)(h2:GF)(tt2:TF)(fe:EF)(δb:En):List D->Option (List gH)
 | []=>some []
 |d::r=>(h1 d δb μ).bind λδ1=>(tt1 δ1 μ).bind λk=>if k.2=μ then(if k.1=true then(fi2 δ1 μ).bind λq=>if q.2=μ/\q.1.cel=none then(oN μ h2 tt2 fe δ1 q.1.items).bind λts=>(lw μ h1 tt1 fi2 h2 tt2 fe δb r).bind λus=>some (ts++us)else none else lw μ h1 tt1 fi2 h2 tt2 fe δb r)else none
def yD(own:List Str)(capI:List Nat)(fi1:IF)(h1:GF)(tt1:TF)(fi2:IF)(h2:GF)(tt2:TF)(fe:EF):StF:=λδ μ=>(fi1 δ μ).bind λr=>match r.1.cel with
 |none=>(lw r.2 h1 tt1 fi2 h2 tt2 fe (bW own δ capI) r.1.items).bind λts=>some (ts,r.2)
 |some _=>none
theorem Ua{K:Zw}{tb:List Addr}{W0 W:Wd}(ok0:WOk K tb W0)(ok:WOk K tb W)(l:Le tb W0 W)(hm:W.mu=W0.mu):W.ad=W0.ad:=by
 have hl:W.ad.length=W0.ad.length:=by rw[ok.len,ok0.len,hm]
 apply List.ext_getElem?;intro i;by_cases hi:i<W0.ad.length
 .have e:W0.ad[i]? =some W0.ad[i]:=by simp[hi]
  rw[l.ad i _ e,e]
 .rw[List.getElem?_eq_none (by lia),List.getElem?_eq_none (by lia)]
theorem Tp{K:Zw}{tb:List Addr}{W0 W V:Wd}(ok0:WOk K tb W0)(ok:WOk K tb W)(ok':WOk K tb V)(l:Le tb W0 W)(l':Le tb W0 V)(hm:W.mu=W0.mu)(hm':V.mu=W0.mu)(hH:V.H=W.H):V=W:=by
 have a:=Ua ok0 ok l hm;have b:=Ua ok0 ok' l' hm';obtain⟨H,ad,mu⟩:=W;obtain⟨H',ad',mu'⟩:=V;simp only at hm hm' a b hH;subst hm hm' a b hH;rfl
theorem vJ:∀{ds:List D}{ts:List gH},oN μ h tt fe δ1 ds=some ts->∀th∈ts,∃δ,th=thP μ fe δ
 | [],ts,e,th,ht=>by unfold oN at e;cases e;cases ht
 |d::r,ts,e,th,ht=>by
  unfold oN at e;obtain⟨δ2,e1,e⟩:=Zbs e;obtain⟨k,e2,e⟩:=Zbs e;split at e
  .obtain⟨us,e3,e⟩:=Zbs e;split at e
   .cases e
    rcases Zi.mp ht with z|z
    .exact⟨δ2,z⟩
    .exact vJ e3 th z
   .cases e;exact vJ e3 th ht
  .cases e
theorem qF:∀{ds:List D}{ts:List gH},lw μ h1 tt1 fi2 h2 tt2 fe δb ds=some ts->∀th∈ts,∃δ,th=thP μ fe δ
 | [],ts,e,th,ht=>by unfold lw at e;cases e;cases ht
 |d::r,ts,e,th,ht=>by
  unfold lw at e;obtain⟨δ1,e1,e⟩:=Zbs e;obtain⟨k,e2,e⟩:=Zbs e;split at e
  .split at e
   .obtain⟨q,e3,e⟩:=Zbs e;split at e
    .obtain⟨us,e4,e⟩:=Zbs e;obtain⟨vs,e5,e⟩:=Zbs e;cases e
     rcases Zm.mp ht with z|z
     .exact vJ e4 th z
     .exact qF e5 th z
    .cases e
   .exact qF e th ht
  .cases e
theorem DP(e:thP μ fe δ ν=some (d,μ')):ν=μ/\μ'=μ/\fe δ μ=some (d,μ):=by
 unfold thP at e;split at e
 .obtain⟨r,e1,e⟩:=Zbs e;split at e
  .cases e;refine⟨by assumption,rfl,?_⟩
   rw[e1];obtain⟨x,y⟩:=r;have h3:y=μ:=by assumption
   rw[h3]
  .cases e
 .cases e
section
variable {X:Cx} {tb:List Addr} {elt t1 i1 t2 i2:Expr} {f1 f2:List Expr} {pos:Pos}
def Ke(K:Zw)(tb:List Addr)(W1:Wd)(S:Src)(h1:GF)(tt1:TF)(fi2:IF)(h2:GF)(tt2:TF)(fe:EF)(δb:En)(σb:SV)(ts1:List Nat)(n:Nat)(ths:List gH)(st:S2)(W:Wd):Prop:=
 WOk K tb W/\Le tb W1 W/\W.mu=W1.mu/\match st with
 |none=>n=0/\lw W1.mu h1 tt1 fi2 h2 tt2 fe δb S.items=some ths
 |some (i,σ1,J2,j)=>i<=S.items.length/\∃δ1 S2 W0 us vs,Le tb W0 W/\um K tb J2 S2 W0/\S2.cel=none/\jF K tb W δ1 σ1/\(∀i,i∉ts1->σ1[i]? =σb[i]?)/\oN W1.mu h2 tt2 fe δ1 (S2.items.drop j)=some us/\lw W1.mu h1 tt1 fi2 h2 tt2 fe δb (S.items.drop i)=some vs/\ths.drop n=us++vs
def qO(μ:Mu)(h1:GF)(fi2:IF)(δb:En):List D->Nat
 | []=>0
 |d::r=>(match h1 d δb μ with
  |none=>1
  |some δ1=>match fi2 δ1 μ with
   |none=>1
   |some q=>q.1.items.length+2)+qO μ h1 fi2 δb r
theorem Mi:qO μ h1 fi2 δb r<qO μ h1 fi2 δb (d::r):=by
 have:∀n m:Nat,1<=m->n<m+n:=λn m h=>by lia
 conv=>rhs;unfold qO
 refine this _ _ ?_;cases h1 d δb μ with
 |none=>exact Zg _
 |some δ1=>
  show 1<=match fi2 δ1 μ with|none=>1|some q=>q.1.items.length+2
  cases fi2 δ1 μ with
  |none=>exact Zg _
  |some q=>exact Nat.le_add_left _ _
theorem RB(e1:h1 d δb μ=some δ1)(e2:fi2 δ1 μ=some q):qO μ h1 fi2 δb (d::r)=q.1.items.length+2+qO μ h1 fi2 δb r:=by
 conv=>lhs;unfold qO
 rw[e1];simp only;rw[e2]
theorem xy{K:Zw}{own:List Str}{capI:List Nat}{σ:SV}{δb:En}{ts1 ts2:List Nat}{h1 h2:GF}{tt1 tt2:TF}{fi2:IF}{fe:EF}{W1:Wd}{S:Src}{J:It}(io:um K tb J S W1)(hS:S.cel=none)(hb:jF K tb W1 δb (cu own σ capI))
  (hts1:∀i∈ts1,i<own.length) (hts2:∀i∈ts2,i<own.length) (hdj:∀i∈ts2,i∉ts1) {Y:V->Nat->L2.St->It->Nat->Hp->Prop} {E:Hp->Prop} {W:Wd} {rest:List gH} (l0:Le tb W1 W)
  (hY:∀th us,rest=th::us->∃d,th W1.mu=some (d,W1.mu)/\∀v i σ1 J2 j W',Le tb W W'->WOk K tb W'->W'.mu=W1.mu->Den K tb W' d v->
   (i<=S.items.length/\∃δ1 S2 W0 us' vs,Le tb W0 W'/\um K tb J2 S2 W0/\S2.cel=none/\jF K tb W' δ1 σ1/\(∀i,i∉ts1->σ1[i]? =(cu own σ capI)[i]?)/\oN W1.mu h2 tt2 fe δ1 (S2.items.drop j)=some us'/\lw W1.mu h1 tt1 fi2 h2 tt2 fe δb (S.items.drop i)=some vs/\us=us'++vs)->Y v i σ1 J2 j W'.H)
  (hE:rest=[]->∀W',Le tb W W'->WOk K tb W'->W'.mu=W1.mu->E W'.H):
  Two J (tDG K tb ts1 h1) (tDG K tb ts2 h2) (tDT K tb tt1) (tDT K tb tt2) (tDI K tb fi2) (tD K tb fe) (cu own σ capI) Y E
   (λi m H=>m=qO W1.mu h1 fi2 δb (S.items.drop i)/\i<=S.items.length/\∃W',W'.H=H/\Le tb W W'/\WOk K tb W'/\W'.mu=W1.mu/\lw W1.mu h1 tt1 fi2 h2 tt2 fe δb (S.items.drop i)=some rest)
   (λi σ1 J2 j m H=>i<=S.items.length/\∃W' δ1 S2 W0 us vs,W'.H=H/\Le tb W W'/\WOk K tb W'/\W'.mu=W1.mu/\m=qO W1.mu h1 fi2 δb (S.items.drop i)+1+(S2.items.length-j)/\Le tb W0 W'/\um K tb J2 S2 W0/\S2.cel=none/\jF K tb W' δ1 σ1/\(∀i,i∉ts1->σ1[i]? =(cu own σ capI)[i]?)/\
    oN W1.mu h2 tt2 fe δ1 (S2.items.drop j)=some us/\lw W1.mu h1 tt1 fi2 h2 tt2 fe δb (S.items.drop i)=some vs/\rest=us++vs) where
 out:=by
  rintro i m H ⟨rfl,hi,W',rfl,l,ok,hm,hp⟩;by_cases hlt:i<S.items.length
  .right
   have hdr:S.items.drop i=S.items[i]::S.items.drop (i+1):=ZJ hlt;rw[hdr]at hp ⊢;unfold lw at hp;obtain⟨δ1,e1,hp⟩:=Zbs hp;obtain⟨⟨kk,μ4⟩,e2,hp⟩:=Zbs hp;split at hp
   .rename_i hk4;have hk4':μ4=W1.mu:=hk4;subst hk4';obtain⟨go,yl⟩:=io.go i W' S.items[i] (l0.trans l) ok (Src.bZ hS) (by simp[hlt])
    refine⟨go,λx H' y=>?_⟩;obtain⟨W3,rfl,ok3,l3,m3,d3⟩:=yl x H' y;refine⟨W3,δb,S.items[i],δ1,rfl,ok3,hb.mono' ((l0.trans l).trans l3),d3,(by rw[m3,hm];exact e1),λσ3 d3' hl3 ht3=>⟨fits_of hts1 hl3 ht3,?_⟩⟩
    refine⟨W3,δ1,kk,W1.mu,rfl,ok3,d3',(by rw[m3,hm];exact e2),λW4 ok4 l4 m4=>?_⟩
    cases kk with
    |false=>
     rw[if_neg Zr];exact⟨_,Mi,rfl,hlt,W4,rfl,(l.trans l3).trans l4,ok4,m4,by simpa using hp⟩
    |true=>
     rw[if_pos rfl];simp only[if_true]at hp;obtain⟨⟨S2,μ5⟩,e3,hp⟩:=Zbs hp;split at hp
     .rename_i hk5;have hk5':μ5=W1.mu:=hk5.1;subst hk5';obtain⟨us,e4,hp⟩:=Zbs hp;obtain⟨vs,e5,hp⟩:=Zbs hp;cases hp;refine⟨W4,δ1,S2,W1.mu,rfl,ok4,d3'.mono' l4,(by rw[m4];exact e3),λJ2 W5 ok5 l5 m5 io2=>?_⟩
      refine⟨qO W1.mu h1 fi2 δb (S.items.drop (i+1))+1+(S2.items.length-0),?_,hlt,W5,δ1,S2,W5,us,vs,rfl,((l.trans l3).trans l4).trans l5,ok5,m5,rfl,Le.refl _,io2,hk5.2,(d3'.mono' l4).mono' l5,ht3,e4,e5,rfl⟩;rw[RB e1 e3];show _<S2.items.length+2+_
      lia
     .cases hp
   .cases hp
  .left
   have hdr:S.items.drop i=[]:=List.drop_of_length_le (by lia)
   rw[hdr]at hp;unfold lw at hp;cases hp;exact⟨io.stop i W' (l0.trans l) ok (Src.bZ hS) (by lia),hE rfl W' l ok hm⟩
 inn:=by
  rintro i σ1 J2 j m H ⟨hi,W',δ1,S2,W0,us,vs,rfl,l,ok,hm,rfl,l2,io2,hc2,hd1,hs1,ep,eo,hr⟩;by_cases hlt:j<S2.items.length
  .right
   have hdr:S2.items.drop j=S2.items[j]::S2.items.drop (j+1):=ZJ hlt;rw[hdr]at ep;unfold oN at ep;obtain⟨δ2,e1,ep⟩:=Zbs ep;obtain⟨⟨kk,μ4⟩,e2,ep⟩:=Zbs ep;split at ep
   .rename_i hk4;have hk4':μ4=W1.mu:=hk4;subst hk4';obtain⟨us',e3,ep⟩:=Zbs ep;obtain⟨go,yl⟩:=io2.go j W' S2.items[j] l2 ok (Src.bZ hc2) (by simp[hlt])
    refine⟨go,λx H' y=>?_⟩;obtain⟨W3,rfl,ok3,l3,m3,d3⟩:=yl x H' y;refine⟨W3,δ1,S2.items[j],δ2,rfl,ok3,hd1.mono' l3,d3,(by rw[m3,hm];exact e1),λσ3 d3' hl3 ht3=>⟨Nm hts2 hdj hs1 hl3 ht3,?_⟩⟩
    refine⟨W3,δ2,kk,W1.mu,rfl,ok3,d3',(by rw[m3,hm];exact e2),λW4 ok4 l4 m4=>?_⟩
    cases kk with
    |false=>
     rw[if_neg Zr];have ep':us'=us:=by simpa using ep
     subst ep';exact⟨_,by lia,hi,W4,δ1,S2,W0,us',vs,rfl,(l.trans l3).trans l4,ok4,m4,rfl,(l2.trans l3).trans l4,io2,hc2,(hd1.mono' l3).mono' l4,hs1,e3,eo,hr⟩
    |true=>
     rw[if_pos rfl];have ep':thP W1.mu fe δ2::us'=us:=by simpa using ep
     subst ep';obtain⟨d,ed,hy⟩:=hY _ (us'++vs) hr;obtain⟨_,_,ef⟩:=DP ed;refine⟨W4,δ2,d,W1.mu,rfl,ok4,d3'.mono' l4,(by rw[m4];exact ef),λv W5 ok5 l5 m5 d5=>?_⟩
     exact hy v i σ1 J2 (j+1) W5 (((l.trans l3).trans l4).trans l5) ok5 m5 d5 ⟨hi,δ1,S2,W0,us',vs,((l2.trans l3).trans l4).trans l5,io2,hc2,((hd1.mono' l3).mono' l4).mono' l5,hs1,e3,eo,rfl⟩
   .cases ep
  .left
   have hdr:S2.items.drop j=[]:=List.drop_of_length_le (by lia)
   rw[hdr]at ep;unfold oN at ep;cases ep;rw[List.nil_append]at hr;subst hr;exact⟨io2.stop j W' l2 ok (Src.bZ hc2) (by lia),_,by lia,rfl,hi,W',rfl,l,ok,hm,eo⟩
theorem Dt{fi1 fi2:IF}{h1 h2:GF}{tt1 tt2:TF}{fe:EF}{own cap:List Str}{capI ts1 ts2:List Nat}{scope:Scope}{P:Addr}{kr:Nat}(hc:X.calm=true)(hr:dH kr X.A)(B:fV X own cap capI scope)(hown:∀x∈own,(x,NameKind.free)∉scope.names)(hnc:∀y∈scope.names,y.2≠ .cell)
  (hP:P∈tb) (htb:∃c,X.env.code= .ref c/\ZB X.base c P) (hi1:PID X tb t1 i1 fi1)
  (hg1:∀AG cs C code fp s2 H2,PGD (jr X AG own cap scope cs C code fp s2 H2) tb t1 ts1 h1)
  (ht1:∀AG cs C code fp s2 H2,(∀k,dH (k+1) X.A->dH k AG)->BZ (jr X AG own cap scope cs C code fp s2 H2) tb f1 tt1)
  (hi2:∀AG cs C code fp s2 H2,(∀k,dH (k+1) X.A->dH k AG)->PID (jr X AG own cap scope cs C code fp s2 H2) tb t2 i2 fi2)
  (hg2:∀AG cs C code fp s2 H2,PGD (jr X AG own cap scope cs C code fp s2 H2) tb t2 ts2 h2)
  (ht2:∀AG cs C code fp s2 H2,(∀k,dH (k+1) X.A->dH k AG)->BZ (jr X AG own cap scope cs C code fp s2 H2) tb f2 tt2)
  (he:∀AG cs C code fp s2 H2,(∀k,dH (k+1) X.A->dH k AG)->PD (jr X AG own cap scope cs C code fp s2 H2) tb elt fe)
  (hts1:∀i∈ts1,i<own.length:=by decide) (hts2:∀i∈ts2,i<own.length:=by decide) (hdj:∀i∈ts2,i∉ts1:=by decide) (h0:scope.names.lookup (".0":Str)=some NameKind.local:=by rfl) (hco:scope.isCoroutine=false:=by rfl)
  (hs:∀x,genFold i1 X.env x=pure x:=by intro _;rfl) (hs2:∀env x,foldedSetIterable i2 env x=pure x:=by intro _ _;rfl):
  uV X tb (.GeneratorExp elt [⟨t1,i1,f1,0⟩,⟨t2,i2,f2,0⟩] scope pos) (yD own capI fi1 h1 tt1 fi2 h2 tt2 fe):=
 zY (Hs (g1:=tDG X.K tb ts1 h1) (g2:=tDG X.K tb ts2 h2) (tt1:=tDT X.K tb tt1) (tt2:=tDT X.K tb tt2) (wi2:=tDI X.K tb fi2) (te:=tD X.K tb fe) hc hr B hown hnc h0 hco htb hi1 hg1 ht1 hi2 hg2 ht2 he hs hs2) λσ H R zq2=>by
  obtain⟨W,δ,ths,μ',e,ok,hd,hf,k⟩:=zq2;unfold yD at hf;obtain⟨⟨S,μ1⟩,e1,e2⟩:=Zbs hf;obtain⟨items,cel⟩:=S;cases cel with
  |some n=>cases (e2)
  |none=>
   simp only at e2;obtain⟨ths',e2,e3⟩:=Zbs e2;cases (e3);refine⟨W,δ,⟨items,none⟩,μ',e,ok,hd,e1,λJ W1 ok1 l1 m1 io=>?_⟩;subst m1;obtain⟨ps,ep,tp⟩:=ok1.tab P hP;refine⟨ps,ep,tp,λlo H2 ps' hG=>?_⟩;obtain⟨ok2,l2⟩:=ok1.tbl hP ep hG;generalize hW2:(⟨H2,W1.ad,W1.mu⟩:Wd)=W2 at ok2 l2;have mW:W2.mu=W1.mu:=by rw[<-hW2]
   have hH2:W2.H=H2:=by rw[<-hW2]
   have io2:um X.K tb J ⟨items,none⟩ W2:=⟨λi W d l=>io.go i W d (l2.trans l),λi W l=>io.stop i W (l2.trans l)⟩;have hb2:jF X.K tb W2 (bW own δ capI) (cu own σ capI):=(uE hd).mono' (l1.trans l2);rw[<-mW]at e2;refine⟨λn st H=>∃V,V.H=H/\Ke X.K tb W2 ⟨items,none⟩ h1 tt1 fi2 h2 tt2 fe (bW own δ capI) (cu own σ capI) ts1 n ths st V,⟨W2,hH2,ok2,Le.refl _,rfl,rfl,e2⟩,?_⟩;rw[<-hH2];refine k _ W2 ok2 (l1.trans l2) mW ⟨?_,?_⟩
   .intro n W3 th d μ3 Q l3 ok3 e3 e4 hQ st hst;obtain⟨V,hVH,okV,lV,mV,hst⟩:=hst;obtain⟨δt,rfl⟩:=qF e2 th (List.mem_of_getElem? e3);obtain⟨m3,rfl,ef⟩:=DP e4;obtain rfl:V=W3:=Tp ok2 ok3 okV l3 lV m3 mV hVH;have hlt:n<ths.length:=(Zh.mp e3).1;have hdr:ths.drop n=thP W2.mu fe δt::ths.drop (n+1):=by
     rw[ZJ hlt,(Zh.mp e3).2]
    have hY:∀th us,ths.drop n=th::us->∃d,th W2.mu=some (d,W2.mu)/\∀v i σ1 J2 j W',Le tb V W'->WOk X.K tb W'->W'.mu=W2.mu->Den X.K tb W' d v->
      (i<=items.length/\∃δ1 S2 W0 us' vs,Le tb W0 W'/\um X.K tb J2 S2 W0/\S2.cel=none/\jF X.K tb W' δ1 σ1/\(∀i,i∉ts1->σ1[i]? =(cu own σ capI)[i]?)/\oN W2.mu h2 tt2 fe δ1 (S2.items.drop j)=some us'/\lw W2.mu h1 tt1 fi2 h2 tt2 fe (bW own δ capI) (items.drop i)=some vs/\us=us'++vs)->
      (Q v W'.H/\∃V,V.H=W'.H/\Ke X.K tb W2 ⟨items,none⟩ h1 tt1 fi2 h2 tt2 fe (bW own δ capI) (cu own σ capI) ts1 (n+1) ths (some (i,σ1,J2,j)) V):=λth us he=>by
     rw[hdr]at he;cases (he);refine⟨d,by rw[m3]at e4;exact e4,λv i σ1 J2 j W' lW okW mW' dW ⟨hi,δ1,S2,W0,us',vs,q1,q2,q3,q4,q5,q6,q7,q8⟩=>⟨hQ v W' okW lW mW' dW,W',rfl,okW,lV.trans lW,mW',hi,δ1,S2,W0,us',vs,q1,q2,q3,q4,q5,q6,q7,q8⟩⟩
    refine⟨_,_,xy io2 rfl hb2 hts1 hts2 hdj (W:=V) (rest:=ths.drop n) lV hY (λhe=>absurd he (by rw[hdr];simp)),?_⟩
    match st,hst with
    |none,⟨hn,hp⟩=>
     subst hn;exact⟨_,rfl,Nat.zero_le _,V,rfl,Le.refl _,okV,mV,hp⟩
    |some (i,σ1,J2,j),⟨hi,δ1,S2,W0,us,vs,q1,q2,q3,q4,q5,q6,q7,q8⟩=>
     exact⟨_,hi,V,δ1,S2,W0,us,vs,rfl,Le.refl _,okV,mV,rfl,q1,q2,q3,q4,q5,q6,q7,q8⟩
   .refine⟨λμ=>μ=W2.mu,rfl,λth ht μ d μ'' hμ et=>?_,λn W3 Q l3 ok3 m3 hn hQ st hst=>?_⟩
    .obtain⟨δt,rfl⟩:=qF e2 th ht;exact(DP et).2.1
    .obtain⟨V,hVH,okV,lV,mV,hst⟩:=hst;obtain rfl:V=W3:=Tp ok2 ok3 okV l3 lV m3 mV hVH;have hdr:ths.drop n=[]:=List.drop_of_length_le hn;refine⟨_,_,xy (Y:=λ_ _ _ _ _ _=>False) (E:=Q) io2 rfl hb2 hts1 hts2 hdj (W:=V) (rest:=ths.drop n) lV (λth us he=>by rw[hdr]at he;cases (he)) (λ_ W' lW okW mW'=>hQ W' okW lW (mW'.trans m3.symm)),?_⟩
     match st,hst with
     |none,⟨hn,hp⟩=>
      subst hn;exact⟨_,rfl,Nat.zero_le _,V,rfl,Le.refl _,okV,mV,hp⟩
     |some (i,σ1,J2,j),⟨hi,δ1,S2,W0,us,vs,q1,q2,q3,q4,q5,q6,q7,q8⟩=>
      exact⟨_,hi,V,δ1,S2,W0,us,vs,rfl,Le.refl _,okV,mV,rfl,q1,q2,q3,q4,q5,q6,q7,q8⟩
end
def Ot(o:Option D)(i:Nat)(δ:En)(μ:Mu):Option (En×Mu):=match o with
 |some (.cell n)=>(μ.getD n none).map λds=>(δ.set i (some (.lst ds)),μ.set n none)
 |_=>some (δ,μ)
def Jv(i:Nat)(g:SF):SF:=λδ μ=>(Ot (δ.getD i none) i δ μ).bind λq=>g q.1 q.2
@[simp] theorem YQ{n i:Nat}{δ:En}{μ:Mu}:Ot (some (.cell n)) i δ μ=(μ.getD n none).map λds=>(δ.set i (some (.lst ds)),μ.set n none):=rfl
@[simp] theorem w_fzv{i:Nat}{g:SF}{δ:En}{μ:Mu}:Jv i g δ μ=(Ot (δ.getD i none) i δ μ).bind λq=>g q.1 q.2:=rfl
theorem Hb{X:Cx}{tb:List Addr}{st:Stmt}{g:SF}{i:Nat}(h:PSD X tb st g):PSD X tb st (Jv i g):=mX h λE σ H z=>by
 obtain⟨W,δ,fl,δ',μ',e,ok,hd,hf,k⟩:=z;unfold Jv at hf;obtain⟨⟨δ2,μ2⟩,e2,hf⟩:=Zbs hf;unfold Ot at e2;split at e2
 .rename_i n hn;obtain⟨ds,e3,e4⟩:=Zp.mp e2;cases e4;have hi:δ[i]? =some (some (.cell n)):=by
   rw[List.getD_eq_getElem?_getD]at hn;cases q:δ[i]? with
   |none=>rw[q]at hn;cases hn
   |some z=>rw[q]at hn;exact congrArg some hn
  obtain⟨v,ev,dv⟩:=hd.2 i _ hi;obtain⟨a,rfl,ea⟩:=jB dv;have em:W.mu[n]? =some (some ds):=by
   rw[List.getD_eq_getElem?_getD]at e3;cases q:W.mu[n]? with
   |none=>rw[q]at e3;cases e3
   |some z=>rw[q]at e3;exact congrArg some e3
  obtain⟨ok2,l2,d2⟩:=ok.freeze ea em;have hs:=(hd.mono' l2).set (i:=i) d2;have es:σ.set i (some (.ref a))=σ:=by
   apply List.ext_getElem?;intro j;by_cases hj:i=j
   .subst hj;rw[List.getElem?_set_self (Zh.mp ev).1,ev]
   .rw[List.getElem?_set_ne hj]
  rw[es]at hs;exact⟨⟨W.H,W.ad,W.mu.set n none⟩,_,fl,δ',μ',e,ok2,hs,hf,λσ' W' ok' l' m' d'=>k σ' W' ok' (l2.trans l') m' d'⟩
 .cases e2;exact⟨W,δ,fl,δ',μ',e,ok,hd,hf,k⟩
structure Wh where
 P:Zpr
 w:World
 K:Zw
 mg:Str->Option Value
 base:Heap
 tb:List Addr
abbrev FJ(C:Wh)(x:Str)(n k:Nat)(φ:FF):Prop:=FI C.P C.w C.K C.mg C.base C.tb x n k φ
structure FX(C:Wh)(x:Str)(st:Stmt)(f:Addr)(fd:FuncData)(T:Addr):Prop where
 F:Oa C.K x x st f fd T
 B:C.K.In C.base
 m:C.mg x=some (.ref f)
structure Bq where
 c:Addr
 A:Zar
 o:List Env
 s:Zsh
 H:Hp
 E:XK
abbrev cxB(C:Wh)(N:List Str)(x:Str)(st:Stmt)(f:Addr)(q:Bq):Cx:=(Ax CX0 C.P C.w C.K C.mg C.base N x (dF st) f (.ref q.c) q.A q.o q.s q.H q.E).nox
theorem fj_n{C:Wh}{x:Str}{st:Stmt}{f:Addr}{fd:FuncData}{T:Addr}{n k:Nat}{g:SF}(N ps:List Str)(F:FX C x st f fd T)
  (hb:∀q:Bq,N.Nodup->ZB C.base q.c T->dH k (q.A.deeper (envOfC x (dF st) q.s.heap.objs.size f (.ref q.c)))->ut (cxB C N x st f q) C.tb (jA st) g)
  (S:qH N ps (dF st):=by exact⟨rfl,rfl,rfl,by decide +kernel,rfl,by decide +kernel,by decide +kernel⟩) (hps:ps.length=n:=by rfl):
  tB C.P C.w C.K C.mg C.base CX0 (k+1) f fd ps (spD C.K C.tb n (aH N.length g)):=
 Ry F.F F.B S hps λc A o s H E=>hb ⟨c,A,o,s,H,E⟩ S.nd
theorem cY{C:Wh}{x:Str}{st:Stmt}{f:Addr}{fd:FuncData}{T:Addr}{n k:Nat}{g:SF}(N:List Str)(F:FX C x st f fd T)
  (hb:∀q:Bq,N.Nodup->ZB C.base q.c T->dH k (q.A.deeper (envOfC x (dF st) q.s.heap.objs.size f (.ref q.c)))->ut (cxB C N x st f q) C.tb (jA st) g)
  (S:qH N (N.take n) (dF st):=by exact⟨rfl,rfl,rfl,by decide +kernel,rfl,by decide +kernel,by decide +kernel⟩) (hps:(N.take n).length=n:=by rfl)
  (hu:∀(kV doc pm:Value)(an:Option Addr)(cdv ct:Value)(us:List Value),us.length=(N.take n).length->bindArgs (PySem.W.fnOf x x (nq st) (jA st) (dF st) .none kV doc pm an cdv ct) ⟨us,[]⟩=pure ((N.take n).zip us):=by
   intro _ _ _ _ _ _;first|exact us0 rfl|exact us1 λ_=>rfl|exact us2 λ_ _=>rfl|exact us3 λ_ _ _=>rfl|exact us4 λ_ _ _ _=>rfl|exact us5 λ_ _ _ _ _=>rfl|exact us6 λ_ _ _ _ _ _=>rfl):FJ C x n (k+1) (aH N.length g):=
 Yq F.F F.B F.m S hps hu λc A o s H E=>hb ⟨c,A,o,s,H,E⟩ S.nd
section
variable {X:Cx} {tb:List Addr} {elt tg iter:Expr} {ifs:List Expr} {pos p:Pos} {fi:IF} {h:GF} {tt:TF} {fe:EF} {scope:Scope}
theorem aY(F:FI X.prog X.w X.K X.mg X.base tb x n k φ)(hr:dH k' X.A)(ha:PAD X tb (e::es) fs)(hk:k<=k':=by first|decide|lia)
  (hn:∀δ μ r,fs δ μ=some r->r.1.length=n:=by repeat (first|exact RZ|refine Ka ?_)) (hg:Gl X x:=by rfl) (hdb:(x==("__debug__":Str))=false:=by decide)
  (he:starEach (e::es) X.env=(false,eval e X.env)::starEach es X.env:=by rfl) (hpl:(backTo pos (starEach es X.env)).any (·.1)=false:=by rfl):PD X tb (.Call (.Name x p) (e::es) [] pos) (MC fs φ):=
 Rn F (hr.mono hk) ha hn hg hdb he hpl
structure Cq where
 cs:List (Str×Addr)
 C:Addr
 fp:List Addr
 s:Zsh
 H:Hp
abbrev cxC(X:Cx)(own cap:List Str)(scope:Scope)(q:Cq):Cx:=gb X own cap scope q.cs q.C q.fp q.s q.H
theorem lc_(own cap:List Str)(capI ts:List Nat)(hi:PID X tb tg iter fi)(he:∀q:Cq,(own++cap).Nodup->PD (cxC X own cap scope q) tb elt fe)
  (ht:∀q:Cq,(own++cap).Nodup->BZ (cxC X own cap scope q) tb ifs tt:=by exactλ_ _=>sU)
  (hg:∀q:Cq,(own++cap).Nodup->PGD (cxC X own cap scope q) tb tg ts h:=by exactλ_ nd=>by first|exact aM (i:=0) nd|exact gq rfl (aX (aM (i:=0) nd) (aX (aM (i:=1) nd) eN)))
  (nd:(own++cap).Nodup:=by decide +kernel) (hc:X.calm=true:=by rfl)
  (B:fV X own cap capI scope:=by exact⟨rfl,by decide +kernel,by repeat' (first|exact trivial|rfl|exact Or.inl rfl|exact Or.inr rfl|constructor),by decide +kernel,by decide +kernel⟩) (hown:∀x∈own,(x,NameKind.free)∉scope.names:=by decide +kernel)
  (hts:∀i∈ts,i<own.length:=by decide) (hs:∀x,foldedSetIterable iter X.env x=pure x:=by intro _;rfl):PDN X tb (.ListComp elt [⟨tg,iter,ifs,0⟩] scope pos) (lLC own capI fi h tt fe):=
 WW hc B hown hi (λcs C fp s H=>hg ⟨cs,C,fp,s,H⟩ nd) (λcs C fp s H=>ht ⟨cs,C,fp,s,H⟩ nd) (λcs C fp s H=>he ⟨cs,C,fp,s,H⟩ nd) hts hs
theorem Ub(i:Nat)(hN:X.N.Nodup)(own cap:List Str)(capI ts:List Nat)(hi:PID X tb tg iter fi)(he:∀q:Cq,(own++cap).Nodup->PD (cxC X own cap scope q) tb elt fe)
  (ht:∀q:Cq,(own++cap).Nodup->BZ (cxC X own cap scope q) tb ifs tt:=by exactλ_ _=>sU)
  (hg:∀q:Cq,(own++cap).Nodup->PGD (cxC X own cap scope q) tb tg ts h:=by exactλ_ nd=>by first|exact aM (i:=0) nd|exact gq rfl (aX (aM (i:=0) nd) (aX (aM (i:=1) nd) eN)))
  (nd:(own++cap).Nodup:=by decide +kernel) (hc:X.calm=true:=by rfl)
  (B:fV X own cap capI scope:=by exact⟨rfl,by decide +kernel,by repeat' (first|exact trivial|rfl|exact Or.inl rfl|exact Or.inr rfl|constructor),by decide +kernel,by decide +kernel⟩) (hown:∀x∈own,(x,NameKind.free)∉scope.names:=by decide +kernel)
  (hts:∀i∈ts,i<own.length:=by decide) (hs:∀x,foldedSetIterable iter X.env x=pure x:=by intro _;rfl) (hi₀:X.N[i]? =some x:=by rfl) (hx₀:Loc X.env.scope x:=by first|exact Or.inl rfl|exact Or.inr rfl)
  (hsw:swapsWith (.ListComp elt [⟨tg,iter,ifs,0⟩] scope pos) (some (.Name x px)) spos.line X.env=pure true:=by rfl)
  (hf₀:X.fn x=true∨X.env.scope.names.lookup x=some .local:=by first|exact .inl rfl|exact .inr rfl|assumption):
  PSD X tb (.Assign [.Name x px] (.ListComp elt [⟨tg,iter,ifs,0⟩] scope pos) spos) (bw i (mFz (lLC own capI fi h tt fe))):=
 Ru hN hc B hown hi (λcs C fp s H=>hg ⟨cs,C,fp,s,H⟩ nd) (λcs C fp s H=>ht ⟨cs,C,fp,s,H⟩ nd) (λcs C fp s H=>he ⟨cs,C,fp,s,H⟩ nd) hts hs hi₀ hx₀ hsw hf₀
structure Gq where
 A:Zar
 cs:List (Str×Addr)
 C:Addr
 cd:Value
 fp:List Addr
 s:Zsh
 H:Hp
abbrev cxG(X:Cx)(own cap:List Str)(scope:Scope)(q:Gq):Cx:=jr X q.A own cap scope q.cs q.C q.cd q.fp q.s q.H
theorem zZ(own cap:List Str)(capI ts:List Nat)(hr:dH (k+1) X.A)(hT:P∈tb)(hcd:ZB X.base c P)(hi:PID X tb tg iter fi)
  (he:∀q:Gq,(own++cap).Nodup->dH k q.A->PD (cxG X own cap scope q) tb elt fe)
  (hg:∀q:Gq,(own++cap).Nodup->PGD (cxG X own cap scope q) tb tg ts h:=by exactλ_ nd=>by first|exact aM (i:=0) nd|exact gq rfl (aX (aM (i:=0) nd) (aX (aM (i:=1) nd) eN)))
  (nd:(own++cap).Nodup:=by decide +kernel) (hc:X.calm=true:=by rfl) (hco:X.env.code= .ref c:=by rfl)
  (B:fV X own cap capI scope:=by exact⟨rfl,by decide +kernel,by repeat' (first|exact trivial|rfl|exact Or.inl rfl|exact Or.inr rfl|constructor),by decide +kernel,by decide +kernel⟩) (hown:∀x∈own,(x,NameKind.free)∉scope.names:=by decide +kernel) (hnc:∀y∈scope.names,y.2≠ .cell:=by decide +kernel)
  (hts:∀i∈ts,i<own.length:=by decide) (h0:scope.names.lookup (".0":Str)=some NameKind.local:=by rfl) (hco':scope.isCoroutine=false:=by rfl) (hs:∀x,genFold iter X.env x=pure x:=by intro _;rfl):
  uV X tb (.GeneratorExp elt [⟨tg,iter,[],0⟩] scope pos) (ou own capI fi h fe):=
 Ij hc hr B hown hnc hT ⟨c,hco,hcd⟩ hi (λA cs C cd fp s H=>hg ⟨A,cs,C,cd,fp,s,H⟩ nd) (λA cs C cd fp s H hm=>he ⟨A,cs,C,cd,fp,s,H⟩ nd (hm _ hr)) hts h0 hco' hs
end
end L3
set_option maxHeartbeats 4000000
namespace LG
open PySem PySem.Spec PyProof.Rows L2 L3
def il:SF:=bc (lE (M1 (aq 0) (gF "int")) (qw (M1 (aq 0) (gF "bool"))))
def eF(cZ:FF):SF:=bc (lE (M1 (aq 0) (gF "tuple")) (qu (ou ["part"] [] (cR (aq 0)) (aC 0) (MC (ao (aq 0) (az)) cZ))))
def dU:SF:=aL (zr 0 1 (ao (MC (ao (aq 0) (az)) (aO pL)) (ao (MC (ao (aq 1) (az)) (aO pL)) (az)))) (aL (oV (toB (M2 (aq 1) (mC (.int 0)) oNe)) (zr 0 1 (ao (aq 1) (ao (M2 (aq 0) (aq 1) fU) (az))))) (bc (aq 0)))
def cM(bG:FF):SF:=aL (bw 1 (mC (.int 0))) (aL (ik (cR (aq 0)) (aC 2) (aL (bw 1 (MC (ao (aq 1) (ao (aq 2) (az))) bG)) (sIf (toB (M2 (aq 1) (mC (.int 1)) oEq)) (uO) (bH)))) (bc (aq 1)))
def iH(bB bh:FF):SF:=aL (sIf (gf (cO (gB (MC (ao (aq 0) (az)) bB))) (cO (toB (MCh (mC (.int 2)) (MC (ao (aq 0) (az)) (aO bU)) (M2 (mC (.int 3)) (mC (.int 1)) dm) oLe oLe)))) (bc (mC (.bl false))) (bH)) (bc (lE (M2 (M2 (aq 0) (M1 (mC (.int 1)) iy) oIx) (mC (.int 1)) oGe) (M2 (MC (ao (aq 0) (az)) bh) (mC (.int 1)) oEq)))
def jW:SF:=aL (bw 2 (M2 (M2 (M2 (M2 (M2 (aq 0) (mC (.int 2147483647)) fU) (mC (.int 48271)) di) (M2 (M2 (mC (.int 7919)) (aq 1) di) (aq 1) di) dm) (mC (.int 104729)) dm) (mC (.int 2147483647)) fU)) (bc (M2 (M2 (aq 2) (aq 2) di) (mC (.int 2147483629)) fU))
def qb(cg:FF):SF:=aL (bw 1 (pD (qx (az)))) (aL (ik (bY (ao (MC (ao (MC (ao (aq 0) (az)) (aO bU)) (ao (mC (.int 63)) (az))) (qd uQ)) (az))) (aC 2) (aL (bw 3 (MC (ao (M2 (aq 0) (aq 2) oIx) (az)) (aO pL))) (aL (sIf (toB (M2 (aq 3) (M2 (mC (.int 10)) (mC (.int 18)) wG) oLt)) (ik (bY (ao (mC (.int 12)) (az))) (aC 4) (eY (gM (aq 1) (ao (MC (ao (MC (ao (aq 3) (ao (M2 (M2 (mC (.int 3)) (aq 4) di) (mC (.int 1)) dm) (az))) cg) (ao (M2 (M2 (aq 4) (aq 2) dm) (mC (.int 2)) dm) (az))) cg) (az))))) (bH)) (aL (oV (pR (toB (M2 (aq 3) (M2 (mC (.int 10)) (mC (.int 18)) wG) oGe)) (toB (M2 (MC (ao (aq 1) (az)) (aO bU)) (mC (.int 900)) oLt))) (aL (eY (gM (aq 1) (ao (M2 (aq 3) (mC (.int 2147483629)) fU) (az)))) (bw 3 (M2 (aq 3) (mC (.int 2147483629)) jy)))) (sIf (toB (M2 (aq 3) (mC (.int 2147483629)) oGe)) (eY (gM (aq 1) (ao (M2 (aq 3) (mC (.int 2147483629)) fU) (az)))) (bH)))))) (bc (aq 1)))
def lY:SF:=aL (sIf (toB (M2 (aq 0) (MC (az) gU) oEq)) (bc (mC (.int 0))) (bH)) (bc (Gd (aq 0)))
def rn:SF:=aL (oV (toB (M2 (aq 1) (mC (.int 0)) oNe)) (zr 0 1 (ao (aq 1) (ao (M2 (aq 0) (aq 1) fU) (az))))) (bc (MC (ao (aq 0) (az)) (aO pL)))
def gj(iR:FF):SF:=aL (bw 2 (aq 1)) (aL (ik (cR (aq 0)) (aC 3) (bw 2 (MC (ao (aq 2) (ao (aq 3) (az))) iR))) (aL (sIf (toB (M2 (aq 1) (mC (.int 0)) oLt)) (bw 2 (M2 (mC (.int 0)) (MC (ao (aq 2) (az)) (aO pL)) gO)) (bH)) (bc (M2 (MC (ao (mFz (lLC ["_law_number"] [2] (cR (aq 0)) (aC 0) (aW) (M2 (aq 0) (aq 1) jy))) (az)) lK) (MC (ao (M2 (aq 1) (aq 2) jy) (az)) bz) dm))))
def oE:SF:=bc (lE (M1 (aq 0) (gF "int")) (qw (M1 (aq 0) (gF "bool"))))
def qJ:SF:=bc (lE (M1 (aq 0) (gF "bool")) (M2 (aq 0) (aq 1) oEq))
def Jz:SF:=aL (bw 1 (MC (ao (mC .non) (ao (mC (.bl true)) (ao (mC (.bl false)) (ao (mC (.int 0)) (ao (mC (.int 1)) (ao (M1 (mC (.int 1)) iy) (ao (mC (.int 7)) (ao (mC (.str "")) (ao (mC (.str "1")) (ao (mC (.str "spot")) (ao (MC (az) bz) (ao (MC (az) gU) (ao (Gs) (ao (MC (ao (mC (.int 1)) (az)) bz) (ao (MC (ao (mC (.int 1)) (az)) gU) (ao (MC (ao (mC (.int 0)) (ao (mC (.int 1)) (az))) bz) (ao (MC (ao (mC (.int 0)) (ao (mC (.int 1)) (az))) gU) (ao (MC (ao (MC (ao (mC (.int 0)) (ao (mC (.int 1)) (az))) bz) (az)) bz) (ao (M2 (mC (.int 10)) (mC (.int 30)) wG) (az)))))))))))))))))))) gU)) (aL (bw 1 (M2 (aq 1) (MC (ao (MC (ao (mC (.int 1)) (ao (mC (.int 1)) (az))) bz) (ao (MC (ao (mC (.bl true)) (ao (mC (.int 1)) (az))) bz) (ao (MC (ao (mC (.int 0)) (ao (mC (.bl true)) (az))) bz) (ao (uh (mC (.int 0)) (mC (.int 1))) (ao (MC (ao (mC .non) (ao (mC (.int 1)) (az))) bz) (ao (MC (ao (mC (.str "0")) (ao (mC (.int 1)) (az))) bz) (ao (MC (ao (mC (.int 0)) (ao (mC (.int 0)) (ao (mC (.int 1)) (az)))) bz) (ao (MC (ao (MC (ao (mC (.int 0)) (ao (mC (.int 1)) (az))) bz) (az)) gU) (ao (M2 (mC (.int 10)) (mC (.int 64)) wG) (ao (MC (ao (mC (.int 2)) (ao (mC (.int 2)) (az))) bz) (az))))))))))) gU) dm)) (bc (M2 (aq 1) (M2 (aq 0) (MC (ao (aq 1) (az)) (aO bU)) fU) oIx)))
def iG:SF:=aL (sIf (toB (M2 (aq 1) (mC (.int 0)) oEq)) (bc (MC (ao (M2 (M2 (aq 0) (mC (.int 20001)) fU) (mC (.int 10000)) gO) (ao (M2 (mC (.int 1)) (M2 (M2 (aq 0) (mC (.int 20001)) jy) (mC (.int 60)) fU) dm) (az))) bz)) (bH)) (aL (sIf (toB (M2 (aq 1) (mC (.int 1)) oEq)) (bc (MC (ao (M2 (M2 (aq 0) (mC (.int 5)) fU) (mC (.int 2)) gO) (ao (mC (.int 1)) (az))) bz)) (bH)) (aL (sIf (toB (M2 (aq 1) (mC (.int 2)) oEq)) (bc (MC (ao (M2 (M2 (aq 0) (mC (.int 11)) fU) (mC (.int 5)) gO) (ao (M2 (mC (.int 1)) (M2 (M2 (aq 0) (mC (.int 11)) jy) (mC (.int 3)) fU) dm) (az))) bz)) (bH)) (aL (sIf (toB (M2 (aq 1) (mC (.int 3)) oEq)) (bc (MC (ao (M2 (aq 2) (M2 (MC (ao (mC (.int 0)) (ao (mC (.int 0)) (ao (mC (.int 1)) (ao (mC (.int 40)) (az))))) gU) (M2 (aq 0) (mC (.int 4)) fU) oIx) dm) (ao (mC (.int 1)) (az))) bz)) (bH)) (bc (MC (ao (M2 (M2 (aq 0) (mC (.int 2)) fU) (M2 (mC (.int 1)) (M2 (aq 2) (mC (.int 7)) fU) dm) di) (ao (mC (.int 1)) (az))) bz)))))
def jt(cg mx aR:FF):SF:=aL (bw 4 (pD (qx (az)))) (aL (bw 5 (mC (.int 1))) (aL (ik (bY (ao (aq 1) (az))) (aC 6) (aL (ul (MC (ao (MC (ao (aq 0) (ao (M2 (aq 6) (mC (.int 1)) dm) (az))) cg) (ao (aq 2) (ao (M2 (aq 3) (aq 6) dm) (az)))) mx) (eQ 2 (aN (aC 7) (aN (aC 8) (eO))))) (aL (sIf (toB (M2 (aq 6) (mC (.int 0)) oEq)) (bw 5 (aq 8)) (bH)) (eY (gM (aq 4) (ao (aq 7) (az))))))) (bc (MC (ao (tM (aq 4)) (ao (aq 5) (az))) aR))))
def km(bh:FF):SF:=aL (bw 1 (MC (ao (aq 0) (az)) bh)) (bc (Av (ou ["number"] [1] (cR (aq 0)) (aC 0) (M2 (aq 0) (aq 1) jy))))
def gJ(bB:FF):SF:=aL (sIf (gf (cO (gB (MC (ao (aq 1) (az)) bB))) (toB (M2 (MC (ao (aq 1) (az)) (aO bU)) (mC (.int 2)) oNe))) (bc (mC (.bl false))) (bH)) (bc (lE (MCh (mC (.int 0)) (M2 (aq 1) (mC (.int 0)) oIx) (aq 0) oLe oLt) (M2 (M2 (aq 1) (mC (.int 1)) oIx) (mC (.int 1)) oGe)))
def fL(iV:FF):SF:=aL (sIf (gf (cO (gB (M1 (aq 1) (gF "tuple")))) (toB (M2 (MC (ao (aq 1) (az)) (aO bU)) (mC (.int 0)) oEq))) (bc (mC (.bl false))) (bH)) (aL (sIf (cO (gB (qu (ou ["part"] [0] (cR (aq 1)) (aC 0) (MC (ao (aq 1) (ao (aq 0) (az))) iV))))) (bc (mC (.bl false))) (bH)) (bc (qu (ou ["one","other"] [] (lR (ao (aq 1) (ao (mSl (aq 1) (fAt (mC (.int 1))) (fNo)) (az)))) (eQ 2 (aN (aC 0) (aN (aC 1) (eO)))) (M2 (M2 (aq 0) (mC (.int 0)) oIx) (M2 (aq 1) (mC (.int 0)) oIx) oLt)))))
def fu(bG:FF):SF:=aL (bw 1 (mC (.int 1))) (aL (ik (cR (aq 0)) (aC 2) (Ik 1 (M2 (aq 2) (MC (ao (aq 1) (ao (aq 2) (az))) bG) jy) Gk)) (bc (aq 1)))
def cG:SF:=bc (pN (ou ["one","other"] [] (lR (ao (aq 0) (ao (aq 1) (az)))) (eQ 2 (aN (aC 0) (aN (aC 1) (eO)))) (M2 (aq 0) (aq 1) di)))
def je(bI:FF):SF:=bc (mFz (lLC ["at"] [1,0] (bY (ao (MC (ao (M2 (aq 0) (mC (.int 0)) oIx) (az)) (aO bU)) (az))) (aC 0) (aW) (MC (ao (aq 1) (ao (mFz (lLC ["row"] [0] (cR (aq 2)) (aC 0) (aW) (M2 (aq 0) (aq 1) oIx))) (az))) bI)))
def gY(dR:FF):SF:=aL (bw 2 (MC (ao (mFz (lLC ["point"] [] (cR (aq 0)) (aC 0) (aW) (M2 (aq 0) (M1 (mC (.int 1)) iy) oIx))) (az)) dR)) (bc (mFz (lLC ["number","point"] [2] (lR (ao (aq 1) (ao (aq 0) (az)))) (eQ 2 (aN (aC 0) (aN (aC 1) (eO)))) (aW) (M2 (aq 0) (M2 (aq 2) (M2 (aq 1) (M1 (mC (.int 1)) iy) oIx) jy) di))))
def qC(gh fX iU:FF):SF:=aL (bw 2 (mFz (lLC ["k","share"] [0] (cR (aq 1)) (eQ 2 (aN (aC 0) (aN (aC 1) (eO)))) (aW) (M2 (aq 2) (aq 0) oIx)))) (aL (bw 3 (MC (ao (aq 2) (ao (mFz (lLC ["k","share"] [] (cR (aq 1)) (eQ 2 (aN (aC 0) (aN (aC 1) (eO)))) (aW) (aq 1))) (az))) gh)) (bc (MC (ao (MC (ao (aq 2) (ao (aq 3) (az))) fX) (az)) iU)))
def Ku(iR aR:FF):SF:=aL (bw 2 (mC (.int 1))) (aL (ik (cR (aq 1)) (eQ 2 (aN (aC 3) (aN (aC 4) (eO)))) (bw 2 (M2 (M2 (aq 2) (M2 (M2 (aq 0) (aq 3) oIx) (M1 (mC (.int 1)) iy) oIx) di) (MC (ao (aq 2) (ao (M2 (M2 (aq 0) (aq 3) oIx) (M1 (mC (.int 1)) iy) oIx) (az))) iR) jy))) (aL (bw 5 (pD (CP (MC (ao (mC (.int 0)) (az)) gU) (M2 (MC (ao (M2 (aq 0) (M2 (M2 (aq 1) (mC (.int 0)) oIx) (mC (.int 0)) oIx) oIx) (az)) (aO bU)) (mC (.int 1)) gO)))) (aL (bw 6 (mC (.int 0))) (aL (ik (cR (aq 1)) (eQ 2 (aN (aC 3) (aN (aC 4) (eO)))) (aL (bw 6 (M2 (aq 6) (aq 4) dm)) (ik (bY (ao (MC (ao (aq 5) (az)) (aO bU)) (az))) (aC 7) (aL (bw 8 (M2 (M2 (aq 4) (M2 (M2 (aq 0) (aq 3) oIx) (aq 7) oIx) di) (M2 (aq 2) (M2 (M2 (aq 0) (aq 3) oIx) (M1 (mC (.int 1)) iy) oIx) jy) di)) (Be (M2 (M2 (aq 5) (aq 7) oIx) (aq 8) dm) (aq 5) (aq 7)))))) (bc (MC (ao (tM (aq 5)) (ao (M2 (aq 2) (aq 6) di) (az))) aR))))))
def jO:SF:=bc (lE (M1 (aq 1) (gF "tuple")) (M2 (MC (ao (aq 1) (az)) (aO bU)) (aq 0) oEq))
def mq(dj bB cZ:FF):SF:=aL (sIf (cO (gB (MC (ao (mC (.int 2)) (ao (aq 1) (az))) dj))) (bc (mC (.bl false))) (bH)) (aL (ul (aq 1) (eQ 2 (aN (aC 2) (aN (aC 3) (eO))))) (bc (lE (MC (ao (aq 2) (az)) bB) (lE (M2 (MC (ao (aq 2) (az)) (aO bU)) (aq 0) oEq) (MC (ao (aq 3) (az)) cZ)))))
def jJ(bI:FF):SF:=aL (ul (aq 0) (eQ 2 (aN (aC 2) (aN (aC 3) (eO))))) (bc (M2 (MC (ao (aq 2) (ao (mSl (aq 1) (fNo) (fAt (M1 (mC (.int 1)) iy))) (az))) bI) (M2 (aq 3) (M2 (aq 1) (M1 (mC (.int 1)) iy) oIx) di) oGt))
def dC(iz:FF):SF:=bc (lE (MC (ao (MC (ao (aq 0) (az)) (aO bU)) (ao (aq 2) (az))) iz) (qu (ou ["k","share"] [1] (cR (aq 2)) (eQ 2 (aN (aC 0) (aN (aC 1) (eO)))) (M2 (aq 0) (aq 2) (oIn false)))))
def iY(dX mz:FF):SF:=bc (lE (MC (ao (aq 0) (ao (aq 1) (ao (aq 3) (az)))) dX) (M2 (MC (ao (aq 0) (ao (aq 3) (az))) mz) (aq 2) oEq))
def cL(dj jE jH:FF):SF:=aL (sIf (cO (gB (MC (ao (mC (.int 2)) (ao (aq 2) (az))) dj))) (bc (mC (.bl false))) (bH)) (aL (ul (aq 2) (eQ 2 (aN (aC 3) (aN (aC 4) (eO))))) (aL (sIf (gf (cO (gB (MC (ao (aq 3) (az)) jE))) (cO (gB (MC (ao (MC (ao (aq 1) (az)) (aO bU)) (ao (aq 4) (az))) dj)))) (bc (mC (.bl false))) (bH)) (bc (qu (ou ["group","row"] [0,3] (lR (ao (aq 1) (ao (aq 4) (az)))) (eQ 2 (aN (aC 0) (aN (aC 1) (eO)))) (MC (ao (aq 2) (ao (aq 0) (ao (aq 3) (ao (aq 1) (az))))) jH))))))
def kJ(fX:FF):SF:=aL (bw 1 (MC (ao (mFz (lLC ["row","most"] [] (cR (aq 0)) (eQ 2 (aN (aC 0) (aN (aC 1) (eO)))) (aW) (MC (Bm (aq 0) (ao (aq 1) (az))) bz))) (ao (M2 (MC (ao (mC (.int 1)) (az)) gU) (MC (ao (aq 0) (az)) (aO bU)) di) (az))) fX)) (bc (lE (qw (Dl (gZ (mSl (aq 1) (fNo) (fAt (M1 (mC (.int 1)) iy)))))) (M2 (M2 (aq 1) (M1 (mC (.int 1)) iy) oIx) (mC (.int 0)) oLt)))
def iI(dj kO jL jd:FF):SF:=aL (bw 3 (M2 (MC (ao (M2 (aq 0) (mC (.int 0)) oIx) (az)) (aO bU)) (mC (.int 1)) gO)) (aL (sIf (gf (cO (gB (MC (ao (MC (ao (aq 1) (az)) (aO bU)) (ao (aq 2) (az))) dj))) (cO (gB (qu (ou ["side"] [3] (cR (aq 2)) (aC 0) (MC (ao (aq 1) (ao (aq 0) (az))) kO)))))) (bc (mC (.bl false))) (bH)) (aL (sIf (cO (gB (MC (ao (aq 2) (az)) jL))) (bc (mC (.bl false))) (bH)) (bc (qw (Dl (yD ["group","side","k"] [0] (lR (ao (aq 1) (ao (aq 2) (az)))) (eQ 2 (aN (aC 0) (aN (aC 1) (eO)))) (aW) (cR (aq 0)) (aC 2) (aW) (MC (ao (aq 1) (ao (M2 (aq 3) (aq 2) oIx) (az))) jd)))))))
def tH:SF:=bc (MC (ao (pN (gZ (mFz (lLC ["_law_one","_law_other"] [] (lR (ao (aq 0) (ao (aq 1) (az)))) (eQ 2 (aN (aC 0) (aN (aC 1) (eO)))) (aW) (M2 (aq 0) (aq 1) di))))) (ao (M2 (aq 1) (M1 (mC (.int 1)) iy) oIx) (az))) bz)
def nT:SF:=bc (M2 (M2 (M2 (aq 0) (mC (.int 0)) oIx) (M2 (aq 1) (mC (.int 1)) oIx) di) (M2 (M2 (aq 1) (mC (.int 0)) oIx) (M2 (aq 0) (mC (.int 1)) oIx) di) oLt)
def my(bC:FF):SF:=aL (sIf (gf (cO (gB (M1 (aq 1) (gF "tuple")))) (gf (toB (M2 (MC (ao (aq 1) (az)) (aO bU)) (mC (.int 2)) oNe)) (cO (gB (MC (ao (M2 (aq 1) (mC (.int 1)) oIx) (az)) bC))))) (bc (mC (.bl false))) (bH)) (aL (sIf (gf (cO (gB (M1 (M2 (aq 1) (mC (.int 0)) oIx) (gF "tuple")))) (toB (M2 (MC (ao (M2 (aq 1) (mC (.int 0)) oIx) (az)) (aO bU)) (aq 0) oNe))) (bc (mC (.bl false))) (bH)) (bc (qu (gZ (mFz (lLC ["_law_number"] [] (cR (M2 (aq 1) (mC (.int 0)) oIx)) (aC 0) (aW) (MC (ao (aq 0) (az)) bC)))))))
def oG(gQ jh:FF):SF:=bc (qw (Dl (gZ (mFz (lLC ["_law_spot_here"] [0] (cR (aq 1)) (aC 0) (aW) (MC (ao (MC (ao (M2 (aq 1) (mC (.int 1)) oIx) (ao (mC (.int 1)) (az))) bz) (ao (MC (ao (M2 (aq 1) (mC (.int 0)) oIx) (ao (aq 0) (az))) gQ) (az))) jh))))))
def uY(gQ:FF):SF:=aL (bw 2 (mFz (lLC ["_law_spot_here"] [0] (cR (aq 1)) (aC 0) (aW) (MC (ao (aq 1) (ao (aq 0) (az))) gQ)))) (bc (MC (ao (mFz (lLC ["_law_top","_law_bottom"] [] (cR (aq 2)) (eQ 2 (aN (aC 0) (aN (aC 1) (eO)))) (aW) (M2 (mC (.int 0)) (M2 (M2 (mC (.int 0)) (aq 0) gO) (aq 1) jy) gO))) (az)) (aO vO)))
def pH:SF:=bc (lE (M1 (aq 0) (gF "int")) (qw (M1 (aq 0) (gF "bool"))))
def rA:SF:=aL (bw 1 (MC (ao (mC .non) (ao (mC (.bl true)) (ao (mC (.bl false)) (ao (mC (.int 0)) (ao (mC (.int 1)) (ao (M1 (mC (.int 1)) iy) (ao (mC (.str "")) (ao (mC (.str "0 1")) (ao (MC (az) bz) (ao (MC (az) gU) (ao (Gs) (ao (MC (ao (MC (az) bz) (az)) bz) (ao (MC (ao (MC (az) bz) (az)) gU) (ao (MC (ao (mC .non) (az)) bz) (ao (MC (ao (MC (ao (mC (.int 0)) (ao (mC (.int 1)) (az))) bz) (az)) bz) (ao (MC (ao (MC (ao (mC (.int 0)) (ao (mC (.int 1)) (az))) bz) (az)) gU) (az))))))))))))))))) gU)) (aL (bw 1 (M2 (aq 1) (MC (ao (MC (ao (MC (ao (mC (.int 0)) (ao (mC (.int 1)) (az))) gU) (az)) bz) (ao (uh (mC (.int 0)) (mC (.int 1))) (ao (MC (ao (MC (ao (mC (.int 0)) (ao (mC (.int 1)) (ao (mC (.int 2)) (az)))) bz) (az)) bz) (ao (MC (ao (MC (ao (mC (.int 0)) (ao (mC (.bl true)) (az))) bz) (az)) bz) (ao (MC (ao (MC (ao (mC (.bl false)) (ao (mC (.int 1)) (az))) bz) (az)) bz) (ao (MC (ao (MC (ao (mC (.str "0")) (ao (mC (.int 1)) (az))) bz) (az)) bz) (ao (MC (ao (MC (ao (MC (ao (mC (.int 0)) (az)) bz) (ao (mC (.int 0)) (az))) bz) (az)) bz) (az)))))))) gU) dm)) (aL (bw 1 (M2 (aq 1) (MC (ao (MC (ao (MC (ao (mC (.int 0)) (ao (mC (.int 0)) (az))) bz) (ao (mC (.int 0)) (az))) bz) (ao (MC (ao (MC (ao (mC (.int 0)) (ao (mC (.int 1)) (az))) bz) (ao (mC .non) (az))) bz) (ao (MC (ao (MC (ao (mC (.int 1)) (ao (mC (.int 0)) (az))) bz) (ao (mC (.int 0)) (az))) bz) (ao (MC (ao (MC (ao (mC (.int 1)) (ao (mC (.int 0)) (az))) gU) (ao (mC (.int 0)) (az))) bz) (ao (MC (ao (MC (ao (mC (.bl true)) (ao (mC (.int 0)) (az))) bz) (ao (mC (.int 1)) (az))) bz) (ao (MC (ao (MC (ao (mC (.int 1)) (az)) bz) (ao (mC (.int 0)) (az))) bz) (ao (MC (ao (mC (.int 1)) (ao (mC (.int 0)) (az))) bz) (az)))))))) gU) dm)) (aL (bw 1 (M2 (aq 1) (MC (ao (MC (ao (mC (.int 0)) (ao (mC (.int 0)) (ao (mC (.int 0)) (az)))) bz) (ao (MC (ao (MC (ao (mC (.int 0)) (ao (mC (.int 1)) (az))) bz) (ao (MC (ao (mC (.int 1)) (ao (mC (.int 1)) (az))) bz) (az))) bz) (ao (MC (ao (MC (az) bz) (ao (MC (az) bz) (az))) bz) (ao (MC (ao (MC (az) bz) (ao (mC (.int 0)) (az))) bz) (az))))) gU) dm)) (bc (M2 (aq 1) (M2 (aq 0) (MC (ao (aq 1) (az)) (aO bU)) fU) oIx)))))
def mR(bC:FF):SF:=aL (sIf (gf (cO (gB (M1 (aq 1) (gF "tuple")))) (gf (toB (M2 (MC (ao (aq 1) (az)) (aO bU)) (mC (.int 2)) oNe)) (cO (gB (MC (ao (M2 (aq 1) (mC (.int 1)) oIx) (az)) bC))))) (bc (mC (.bl false))) (bH)) (aL (sIf (gf (cO (gB (M1 (M2 (aq 1) (mC (.int 0)) oIx) (gF "tuple")))) (toB (M2 (MC (ao (M2 (aq 1) (mC (.int 0)) oIx) (az)) (aO bU)) (aq 0) oNe))) (bc (mC (.bl false))) (bH)) (bc (qu (gZ (mFz (lLC ["_law_number"] [] (cR (M2 (aq 1) (mC (.int 0)) oIx)) (aC 0) (aW) (MC (ao (aq 0) (az)) bC)))))))
def Cz(bA jz:FF):SF:=aL (bw 1 (MC (ao (aq 0) (az)) bA)) (aL (bw 2 (MC (ao (M2 (aq 1) (mC (.int 8)) jy) (az)) jz)) (aL (bw 3 (MC (ao (MC (ao (aq 0) (az)) bA) (az)) jz)) (bc (M2 (MC (ao (aq 2) (ao (MC (ao (aq 2) (az)) bz) (ao (MC (ao (aq 2) (az)) gU) (ao (MC (ao (aq 2) (ao (aq 3) (az))) bz) (ao (MC (ao (aq 2) (ao (aq 3) (az))) gU) (ao (uh (mC (.int 0)) (aq 2)) (ao (MC (ao (MC (ao (aq 2) (ao (aq 3) (az))) bz) (az)) bz) (ao (MC (ao (aq 3) (ao (aq 2) (ao (aq 3) (az)))) bz) (az))))))))) gU) (M2 (aq 1) (mC (.int 8)) fU) oIx))))
def rE:SF:=bc (MC (ao (pN (gZ (mFz (lLC ["_law_one","_law_other"] [] (lR (ao (aq 0) (ao (aq 1) (az)))) (eQ 2 (aN (aC 0) (aN (aC 1) (eO)))) (aW) (M2 (aq 0) (aq 1) di))))) (ao (M2 (aq 1) (M1 (mC (.int 1)) iy) oIx) (az))) bz)
def nF(gQ jh:FF):SF:=bc (qw (Dl (gZ (mFz (lLC ["_law_spot"] [0] (cR (aq 1)) (aC 0) (aW) (MC (ao (MC (ao (M2 (aq 1) (mC (.int 1)) oIx) (ao (mC (.int 1)) (az))) bz) (ao (MC (ao (M2 (aq 1) (mC (.int 0)) oIx) (ao (aq 0) (az))) gQ) (az))) jh))))))
def mQ(iR aR:FF):SF:=aL (bw 2 (mC (.int 1))) (aL (ik (cR (aq 1)) (eQ 2 (aN (aC 3) (aN (aC 4) (eO)))) (bw 2 (M2 (M2 (aq 2) (M2 (M2 (aq 0) (aq 3) oIx) (M1 (mC (.int 1)) iy) oIx) di) (MC (ao (aq 2) (ao (M2 (M2 (aq 0) (aq 3) oIx) (M1 (mC (.int 1)) iy) oIx) (az))) iR) jy))) (aL (bw 5 (pD (CP (MC (ao (mC (.int 0)) (az)) gU) (M2 (MC (ao (M2 (aq 0) (M2 (M2 (aq 1) (mC (.int 0)) oIx) (mC (.int 0)) oIx) oIx) (az)) (aO bU)) (mC (.int 1)) gO)))) (aL (bw 6 (mC (.int 0))) (aL (ik (cR (aq 1)) (eQ 2 (aN (aC 3) (aN (aC 4) (eO)))) (aL (bw 6 (M2 (aq 6) (aq 4) dm)) (ik (bY (ao (MC (ao (aq 5) (az)) (aO bU)) (az))) (aC 7) (aL (bw 8 (M2 (aq 4) (M2 (M2 (aq 0) (aq 3) oIx) (aq 7) oIx) di)) (Be (M2 (M2 (aq 5) (aq 7) oIx) (M2 (aq 8) (M2 (aq 2) (M2 (M2 (aq 0) (aq 3) oIx) (M1 (mC (.int 1)) iy) oIx) jy) di) dm) (aq 5) (aq 7)))))) (bc (MC (ao (tM (aq 5)) (ao (M2 (aq 2) (aq 6) di) (az))) aR))))))
def bQ(bC aR dD nj:FF):SF:=aL (sIf (gf (cO (gB (M1 (aq 2) (gF "tuple")))) (gf (toB (M2 (MC (ao (aq 2) (az)) (aO bU)) (mC (.int 2)) oNe)) (cO (gB (M1 (M2 (aq 2) (mC (.int 0)) oIx) (gF "tuple")))))) (bc (mC (.bl false))) (bH)) (aL (ul (aq 2) (eQ 2 (aN (aC 3) (aN (aC 4) (eO))))) (aL (sIf (gf (toB (M2 (MC (ao (aq 3) (az)) (aO bU)) (MC (ao (M2 (aq 0) (mC (.int 0)) oIx) (az)) (aO bU)) oNe)) (gf (cO (gB (qu (gZ (mFz (lLC ["_law_one"] [] (cR (aq 3)) (aC 0) (aW) (MC (ao (aq 0) (az)) bC))))))) (toB (M2 (M2 (aq 3) (M1 (mC (.int 1)) iy) oIx) (mC (.int 1)) oLt)))) (bc (mC (.bl false))) (bH)) (aL (sIf (gf (toB (M2 (MC (ao (mSl (aq 3) (fNo) (fAt (M1 (mC (.int 1)) iy))) (ao (M2 (aq 3) (M1 (mC (.int 1)) iy) oIx) (az))) aR) (aq 3) oNe)) (gf (cO (gB (M1 (aq 4) (gF "tuple")))) (toB (M2 (MC (ao (aq 4) (az)) (aO bU)) (MC (ao (aq 1) (az)) (aO bU)) oNe)))) (bc (mC (.bl false))) (bH)) (aL (ik (lR (ao (aq 1) (ao (aq 4) (az)))) (eQ 2 (aN (aC 5) (aN (aC 6) (eO)))) (aL (sIf (gf (cO (gB (MC (ao (MC (ao (aq 0) (az)) (aO bU)) (ao (aq 6) (az))) dD))) (toB (M2 (mFz (lLC ["_law_k","_law_share"] [5] (cR (aq 6)) (eQ 2 (aN (aC 0) (aN (aC 1) (eO)))) (toB (M2 (aq 0) (aq 2) (oIn true))) (aq 0))) (MC (az) gU) vH))) (bc (mC (.bl false))) (bH)) (sIf (toB (M2 (MC (ao (aq 0) (ao (aq 6) (az))) nj) (aq 3) oNe)) (bc (mC (.bl false))) (bH)))) (bc (mC (.bl true)))))))
def eG(bC:FF):SF:=aL (sIf (gf (cO (gB (M1 (aq 1) (gF "tuple")))) (toB (M2 (aq 1) (MC (az) bz) Ci))) (bc (mC (.bl false))) (bH)) (aL (bw 2 (M1 (mC (.int 1)) iy)) (aL (ik (cR (aq 1)) (aC 3) (aL (sIf (gf (cO (gB (M1 (aq 3) (gF "tuple")))) (gf (toB (M2 (MC (ao (aq 3) (az)) (aO bU)) (mC (.int 2)) oNe)) (gf (cO (gB (MC (ao (M2 (aq 3) (mC (.int 0)) oIx) (az)) bC))) (cO (gB (MC (ao (M2 (aq 3) (mC (.int 1)) oIx) (az)) bC)))))) (bc (mC (.bl false))) (bH)) (aL (sIf (gf (toB (M2 (M2 (aq 3) (mC (.int 0)) oIx) (aq 2) oLe)) (gf (toB (M2 (M2 (aq 3) (mC (.int 0)) oIx) (aq 0) oGe)) (toB (M2 (M2 (aq 3) (mC (.int 1)) oIx) (mC (.int 1)) oLt)))) (bc (mC (.bl false))) (bH)) (bw 2 (M2 (aq 3) (mC (.int 0)) oIx))))) (bc (mC (.bl true)))))
def fB(bA cg aR fP:FF):SF:=aL (bw 3 (mFz (lLC ["_law_k"] [0] (bY (ao (aq 1) (az))) (aC 0) (aW) (M2 (M2 (MC (ao (aq 1) (az)) bA) (mC (.int 21)) fU) (mC (.int 10)) gO)))) (aL (Aj 4 5 6 (ao (pD (qx (az))) (ao (pD (qx (az))) (ao (pD (qx (az))) (az))))) (aL (ik (bY (ao (aq 2) (az))) (aC 7) (aL (bw 8 (MC (ao (aq 0) (az)) bA)) (aL (bw 9 (mFz (lLC ["_law_k"] [8] (bY (ao (aq 1) (az))) (aC 0) (aW) (M2 (M2 (MC (ao (aq 1) (ao (M2 (aq 0) (mC (.int 1)) dm) (az))) cg) (mC (.int 9)) fU) (mC (.int 4)) gO)))) (aL (ul (MC (ao (M2 (mC (.int 1)) (M2 (aq 8) (mC (.int 3)) fU) dm) (ao (M2 (mC (.int 1)) (M2 (M2 (aq 8) (mC (.int 3)) jy) (mC (.int 3)) fU) dm) (az))) bz) (eQ 2 (aN (aC 10) (aN (aC 11) (eO))))) (aL (bw 12 (MC (ao (aq 4) (az)) (aO bU))) (aL (eY (gM (aq 4) (ao (MC (ao (mFz (lLC ["_law_k"] [3,11,9] (bY (ao (aq 1) (az))) (aC 0) (aW) (M2 (M2 (aq 1) (aq 0) oIx) (M2 (aq 2) (M2 (aq 3) (aq 0) oIx) di) dm))) (ao (mC (.int 1)) (az))) aR) (az)))) (aL (eY (gM (aq 4) (ao (MC (ao (mFz (lLC ["_law_k"] [3,10,9] (bY (ao (aq 1) (az))) (aC 0) (aW) (M2 (M2 (aq 1) (aq 0) oIx) (M2 (aq 2) (M2 (aq 3) (aq 0) oIx) di) gO))) (ao (mC (.int 1)) (az))) aR) (az)))) (aL (bw 13 (MC (az) bz)) (aL (sIf (toB (M2 (M2 (M2 (aq 8) (mC (.int 9)) jy) (mC (.int 3)) fU) (mC (.int 0)) oEq)) (aL (eY (gM (aq 4) (ao (MC (ao (M2 (aq 8) (mC (.int 27)) jy) (ao (aq 1) (ao (mC (.int 1)) (ao (mC (.int 0)) (az))))) fP) (az)))) (bw 13 (MC (ao (M2 (aq 12) (mC (.int 2)) dm) (az)) bz))) (bH)) (aL (eY (gM (aq 5) (ao (M2 (MC (ao (aq 12) (ao (M2 (aq 12) (mC (.int 1)) dm) (az))) bz) (aq 13) dm) (az)))) (eY (gM (aq 6) (ao (MC (ao (MC (ao (aq 12) (ao (aq 10) (az))) bz) (ao (MC (ao (M2 (aq 12) (mC (.int 1)) dm) (ao (aq 11) (az))) bz) (az))) bz) (az)))))))))))))) (bc (MC (ao (tM (aq 4)) (ao (tM (aq 5)) (ao (MC (ao (MC (ao (aq 3) (ao (mC (.int 1)) (az))) aR) (ao (MC (ao (tM (aq 6)) (az)) lK) (az))) bz) (az)))) bz))))
def jR(gQ:FF):SF:=aL (bw 2 (mFz (lLC ["_law_spot"] [0] (cR (aq 1)) (aC 0) (aW) (MC (ao (aq 1) (ao (aq 0) (az))) gQ)))) (bc (MC (ao (mFz (lLC ["_law_top","_law_bottom"] [] (cR (aq 2)) (eQ 2 (aN (aC 0) (aN (aC 1) (eO)))) (aW) (M2 (mC (.int 0)) (M2 (M2 (mC (.int 0)) (aq 0) gO) (aq 1) jy) gO))) (az)) (aO vO)))
def pZ(gm iw:FF):SF:=aL (bw 3 (M2 (MC (ao (M2 (aq 0) (mC (.int 0)) oIx) (az)) (aO bU)) (mC (.int 1)) gO)) (aL (sIf (gf (cO (gB (M1 (aq 2) (gF "tuple")))) (toB (M2 (MC (ao (aq 2) (az)) (aO bU)) (MC (ao (aq 1) (az)) (aO bU)) oNe))) (bc (mC (.bl false))) (bH)) (aL (sIf (gf (cO (gB (qu (gZ (mFz (lLC ["_law_pair"] [3] (cR (aq 2)) (aC 0) (aW) (MC (ao (aq 1) (ao (aq 0) (az))) gm))))))) (toB (M2 (pN (gZ (mFz (lLC ["_law_pair"] [] (cR (aq 2)) (aC 0) (aW) (M2 (aq 0) (mC (.int 1)) oIx))))) (mC (.int 0)) oGe))) (bc (mC (.bl false))) (bH)) (aL (ik (bY (ao (aq 3) (az))) (aC 4) (sIf (toB (M2 (pN (gZ (mFz (lLC ["_law_pair"] [4] (cR (aq 2)) (aC 0) (aW) (M2 (M2 (aq 0) (mC (.int 0)) oIx) (aq 1) oIx))))) (mC (.int 0)) oNe)) (bc (mC (.bl false))) (bH))) (bc (qu (gZ (mFz (lLC ["_law_group","_law_pair"] [0] (lR (ao (aq 1) (ao (aq 2) (az)))) (eQ 2 (aN (aC 0) (aN (aC 1) (eO)))) (aW) (MC (ao (aq 1) (ao (mFz (lLC ["_law_k"] [2] (cR (aq 0)) (aC 0) (aW) (M2 (aq 1) (aq 0) oIx))) (az))) iw)))))))))
def mH(bA cg fP iW aR:FF):SF:=aL (bw 3 (pD (qx (az)))) (aL (ik (bY (ao (M2 (aq 2) (mC (.int 1)) gO) (az))) (aC 4) (eY (gM (aq 3) (ao (MC (ao (mFz (lLC ["_law_k"] [0] (bY (ao (aq 1) (az))) (aC 0) (aW) (M2 (M2 (MC (ao (aq 1) (az)) bA) (mC (.int 5)) fU) (mC (.int 2)) gO))) (az)) lK) (az))))) (aL (sIf (pR (toB (M2 (aq 3) (MC (az) gU) vH)) (toB (M2 (MC (ao (mFz (lLC ["_law_one"] [] (cR (M2 (aq 3) (mC (.int 0)) oIx)) (aC 0) (aW) (MC (ao (aq 0) (az)) (aO pL)))) (az)) (aO vO)) (mC (.int 0)) oEq))) (Be (M2 (MC (ao (mC (.int 1)) (az)) bz) (aq 1) di) (aq 3) (mC (.int 0))) (bH)) (aL (eY (gM (aq 3) (ao (MC (ao (mFz (lLC ["_law_k"] [3] (bY (ao (aq 1) (az))) (aC 0) (aW) (M2 (mC (.int 0)) (pN (gZ (mFz (lLC ["_law_row"] [0] (cR (aq 1)) (aC 0) (aW) (M2 (aq 0) (aq 1) oIx))))) gO))) (az)) lK) (az)))) (aL (bw 5 (pD (qx (az)))) (aL (ik (cR (aq 3)) (aC 6) (aL (bw 7 (MC (ao (aq 0) (az)) bA)) (eY (gM (aq 5) (ao (mFz (lLC ["_law_j"] [7,1] (bY (ao (M2 (mC (.int 1)) (M2 (aq 7) (mC (.int 3)) fU) dm) (az))) (aC 0) (aW) (MC (ao (MC (ao (aq 1) (ao (aq 0) (az))) cg) (ao (aq 2) (ao (mC (.int 2)) (ao (mC (.int 0)) (az))))) fP))) (az)))))) (aL (Jv 5 (Jv 3 (bw 8 (pN (gZ (mFz (lLC ["_law_row","_law_lot"] [] (lR (ao (aq 3) (ao (aq 5) (az)))) (eQ 2 (aN (aC 0) (aN (aC 1) (eO)))) (aW) (MC (ao (aq 0) (ao (aq 1) (az))) iW)))))))) (aL (bw 9 (pN (gZ (mFz (lLC ["_law_row"] [] (cR (aq 3)) (aC 0) (aW) (pN (gZ (mFz (lLC ["_law_one"] [] (cR (aq 0)) (aC 0) (aW) (M2 (aq 0) (aq 0) di)))))))))) (aL (bw 10 (M2 (M2 (M2 (MC (ao (mC (.int 0)) (ao (aq 8) (az))) (qd JR)) (aq 9) jy) (mC (.int 1)) dm) (M2 (MC (ao (aq 0) (az)) bA) (mC (.int 2)) fU) dm)) (aL (Aj 11 12 13 (ao (MC (az) gU) (ao (pD (qx (az))) (ao (pD (qx (az))) (az))))) (aL (ik (lR (ao (aq 3) (ao (aq 5) (az)))) (eQ 2 (aN (aC 6) (aN (aC 14) (eO)))) (aL (bw 15 (pD (qx (az)))) (aL (ik (cR (aq 14)) (aC 16) (eY (gM (aq 15) (ao (MC (ao (mFz (lLC ["_law_k"] [16,10,6] (bY (ao (aq 1) (az))) (aC 0) (aW) (M2 (M2 (aq 1) (aq 0) oIx) (M2 (M2 (aq 2) (M2 (aq 3) (aq 0) oIx) di) (M2 (aq 1) (M1 (mC (.int 1)) iy) oIx) di) gO))) (ao (M2 (aq 16) (M1 (mC (.int 1)) iy) oIx) (az))) aR) (az))))) (aL (eY (gM (aq 12) (ao (vP (ao (MC (ao (aq 11) (az)) (aO bU)) (ao (M2 (MC (ao (aq 11) (az)) (aO bU)) (MC (ao (aq 15) (az)) (aO bU)) dm) (az)))) (az)))) (aL (bw 11 (mFz (Jw (aq 11) (aq 15)))) (eY (gM (aq 13) (ao (MC (ao (aq 6) (ao (MC (ao (aq 6) (ao (tM (aq 15)) (az))) iW) (az))) bz) (az))))))))) (bc (MC (ao (aq 11) (ao (tM (aq 12)) (ao (MC (ao (tM (aq 13)) (az)) lK) (az)))) bz))))))))))))
def jC(bC aR dD nj:FF):SF:=aL (sIf (gf (cO (gB (M1 (aq 2) (gF "tuple")))) (gf (toB (M2 (MC (ao (aq 2) (az)) (aO bU)) (mC (.int 2)) oNe)) (cO (gB (M1 (M2 (aq 2) (mC (.int 0)) oIx) (gF "tuple")))))) (bc (mC (.bl false))) (bH)) (aL (ul (aq 2) (eQ 2 (aN (aC 3) (aN (aC 4) (eO))))) (aL (sIf (gf (toB (M2 (MC (ao (aq 3) (az)) (aO bU)) (MC (ao (M2 (aq 0) (mC (.int 0)) oIx) (az)) (aO bU)) oNe)) (gf (cO (gB (qu (gZ (mFz (lLC ["_law_one"] [] (cR (aq 3)) (aC 0) (aW) (MC (ao (aq 0) (az)) bC))))))) (toB (M2 (M2 (aq 3) (M1 (mC (.int 1)) iy) oIx) (mC (.int 1)) oLt)))) (bc (mC (.bl false))) (bH)) (aL (sIf (gf (toB (M2 (MC (ao (mSl (aq 3) (fNo) (fAt (M1 (mC (.int 1)) iy))) (ao (M2 (aq 3) (M1 (mC (.int 1)) iy) oIx) (az))) aR) (aq 3) oNe)) (gf (cO (gB (M1 (aq 4) (gF "tuple")))) (toB (M2 (MC (ao (aq 4) (az)) (aO bU)) (MC (ao (aq 1) (az)) (aO bU)) oNe)))) (bc (mC (.bl false))) (bH)) (aL (ik (lR (ao (aq 1) (ao (aq 4) (az)))) (eQ 2 (aN (aC 5) (aN (aC 6) (eO)))) (aL (sIf (gf (cO (gB (MC (ao (MC (ao (aq 0) (az)) (aO bU)) (ao (aq 6) (az))) dD))) (toB (M2 (mFz (lLC ["_law_k","_law_share"] [5] (cR (aq 6)) (eQ 2 (aN (aC 0) (aN (aC 1) (eO)))) (toB (M2 (aq 0) (aq 2) (oIn true))) (aq 0))) (MC (az) gU) vH))) (bc (mC (.bl false))) (bH)) (sIf (toB (M2 (MC (ao (aq 0) (ao (aq 6) (az))) nj) (aq 3) oNe)) (bc (mC (.bl false))) (bH)))) (bc (mC (.bl true)))))))
def jN(bC:FF):SF:=aL (sIf (gf (cO (gB (M1 (aq 1) (gF "tuple")))) (toB (M2 (aq 1) (MC (az) bz) Ci))) (bc (mC (.bl false))) (bH)) (aL (bw 2 (M1 (mC (.int 1)) iy)) (aL (ik (cR (aq 1)) (aC 3) (aL (sIf (gf (cO (gB (M1 (aq 3) (gF "tuple")))) (gf (toB (M2 (MC (ao (aq 3) (az)) (aO bU)) (mC (.int 2)) oNe)) (gf (cO (gB (MC (ao (M2 (aq 3) (mC (.int 0)) oIx) (az)) bC))) (cO (gB (MC (ao (M2 (aq 3) (mC (.int 1)) oIx) (az)) bC)))))) (bc (mC (.bl false))) (bH)) (aL (sIf (gf (toB (M2 (M2 (aq 3) (mC (.int 0)) oIx) (aq 2) oLe)) (gf (toB (M2 (M2 (aq 3) (mC (.int 0)) oIx) (aq 0) oGe)) (toB (M2 (M2 (aq 3) (mC (.int 1)) oIx) (mC (.int 1)) oLt)))) (bc (mC (.bl false))) (bH)) (bw 2 (M2 (aq 3) (mC (.int 0)) oIx))))) (bc (mC (.bl true)))))
def pA(gm iw:FF):SF:=aL (bw 3 (M2 (MC (ao (M2 (aq 0) (mC (.int 0)) oIx) (az)) (aO bU)) (mC (.int 1)) gO)) (aL (sIf (gf (cO (gB (M1 (aq 2) (gF "tuple")))) (toB (M2 (MC (ao (aq 2) (az)) (aO bU)) (MC (ao (aq 1) (az)) (aO bU)) oNe))) (bc (mC (.bl false))) (bH)) (aL (sIf (gf (cO (gB (qu (gZ (mFz (lLC ["_law_pair"] [3] (cR (aq 2)) (aC 0) (aW) (MC (ao (aq 1) (ao (aq 0) (az))) gm))))))) (toB (M2 (pN (gZ (mFz (lLC ["_law_pair"] [] (cR (aq 2)) (aC 0) (aW) (M2 (aq 0) (mC (.int 1)) oIx))))) (mC (.int 0)) oGe))) (bc (mC (.bl false))) (bH)) (aL (ik (bY (ao (aq 3) (az))) (aC 4) (sIf (toB (M2 (pN (gZ (mFz (lLC ["_law_pair"] [4] (cR (aq 2)) (aC 0) (aW) (M2 (M2 (aq 0) (mC (.int 0)) oIx) (aq 1) oIx))))) (mC (.int 0)) oNe)) (bc (mC (.bl false))) (bH))) (bc (qu (gZ (mFz (lLC ["_law_group","_law_pair"] [0] (lR (ao (aq 1) (ao (aq 2) (az)))) (eQ 2 (aN (aC 0) (aN (aC 1) (eO)))) (aW) (MC (ao (aq 1) (ao (mFz (lLC ["_law_k"] [2] (cR (aq 0)) (aC 0) (aW) (M2 (aq 1) (aq 0) oIx))) (az))) iw)))))))))
def lU(bA jz:FF):SF:=aL (bw 2 (MC (ao (aq 0) (az)) bA)) (aL (bw 3 (MC (ao (M2 (aq 2) (mC (.int 9)) jy) (az)) jz)) (aL (bw 4 (MC (ao (MC (ao (aq 0) (az)) bA) (az)) jz)) (aL (bw 5 (MC (ao (aq 3) (ao (MC (ao (aq 3) (az)) bz) (ao (MC (ao (aq 3) (az)) gU) (ao (MC (ao (aq 3) (ao (aq 4) (az))) bz) (ao (uh (mC (.int 0)) (aq 3)) (ao (MC (ao (M2 (aq 1) (mC (.int 0)) oIx) (ao (aq 3) (az))) bz) (ao (MC (ao (aq 3) (ao (M2 (aq 1) (M1 (mC (.int 1)) iy) oIx) (az))) bz) (ao (mSl (aq 1) (fNo) (fAt (mC (.int 1)))) (ao (M2 (MC (ao (aq 4) (az)) bz) (mC (.int 3)) di) (az)))))))))) gU)) (bc (M2 (aq 5) (M2 (aq 2) (mC (.int 9)) fU) oIx)))))
def tY(kE bA dO kY jK dJ dI lB jM eU:FF):SF:=aL (bw 1 (MC (ao (aq 0) (az)) kE)) (aL (ik (bY (ao (mC (.int 3)) (az))) (aC 2) (aL (bw 3 (M2 (mC (.int 1)) (M2 (MC (ao (aq 1) (az)) bA) (mC (.int 3)) fU) dm)) (aL (ul (MC (ao (aq 1) (ao (aq 3) (ao (M2 (mC (.int 1)) (M2 (MC (ao (aq 1) (az)) bA) (mC (.int 4)) fU) dm) (az)))) dO) (eQ 3 (aN (aC 4) (aN (aC 5) (aN (aC 6) (eO)))))) (aL (ul (MC (ao (aq 1) (ao (aq 3) (ao (M2 (mC (.int 2)) (M2 (MC (ao (aq 1) (az)) bA) (mC (.int 3)) fU) dm) (az)))) kY) (eQ 3 (aN (aC 7) (aN (aC 8) (aN (aC 9) (eO)))))) (ik (bY (ao (mC (.int 8)) (az))) (aC 10) (aL (bw 11 (MC (ao (aq 1) (ao (M2 (MC (ao (aq 6) (ao (aq 9) (az))) gU) (M2 (aq 10) (mC (.int 2)) fU) oIx) (az))) jK)) (ik (cR (MC (ao (MC (ao (aq 4) (ao (aq 5) (az))) bz) (ao (MC (ao (aq 7) (ao (aq 8) (az))) bz) (az))) gU)) (eQ 2 (aN (aC 12) (aN (aC 13) (eO)))) (aL (sIf (cO (gB (MC (ao (MC (ao (aq 12) (ao (aq 13) (ao (aq 11) (az)))) dI) (ao (MC (ao (aq 12) (ao (aq 13) (ao (aq 11) (az)))) dJ) (az))) lB))) (bc (mC (.bl false))) (bH)) (sIf (cO (gB (MC (ao (MC (ao (aq 12) (ao (aq 13) (ao (aq 11) (az)))) eU) (ao (MC (ao (aq 12) (ao (aq 13) (ao (aq 11) (az)))) jM) (az))) lB))) (bc (mC (.bl false))) (bH)))))))))) (bc (mC (.bl true))))
end LG
namespace Lk34
open PySem PySem.Spec PyProof.Rows L2 L3 LG
def top(i:Nat):Stmt:=PySem.Challenge.pw_heapsmeet_k34_no_papers_of_groups.main.body.getD i (.Pass ⟨0,0,0,0⟩)
structure BI(C:Wh):Prop where
 b_abs:C.mg "abs"=none
 b_all:C.mg "all"=none
 b_any:C.mg "any"=none
 b_bool:C.mg "bool"=none
 b_int:C.mg "int"=none
 b_isinstance:C.mg "isinstance"=none
 b_len:C.mg "len"=none
 b_max:C.mg "max"=none
 b_min:C.mg "min"=none
 b_range:C.mg "range"=none
 b_sum:C.mg "sum"=none
 b_tuple:C.mg "tuple"=none
 b_zip:C.mg "zip"=none
 c_MOST_DIRECTIONS:GD C.K C.mg "MOST_DIRECTIONS" (.int 3)
section
variable {C:Wh} {f Tb:Addr} {fd:FuncData} (T:BI C)
include T
theorem Hq(F:FX C "_law_mixed" (top 28) f fd Tb):FJ C "_law_mixed" 2 (0+1) (aH 3 (jW)):=
 cY ["_law_cell","_law_k","_law_number"] F λq nd hcd hr=>by
  exact aB (aU (i:=2) nd (aJ dG (aJ cQ (aJ cQ (aJ fK (aJ dG (pdv 0) aA) aA) (aJ fK (aJ fK aA (pdv 1)) (pdv 1))) aA) aA)) (aF (aK (aJ dG (aJ fK (pdv 2) (pdv 2)) aA)))
theorem HJ(F:FX C "_law_draws" (top 29) f fd Tb)(F_Lmixed:FJ C "_law_mixed" 2 1 cg):FJ C "_law_draws" 1 (1+1) (aH 5 (qb cg)):=
 cY ["_law_script","_law_drawn","_law_k","_law_cell","_law_j"] F λq nd hcd hr=>by
  refine aB (aU (i:=1) nd (jT (lq au))) (aB ?_ (aF (aK (pdv 1))));refine eZ (ts:=[2]) ZC rfl (cC T.b_range (aa (Qs rfl T.b_min (aa (cU T.b_len (aa (pdv 0) au)) (aa aA au))) au)) (aM (i:=2) nd) (aB (aU (i:=3) nd (tW T.b_abs (aa (bj (pdv 0) (pdv 2)) au))) (aB ?_ (aB ?_ (aF (cH (bJ xH (pdv 3) aA) (aF (fW (dY (pdv 1) (aa (aJ dG (pdv 3) aA) au)))) bf)))));refine cH (bJ sJ (pdv 3) (aJ Jj aA aA)) (aF ?_) bf;refine eZ (ts:=[4]) ZC rfl (cC T.b_range (aa aA au)) (aM (i:=4) nd) (aF ?_);refine fW ?_;exact dY (pdv 1) (aa (aY F_Lmixed hr (aa (aY F_Lmixed hr (aa (pdv 3) (aa (aJ cQ (aJ fK aA (pdv 4)) aA) au))) (aa (aJ cQ (aJ cQ (pdv 4) (pdv 2)) aA) au))) au);exact tR ZC (iJ (Fg (bJ xH (pdv 3) (aJ Jj aA aA)) (Bt (bJ sJ (cU T.b_len (aa (pdv 1) au)) aA)))) (aB (fW (dY (pdv 1) (aa (aJ dG (pdv 3) aA) au))) (aF (aU (i:=3) nd (aJ jm (pdv 3) aA))))
theorem Kr(F:FX C "_law_next" (top 30) f fd Tb):FJ C "_law_next" 1 (0+1) (aH 1 (lY)):=
 cY ["_law_drawn"] F λq nd hcd hr=>by
  exact aB (cH (bJ (mK hr) (pdv 0) (gV au)) (aF (aK aA)) bf) (aF (aK (QF (pdv 0))))
theorem Qw(F:FX C "_law_gcd" (top 31) f fd Tb):FJ C "_law_gcd" 2 (0+1) (aH 2 (rn)):=
 cY ["_law_one","_law_other"] F λq nd hcd hr=>by
  exact aB (tR ZC (bJ (nY hr) (pdv 1) aA) (aF (yj (i:=0) (j:=1) rfl nd (aa (pdv 1) (aa (aJ dG (pdv 0) (pdv 1)) au))))) (aF (aK (tW T.b_abs (aa (pdv 0) au))))
theorem DK(F:FX C "_law_lowest" (top 32) f fd Tb)(F_Lgcd:FJ C "_law_gcd" 2 1 iR):FJ C "_law_lowest" 2 (1+1) (aH 4 (gj iR)):=
 cY ["_law_numbers","_law_bottom","_law_common","_law_number"] F λq nd hcd hr=>by
  refine aB (aU (i:=2) nd (pdv 1)) (aB (eZ (ts:=[3]) ZC rfl (bT (pdv 0)) (aM (i:=3) nd) (aF (aU (i:=2) nd (aY F_Lgcd hr (aa (pdv 2) (aa (pdv 3) au)))))) (aB (cH (bJ sJ (pdv 1) aA) (aF (aU (i:=2) nd (aJ jo aA (tW T.b_abs (aa (pdv 2) au))))) bf) (aF (aK ?_))));refine aJ cQ ?_ (aQ (aa (aJ jm (pdv 1) (pdv 2)) au));refine pO T.b_tuple (aa (cT ?_) au);exact lc_ ["_law_number"] ["_law_common"] [2] [0] (bT (pdv 0)) (λq nd=>aJ jm (pdv 0) (pdv 1))
theorem HF(F:FX C "_law_place" (top 33) f fd Tb):FJ C "_law_place" 3 (0+1) (aH 3 (iG)):=
 cY ["_law_number","_law_kind","_law_base"] F λq nd hcd hr=>by
  refine aB ?_ (aB (cH (bJ (mK hr) (pdv 1) aA) (aF (aK (aQ (aa (aJ jo (aJ dG (pdv 0) aA) aA) (aa aA au))))) bf) (aB ?_ (aB ?_ (aF (aK (aQ (aa (aJ fK (aJ dG (pdv 0) aA) (aJ cQ aA (aJ dG (pdv 2) aA))) (aa aA au))))))));exact cH (bJ (mK hr) (pdv 1) aA) (aF (aK (aQ (aa (aJ jo (aJ dG (pdv 0) aA) aA) (aa (aJ cQ aA (aJ dG (aJ jm (pdv 0) aA) aA)) au))))) bf;exact cH (bJ (mK hr) (pdv 1) aA) (aF (aK (aQ (aa (aJ jo (aJ dG (pdv 0) aA) aA) (aa (aJ cQ aA (aJ dG (aJ jm (pdv 0) aA) aA)) au))))) bf;refine cH (bJ (mK hr) (pdv 1) aA) (aF (aK ?_)) bf;exact aQ (aa (aJ cQ (pdv 2) (bj (gV (aa aA (aa aA (aa aA (aa aA au))))) (aJ dG (pdv 0) aA))) (aa aA au))
theorem Hl(F:FX C "_law_point" (top 34) f fd Tb)(F_Lmixed:FJ C "_law_mixed" 2 1 cg)(F_Lplace:FJ C "_law_place" 3 1 mx)(F_Llowest:FJ C "_law_lowest" 2 2 aR):FJ C "_law_point" 4 (2+1) (aH 9 (jt cg mx aR)):=
 cY ["_law_number","_law_directions","_law_kind","_law_base","_law_numbers","_law_bottom","_law_k","_law_top","_law_under"] F λq nd hcd hr=>by
  refine aB (aU (i:=4) nd (jT (lq au))) (aB (aU (i:=5) nd aA) (aB ?_ (aF (aK (aY F_Llowest hr (aa (qe (pdv 4)) (aa (pdv 5) au)))))));exact eZ (ts:=[6]) ZC rfl (cC T.b_range (aa (pdv 1) au)) (aM (i:=6) nd) (aB (mU (ts:=[7,8]) (aY F_Lplace hr (aa (aY F_Lmixed hr (aa (pdv 0) (aa (aJ cQ (pdv 6) aA) au))) (aa (pdv 2) (aa (aJ cQ (pdv 3) (pdv 6)) au)))) (gq rfl (aX (aM (i:=7) nd) (aX (aM (i:=8) nd) eN)))) (aB (cH (bJ (mK hr) (pdv 6) aA) (aF (aU (i:=5) nd (pdv 8))) bf) (aF (fW (dY (pdv 4) (aa (pdv 7) au))))))
theorem sW(F:FX C "_law_round_a_spot" (top 47) f fd Tb)(F_Lnext:FJ C "_law_next" 1 1 bA)(F_Lmixed:FJ C "_law_mixed" 2 1 cg)(F_Llowest:FJ C "_law_lowest" 2 2 aR)(F_Lpoint:FJ C "_law_point" 4 3 fP):FJ C "_law_round_a_spot" 3 (3+1) (aH 14 (fB bA cg aR fP)):=
 cY ["_law_drawn","_law_directions","_law_many","_law_spot","_law_points","_law_groups","_law_rows","_law_j","_law_number","_law_by","_law_first","_law_second","_law_at","_law_extra"] F λq nd hcd hr=>by
  refine aB ?_ (aB (Ca (i:=4) (j:=5) (k:=6) rfl nd (aa (jT (lq au)) (aa (jT (lq au)) (aa (jT (lq au)) au)))) (aB ?_ (aF (aK ?_))));refine aU (i:=3) nd (cT ?_);exact lc_ ["_law_k"] ["_law_drawn"] [0] [0] (cC T.b_range (aa (pdv 1) au)) (λq nd=>aJ jo (aJ dG (aY F_Lnext hr (aa (pdv 1) au)) aA) aA);refine eZ (ts:=[7]) ZC rfl (cC T.b_range (aa (pdv 2) au)) (aM (i:=7) nd) (aB (aU (i:=8) nd (aY F_Lnext hr (aa (pdv 0) au))) (aB ?_ (aB (mU (ts:=[10,11]) (aQ (aa (aJ cQ aA (aJ dG (pdv 8) aA)) (aa (aJ cQ aA (aJ dG (aJ jm (pdv 8) aA) aA)) au))) (gq rfl (aX (aM (i:=10) nd) (aX (aM (i:=11) nd) eN)))) (aB (aU (i:=12) nd (cU T.b_len (aa (pdv 4) au))) (aB ?_ (aB ?_ (aB (aU (i:=13) nd (aQ au)) (aB ?_ (aB (fW (dY (pdv 5) (aa (aJ cQ (aQ (aa (pdv 12) (aa (aJ cQ (pdv 12) aA) au))) (pdv 13)) au))) (aF ?_))))))))));refine aU (i:=9) nd (cT ?_);exact lc_ ["_law_k"] ["_law_number"] [8] [0] (cC T.b_range (aa (pdv 1) au)) (λq nd=>aJ jo (aJ dG (aY F_Lmixed hr (aa (pdv 1) (aa (aJ cQ (pdv 0) aA) au))) aA) aA);refine fW ?_;refine dY (pdv 4) (aa ?_ au);refine aY F_Llowest hr (aa (cT ?_) (aa aA au));exact lc_ ["_law_k"] ["_law_spot","_law_second","_law_by"] [3,11,9] [0] (cC T.b_range (aa (pdv 1) au)) (λq nd=>aJ cQ (bj (pdv 1) (pdv 0)) (aJ fK (pdv 2) (bj (pdv 3) (pdv 0))));refine fW ?_;refine dY (pdv 4) (aa ?_ au);refine aY F_Llowest hr (aa (cT ?_) (aa aA au));exact lc_ ["_law_k"] ["_law_spot","_law_first","_law_by"] [3,10,9] [0] (cC T.b_range (aa (pdv 1) au)) (λq nd=>aJ jo (bj (pdv 1) (pdv 0)) (aJ fK (pdv 2) (bj (pdv 3) (pdv 0))));exact cH (bJ (mK hr) (aJ dG (aJ jm (pdv 8) aA) aA) aA) (aB (fW (dY (pdv 4) (aa (aY F_Lpoint hr (aa (aJ jm (pdv 8) aA) (aa (pdv 1) (aa aA (aa aA au))))) au))) (aF (aU (i:=13) nd (aQ (aa (aJ cQ (pdv 12) aA) au))))) bf;refine fW ?_;exact dY (pdv 6) (aa (aQ (aa (aQ (aa (pdv 12) (aa (pdv 10) au))) (aa (aQ (aa (aJ cQ (pdv 12) aA) (aa (pdv 11) au))) au))) au);exact aQ (aa (qe (pdv 4)) (aa (qe (pdv 5)) (aa (aQ (aa (aY F_Llowest hr (aa (pdv 3) (aa aA au))) (aa (pO T.b_tuple (aa (qe (pdv 6)) au)) au))) au)))
theorem Rz(F:FX C "_law_sum" (top 36) f fd Tb):FJ C "_law_sum" 2 (0+1) (aH 2 (rE)):=
 cY ["_law_row","_law_spot"] F λq nd hcd hr=>by
  refine aF (aK ?_);refine aQ (aa ?_ (aa (bj (pdv 1) (iu aA)) au));refine pU rfl T.b_sum ?_;refine fQ rfl (cT ?_);exact lc_ ["_law_one","_law_other"] [] [] [0,1] (lg T.b_zip (aa (pdv 0) (aa (pdv 1) au))) (λq nd=>aJ fK (pdv 0) (pdv 1))
theorem zF(F:FX C "_law_ceiling" (top 43) f fd Tb)(F_Lsum:FJ C "_law_sum" 2 1 gQ):FJ C "_law_ceiling" 2 (1+1) (aH 3 (jR gQ)):=
 cY ["_law_row","_law_spots","_law_found"] F λq nd hcd hr=>by
  refine aB ?_ (aF (aK ?_));exact Ub 2 nd ["_law_spot"] ["_law_row"] [0] [0] (bT (pdv 1)) (λq nd=>aY F_Lsum hr (aa (pdv 1) (aa (pdv 0) au)));refine Hg rfl T.b_max (aa (cT ?_) au);exact lc_ ["_law_top","_law_bottom"] [] [] [0,1] (bT (pdv 2)) (λq nd=>aJ jo aA (aJ jm (aJ jo aA (pdv 0)) (pdv 1)))
theorem Im(F:FX C "_law_apart" (top 48) f fd Tb)(F_Lnext:FJ C "_law_next" 1 1 bA)(F_Lmixed:FJ C "_law_mixed" 2 1 cg)(F_Lpoint:FJ C "_law_point" 4 3 fP)(F_Lceiling:FJ C "_law_ceiling" 2 2 iW)(F_Llowest:FJ C "_law_lowest" 2 2 aR):FJ C "_law_apart" 3 (3+1) (aH 17 (mH bA cg fP iW aR)):=
 cY ["_law_drawn","_law_directions","_law_many","_law_rows","_law_j","_law_lots","_law_row","_law_number","_law_least","_law_square","_law_far","_law_points","_law_groups","_law_paper","_law_lot","_law_led","_law_point_here"] F λq nd hcd hr=>by
  refine aB (aU (i:=3) nd (jT (lq au))) (aB ?_ (aB ?_ (aB ?_ (aB (aU (i:=5) nd (jT (lq au))) (aB ?_ (aB ?_ (aB ?_ (aB (aU (i:=10) nd (aJ cQ (aJ cQ (aJ jm (Rg rfl T.b_max (aa aA (aa (pdv 8) au))) (pdv 9)) aA) (aJ dG (aY F_Lnext hr (aa (pdv 0) au)) aA))) (aB (Ca (i:=11) (j:=12) (k:=13) rfl nd (aa (gV au) (aa (jT (lq au)) (aa (jT (lq au)) au)))) (aB ?_ (aF (aK (aQ (aa (pdv 11) (aa (qe (pdv 12)) (aa (pO T.b_tuple (aa (qe (pdv 13)) au)) au))))))))))))))));refine eZ (ts:=[4]) ZC rfl (cC T.b_range (aa (aJ jo (pdv 2) aA) au)) (aM (i:=4) nd) (aF ?_);refine fW ?_;refine dY (pdv 3) (aa ?_ au);refine pO T.b_tuple (aa (cT ?_) au);exact lc_ ["_law_k"] ["_law_drawn"] [0] [0] (cC T.b_range (aa (pdv 1) au)) (λq nd=>aJ jo (aJ dG (aY F_Lnext hr (aa (pdv 1) au)) aA) aA);refine cH ?_ (aF (Fj (aJ fK (aQ (aa aA au)) (pdv 1)) (pdv 3) aA)) bf;refine iJ ?_;refine Fg (bJ (JQ hr) (pdv 3) (gV au)) ?_;refine Bt ?_;refine bJ (mK hr) ?_ aA;refine Hg rfl T.b_max (aa (cT ?_) au);exact lc_ ["_law_one"] [] [] [0] (bT (bj (pdv 3) aA)) (λq nd=>tW T.b_abs (aa (pdv 0) au));refine fW ?_;refine dY (pdv 3) (aa ?_ au);refine pO T.b_tuple (aa (cT ?_) au);refine lc_ ["_law_k"] ["_law_rows"] [3] [0] (cC T.b_range (aa (pdv 1) au)) (λq nd=>?_);refine aJ jo aA ?_;refine pU rfl T.b_sum ?_;refine fQ rfl (cT ?_);exact lc_ ["_law_row"] ["_law_k"] [0] [0] (bT (pdv 1)) (λq nd=>bj (pdv 0) (pdv 1));refine eZ (ts:=[6]) ZC rfl (bT (pdv 3)) (aM (i:=6) nd) (aB (aU (i:=7) nd (aY F_Lnext hr (aa (pdv 0) au))) (aF ?_));refine fW ?_;refine dY (pdv 5) (aa (cT ?_) au);exact lc_ ["_law_j"] ["_law_number","_law_directions"] [7,1] [0] (cC T.b_range (aa (aJ cQ aA (aJ dG (pdv 7) aA)) au)) (λq nd=>aY F_Lpoint hr (aa (aY F_Lmixed hr (aa (pdv 1) (aa (pdv 0) au))) (aa (pdv 2) (aa aA (aa aA au)))));refine Hb (i:=5) ?_;refine Hb (i:=3) ?_;refine aU (i:=8) nd ?_;refine pU rfl T.b_sum ?_;refine fQ rfl (cT ?_);exact lc_ ["_law_row","_law_lot"] [] [] [0,1] (lg T.b_zip (aa (pdv 3) (aa (pdv 5) au))) (λq nd=>aY F_Lceiling hr (aa (pdv 0) (aa (pdv 1) au)));refine aU (i:=9) nd ?_;refine pU rfl T.b_sum ?_;refine fQ rfl (cT ?_);refine lc_ ["_law_row"] [] [] [0] (bT (pdv 3)) (λq nd=>?_);refine pU rfl T.b_sum ?_;refine fQ rfl (cT ?_);exact lc_ ["_law_one"] [] [] [0] (bT (pdv 0)) (λq nd=>aJ fK (pdv 0) (pdv 0));refine eZ (ts:=[6,14]) ZC rfl (lg T.b_zip (aa (pdv 3) (aa (pdv 5) au))) (gq rfl (aX (aM (i:=6) nd) (aX (aM (i:=14) nd) eN))) (aB (aU (i:=15) nd (jT (lq au))) (aB ?_ (aB ?_ (aB (aU (i:=11) nd (cT (QJ (pdv 11) (pdv 15)))) (aF (fW (dY (pdv 13) (aa (aQ (aa (pdv 6) (aa (aY F_Lceiling hr (aa (pdv 6) (aa (qe (pdv 15)) au))) au))) au))))))));refine eZ (ts:=[16]) ZC rfl (bT (pdv 14)) (aM (i:=16) nd) (aF ?_);refine fW ?_;refine dY (pdv 15) (aa ?_ au);refine aY F_Llowest hr (aa (cT ?_) (aa (bj (pdv 16) (iu aA)) au));exact lc_ ["_law_k"] ["_law_point_here","_law_far","_law_row"] [16,10,6] [0] (cC T.b_range (aa (pdv 1) au)) (λq nd=>aJ jo (bj (pdv 1) (pdv 0)) (aJ fK (aJ fK (pdv 2) (bj (pdv 3) (pdv 0))) (bj (pdv 1) (iu aA))));refine fW ?_;exact dY (pdv 12) (aa (Mt rfl T.b_tuple T.b_range (aa (cU T.b_len (aa (pdv 11) au)) (aa (aJ cQ (cU T.b_len (aa (pdv 11) au)) (cU T.b_len (aa (pdv 15) au))) au))) au)
theorem Oo(F:FX C "_law_odd" (top 40) f fd Tb):FJ C "_law_odd" 1 (0+1) (aH 2 (rA)):=
 cY ["_law_number","_law_things"] F λq nd hcd hr=>by
  refine aB ?_ ?_;refine aU (i:=1) nd ?_;refine gV ?_;refine aa ?_ ?_;exact Dk;refine aa ?_ ?_;exact fM;refine aa ?_ ?_;exact fM;refine aa ?_ ?_;exact aA;refine aa ?_ ?_;exact aA;refine aa ?_ ?_;refine iu ?_;exact aA;refine aa ?_ ?_;exact CT;refine aa ?_ ?_;exact CT;refine aa ?_ ?_;exact aQ au;refine aa ?_ ?_;exact gV au;refine aa ?_ ?_;exact Pn;refine aa ?_ ?_;refine aQ ?_;refine aa ?_ au;exact aQ au;refine aa ?_ ?_;refine gV ?_;refine aa ?_ au;exact aQ au;refine aa ?_ ?_;refine aQ ?_;refine aa ?_ au;exact Dk;refine aa ?_ ?_;refine aQ ?_;refine aa ?_ au;refine aQ ?_;refine aa ?_ ?_;exact aA;refine aa ?_ au;exact aA;refine aa ?_ au;refine gV ?_;refine aa ?_ au;refine aQ ?_;refine aa ?_ ?_;exact aA;refine aa ?_ au;exact aA;refine aB ?_ ?_;refine aU (i:=1) nd ?_;refine aJ cQ (pdv 1) ?_;refine gV ?_;refine aa ?_ ?_;refine aQ ?_;refine aa ?_ au;refine gV ?_;refine aa ?_ ?_;exact aA;refine aa ?_ au;exact aA;refine aa ?_ ?_;refine GZ ?_ ?_;exact aA;exact aA;refine aa ?_ ?_;refine aQ ?_;refine aa ?_ au;refine aQ ?_;refine aa ?_ ?_;exact aA;refine aa ?_ ?_;exact aA;refine aa ?_ au;exact aA;refine aa ?_ ?_;refine aQ ?_;refine aa ?_ au;refine aQ ?_;refine aa ?_ ?_;exact aA;refine aa ?_ au;exact fM;refine aa ?_ ?_;refine aQ ?_;refine aa ?_ au;refine aQ ?_;refine aa ?_ ?_;exact fM;refine aa ?_ au;exact aA;refine aa ?_ ?_;refine aQ ?_;refine aa ?_ au;refine aQ ?_;refine aa ?_ ?_;exact CT;refine aa ?_ au;exact aA;refine aa ?_ au;refine aQ ?_;refine aa ?_ au;refine aQ ?_;refine aa ?_ ?_;refine aQ ?_;refine aa ?_ au;exact aA;refine aa ?_ au;exact aA;refine aB ?_ ?_;refine aU (i:=1) nd ?_;refine aJ cQ (pdv 1) ?_;refine gV ?_;refine aa ?_ ?_;refine aQ ?_;refine aa ?_ ?_;refine aQ ?_;refine aa ?_ ?_;exact aA;refine aa ?_ au;exact aA;refine aa ?_ au;exact aA;refine aa ?_ ?_;refine aQ ?_;refine aa ?_ ?_;refine aQ ?_;refine aa ?_ ?_;exact aA;refine aa ?_ au;exact aA;refine aa ?_ au;exact Dk;refine aa ?_ ?_;refine aQ ?_;refine aa ?_ ?_;refine aQ ?_;refine aa ?_ ?_;exact aA;refine aa ?_ au;exact aA;refine aa ?_ au;exact aA;refine aa ?_ ?_;refine aQ ?_;refine aa ?_ ?_;refine gV ?_;refine aa ?_ ?_;exact aA;refine aa ?_ au;exact aA;refine aa ?_ au;exact aA;refine aa ?_ ?_;refine aQ ?_;refine aa ?_ ?_;refine aQ ?_;refine aa ?_ ?_;exact fM;refine aa ?_ au;exact aA;refine aa ?_ au;exact aA;refine aa ?_ ?_;refine aQ ?_;refine aa ?_ ?_;refine aQ ?_;refine aa ?_ au;exact aA;refine aa ?_ au;exact aA;refine aa ?_ au;refine aQ ?_;refine aa ?_ ?_;exact aA;refine aa ?_ au;exact aA;refine aB ?_ ?_;refine aU (i:=1) nd ?_;refine aJ cQ (pdv 1) ?_;refine gV ?_;refine aa ?_ ?_;refine aQ ?_;refine aa ?_ ?_;exact aA;refine aa ?_ ?_;exact aA;refine aa ?_ au;exact aA;refine aa ?_ ?_;refine aQ ?_;refine aa ?_ ?_;refine aQ ?_;refine aa ?_ ?_;exact aA;refine aa ?_ au;exact aA;refine aa ?_ au;refine aQ ?_;refine aa ?_ ?_;exact aA;refine aa ?_ au;exact aA;refine aa ?_ ?_;refine aQ ?_;refine aa ?_ ?_;exact aQ au;refine aa ?_ au;exact aQ au;refine aa ?_ au;refine aQ ?_;refine aa ?_ ?_;exact aQ au;refine aa ?_ au;exact aA;refine aF ?_;refine aK ?_;refine bj (pdv 1) ?_;refine aJ dG (pdv 0) ?_;refine cU T.b_len ?_;exact aa (pdv 1) au
theorem Jg(F:FX C "_law_thing" (top 49) f fd Tb)(F_Lnext:FJ C "_law_next" 1 1 bA)(F_Lodd:FJ C "_law_odd" 1 1 jz):FJ C "_law_thing" 2 (1+1) (aH 6 (lU bA jz)):=
 cY ["_law_drawn","_law_paper","_law_number","_law_one","_law_other","_law_menu"] F λq nd hcd hr=>by
  refine aB (aU (i:=2) nd (aY F_Lnext hr (aa (pdv 0) au))) (aB (aU (i:=3) nd (aY F_Lodd hr (aa (aJ jm (pdv 2) aA) au))) (aB (aU (i:=4) nd (aY F_Lodd hr (aa (aY F_Lnext hr (aa (pdv 0) au)) au))) (aB ?_ (aF (aK (bj (pdv 5) (aJ dG (pdv 2) aA)))))));refine aU (i:=5) nd ?_;exact gV (aa (pdv 3) (aa (aQ (aa (pdv 3) au)) (aa (gV (aa (pdv 3) au)) (aa (aQ (aa (pdv 3) (aa (pdv 4) au))) (aa (GZ aA (pdv 3)) (aa (aQ (aa (bj (pdv 1) aA) (aa (pdv 3) au))) (aa (aQ (aa (pdv 3) (aa (bj (pdv 1) (iu aA)) au))) (aa (pM (pdv 1) qi (pY aA)) (aa (aJ fK (aQ (aa (pdv 4) au)) aA) au)))))))))
theorem Hz(F:FX C "_law_whole" (top 38) f fd Tb):FJ C "_law_whole" 1 (0+1) (aH 1 (pH)):=
 cY ["_law_thing_here"] F λq nd hcd hr=>by
  refine aF (aK ?_);refine lH ?_ ?_;exact jl T.b_isinstance T.b_int PyProof.Rows.boot_int (by decide) (pdv 0)
  refine jQ ?_;refine vC ?_;exact jl T.b_isinstance T.b_bool PyProof.Rows.boot_bool (by decide) (pdv 0)
theorem uT(F:FX C "_law_are_shares" (top 45) f fd Tb)(F_Lwhole:FJ C "_law_whole" 1 1 bC):FJ C "_law_are_shares" 2 (1+1) (aH 4 (jN bC)):=
 cY ["_law_many","_law_thing_here","_law_before","_law_row"] F λq nd hcd hr=>by
  refine aB ?_ (aB (aU (i:=2) nd (iu aA)) (aB ?_ (aF (aK fM))));refine cH ?_ (aF (aK fM)) bf;refine iJ ?_;refine fY ?_ (gR (bJ (Vu hr) (pdv 1) (aQ au)));refine cJ ?_;refine cN ?_;exact jl T.b_isinstance T.b_tuple ZL (by decide) (pdv 1)
  refine eZ (ts:=[3]) ZC rfl (bT (pdv 1)) (aM (i:=3) nd) (aB ?_ (aB ?_ (aF (aU (i:=2) nd (bj (pdv 3) aA)))));refine cH ?_ (aF (aK fM)) bf;refine iJ ?_;refine fY ?_ ?_;refine cJ ?_;refine cN ?_;exact jl T.b_isinstance T.b_tuple ZL (by decide) (pdv 3)
  exact fY (bJ (nY hr) (cU T.b_len (aa (pdv 3) au)) aA) (fY (cJ (cN (aY F_Lwhole hr (aa (bj (pdv 3) aA) au)))) (gR (cJ (cN (aY F_Lwhole hr (aa (bj (pdv 3) aA) au))))));exact cH (iJ (fY (bJ Fq (bj (pdv 3) aA) (pdv 2)) (fY (bJ xH (bj (pdv 3) aA) (pdv 0)) (gR (bJ sJ (bj (pdv 3) aA) aA))))) (aF (aK fM)) bf
theorem Qn(F:FX C "_law_mix" (top 35) f fd Tb)(F_Lgcd:FJ C "_law_gcd" 2 1 iR)(F_Llowest:FJ C "_law_lowest" 2 2 aR):FJ C "_law_mix" 2 (2+1) (aH 9 (mQ iR aR)):=
 cY ["_law_points","_law_shares","_law_bottom","_law_k","_law_share","_law_numbers","_law_total","_law_i","_law_more"] F λq nd hcd hr=>by
  refine aB (aU (i:=2) nd aA) (aB ?_ (aB (aU (i:=5) nd (jT (OJ (gV (aa aA au)) (aJ jo (cU T.b_len (aa (bj (pdv 0) (bj (bj (pdv 1) aA) aA)) au)) aA)))) (aB (aU (i:=6) nd aA) (aB ?_ (aF (aK (aY F_Llowest hr (aa (qe (pdv 5)) (aa (aJ fK (pdv 2) (pdv 6)) au)))))))));refine eZ (ts:=[3,4]) ZC rfl (bT (pdv 1)) (gq rfl (aX (aM (i:=3) nd) (aX (aM (i:=4) nd) eN))) (aF ?_);exact aU (i:=2) nd (aJ jm (aJ fK (pdv 2) (bj (bj (pdv 0) (pdv 3)) (iu aA))) (aY F_Lgcd hr (aa (pdv 2) (aa (bj (bj (pdv 0) (pdv 3)) (iu aA)) au))));refine eZ (ts:=[3,4]) ZC rfl (bT (pdv 1)) (gq rfl (aX (aM (i:=3) nd) (aX (aM (i:=4) nd) eN))) (aB (aU (i:=6) nd (aJ cQ (pdv 6) (pdv 4))) (aF ?_));exact eZ (ts:=[7]) ZC rfl (cC T.b_range (aa (cU T.b_len (aa (pdv 5) au)) au)) (aM (i:=7) nd) (aB (aU (i:=8) nd (aJ fK (pdv 4) (bj (bj (pdv 0) (pdv 3)) (pdv 7)))) (aF (Fj (aJ cQ (bj (pdv 5) (pdv 7)) (aJ fK (pdv 8) (aJ jm (pdv 2) (bj (bj (pdv 0) (pdv 3)) (iu aA))))) (pdv 5) (pdv 7))))
theorem ur(F:FX C "_law_shares_spot" (top 44) f fd Tb)(F_Lwhole:FJ C "_law_whole" 1 1 bC)(F_Llowest:FJ C "_law_lowest" 2 2 aR)(F_Lare_shares:FJ C "_law_are_shares" 2 2 dD)(F_Lmix:FJ C "_law_mix" 2 3 nj):FJ C "_law_shares_spot" 3 (3+1) (aH 7 (jC bC aR dD nj)):=
 cY ["_law_points","_law_groups","_law_thing_here","_law_spot","_law_rows","_law_group","_law_row"] F λq nd hcd hr=>by
  refine aB ?_ (aB (mU (ts:=[3,4]) (pdv 2) (gq rfl (aX (aM (i:=3) nd) (aX (aM (i:=4) nd) eN)))) (aB ?_ (aB ?_ (aB ?_ (aF (aK fM))))));refine cH ?_ (aF (aK fM)) bf;refine iJ ?_;refine fY ?_ ?_;refine cJ ?_;refine cN ?_;exact jl T.b_isinstance T.b_tuple ZL (by decide) (pdv 2)
  refine fY (bJ (nY hr) (cU T.b_len (aa (pdv 2) au)) aA) ?_;refine gR ?_;refine cJ ?_;refine cN ?_;exact jl T.b_isinstance T.b_tuple ZL (by decide) (bj (pdv 2) aA)
  refine cH ?_ (aF (aK fM)) bf;refine iJ ?_;refine fY (bJ (nY hr) (cU T.b_len (aa (pdv 3) au)) (cU T.b_len (aa (bj (pdv 0) aA) au))) ?_;refine fY ?_ (gR (bJ sJ (bj (pdv 3) (iu aA)) aA));refine cJ ?_;refine cN ?_;refine nM rfl T.b_all ?_;refine fQ rfl (cT ?_);exact lc_ ["_law_one"] [] [] [0] (bT (pdv 3)) (λq nd=>aY F_Lwhole hr (aa (pdv 0) au));refine cH ?_ (aF (aK fM)) bf;refine iJ ?_;refine fY (bJ (nY hr) (aY F_Llowest hr (aa (pM (pdv 3) qi (pY (iu aA))) (aa (bj (pdv 3) (iu aA)) au))) (pdv 3)) ?_;refine fY ?_ (gR (bJ (nY hr) (cU T.b_len (aa (pdv 4) au)) (cU T.b_len (aa (pdv 1) au))));refine cJ ?_;refine cN ?_;exact jl T.b_isinstance T.b_tuple ZL (by decide) (pdv 4)
  refine eZ (ts:=[5,6]) ZC rfl (lg T.b_zip (aa (pdv 1) (aa (pdv 4) au))) (gq rfl (aX (aM (i:=5) nd) (aX (aM (i:=6) nd) eN))) (aB ?_ (aF (cH (bJ (nY hr) (aY F_Lmix hr (aa (pdv 0) (aa (pdv 6) au))) (pdv 3)) (aF (aK fM)) bf)));refine cH ?_ (aF (aK fM)) bf;refine iJ ?_;refine fY (cJ (cN (aY F_Lare_shares hr (aa (cU T.b_len (aa (pdv 0) au)) (aa (pdv 6) au))))) ?_;refine gR ?_;refine bJ (JQ hr) (cT ?_) (gV au);exact lc_ ["_law_k","_law_share"] ["_law_group"] [5] [0,1] (bT (pdv 6)) (λq nd=>pdv 0) (λq nd=>JP (bJ Mp (pdv 0) (pdv 2)))
theorem Ih(F:FX C "is_row" (top 2) f fd Tb):FJ C "is_row" 2 (0+1) (aH 2 (jO)):=
 cY ["many","thing"] F λq nd hcd hr=>by
  refine aF (aK ?_);refine lH ?_ (jQ (lJ (mK hr) (cU T.b_len (aa (pdv 1) au)) (pdv 0)));exact jl T.b_isinstance T.b_tuple ZL (by decide) (pdv 1)
theorem yK(F:FX C "is_number" (top 1) f fd Tb):FJ C "is_number" 1 (0+1) (aH 1 (il)):=
 cY ["thing"] F λq nd hcd hr=>by
  refine aF (aK ?_);refine lH ?_ ?_;exact jl T.b_isinstance T.b_int PyProof.Rows.boot_int (by decide) (pdv 0)
  refine jQ ?_;refine vC ?_;exact jl T.b_isinstance T.b_bool PyProof.Rows.boot_bool (by decide) (pdv 0)
theorem wB(F:FX C "is_numbers" (top 3) f fd Tb)(F_is_number:FJ C "is_number" 1 1 cZ)(hT:Tb∈C.tb):FJ C "is_numbers" 1 (2+1) (aH 1 (eF cZ)):=
 cY ["thing"] F λq nd hcd hr=>by
  refine aF (aK ?_);refine lH ?_ ?_;exact jl T.b_isinstance T.b_tuple ZL (by decide) (pdv 0)
  refine jQ ?_;refine nM rfl T.b_all (lz ?_);exact zZ ["part"] [] [] [0] hr hT hcd (bT (pdv 0)) (λq nd hg1=>aY F_is_number hg1 (aa (pdv 0) au))
theorem rT(F:FX C "divisor_of_two" (top 4) f fd Tb):FJ C "divisor_of_two" 2 (0+1) (aH 2 (dU)):=
 cY ["one","other"] F λq nd hcd hr=>by
  exact aB (yj (i:=0) (j:=1) rfl nd (aa (tW T.b_abs (aa (pdv 0) au)) (aa (tW T.b_abs (aa (pdv 1) au)) au))) (aB (tR ZC (bJ (nY hr) (pdv 1) aA) (aF (yj (i:=0) (j:=1) rfl nd (aa (pdv 1) (aa (aJ dG (pdv 0) (pdv 1)) au))))) (aF (aK (pdv 0))))
theorem rN(F:FX C "common_divisor" (top 5) f fd Tb)(F_divisor_of_two:FJ C "divisor_of_two" 2 1 bG):FJ C "common_divisor" 1 (1+1) (aH 3 (cM bG)):=
 cY ["numbers","found","number"] F λq nd hcd hr=>by
  exact aB (aU (i:=1) nd aA) (aB (eZ (ts:=[2]) ZC rfl (bT (pdv 0)) (aM (i:=2) nd) (aB (aU (i:=1) nd (aY F_divisor_of_two hr (aa (pdv 1) (aa (pdv 2) au)))) (aF (cH (bJ (mK hr) (pdv 1) aA) (aF Iz) bf)))) (aF (aK (pdv 1))))
theorem Ex(F:FX C "is_spot" (top 20) f fd Tb)(F_is_numbers:FJ C "is_numbers" 1 3 bB)(F_common_divisor:FJ C "common_divisor" 1 2 bh):FJ C "is_spot" 1 (3+1) (aH 1 (iH bB bh)):=
 cY ["thing"] F λq nd hcd hr=>by
  refine aB ?_ (aF (aK (lH (lJ xH (bj (pdv 0) (iu aA)) aA) (jQ (lJ (mK hr) (aY F_common_divisor hr (aa (pdv 0) au)) aA)))));exact cH (iJ (fY (cJ (cN (aY F_is_numbers hr (aa (pdv 0) au)))) (gR (cJ (Hu Fq Fq aA (cU T.b_len (aa (pdv 0) au)) (aJ cQ (Ss T.c_MOST_DIRECTIONS rfl) aA)))))) (aF (aK fM)) bf
theorem BV(F:FX C "is_share" (top 11) f fd Tb)(F_is_numbers:FJ C "is_numbers" 1 3 bB):FJ C "is_share" 2 (3+1) (aH 2 (gJ bB)):=
 cY ["many","thing"] F λq nd hcd hr=>by
  exact aB (cH (iJ (fY (cJ (cN (aY F_is_numbers hr (aa (pdv 1) au)))) (gR (bJ (nY hr) (cU T.b_len (aa (pdv 1) au)) aA)))) (aF (aK fM)) bf) (aF (aK (lH (KH Fq sJ aA (bj (pdv 1) aA) (pdv 0)) (jQ (lJ xH (bj (pdv 1) aA) aA)))))
theorem yr(F:FX C "is_shares" (top 12) f fd Tb)(F_is_share:FJ C "is_share" 2 4 iV)(hT:Tb∈C.tb):FJ C "is_shares" 2 (5+1) (aH 2 (fL iV)):=
 cY ["many","thing"] F λq nd hcd hr=>by
  refine aB ?_ (aB ?_ (aF (aK ?_)));refine cH ?_ (aF (aK fM)) bf;refine iJ ?_;refine fY ?_ (gR (bJ (mK hr) (cU T.b_len (aa (pdv 1) au)) aA));refine cJ ?_;refine cN ?_;exact jl T.b_isinstance T.b_tuple ZL (by decide) (pdv 1)
  refine cH ?_ (aF (aK fM)) bf;refine cJ ?_;refine cN ?_;refine nM rfl T.b_all (lz ?_);exact zZ ["part"] ["many"] [0] [0] hr hT hcd (bT (pdv 1)) (λq nd hg1=>aY F_is_share hg1 (aa (pdv 1) (aa (pdv 0) au)));refine nM rfl T.b_all (lz ?_);exact zZ ["one","other"] [] [] [0,1] hr hT hcd (lg T.b_zip (aa (pdv 1) (aa (pM (pdv 1) (pY aA) qi) au))) (λq nd hg1=>lJ sJ (bj (pdv 0) aA) (bj (pdv 1) aA))
theorem qZ(F:FX C "is_group_shares" (top 22) f fd Tb)(F_is_shares:FJ C "is_shares" 2 6 iz)(hT:Tb∈C.tb):FJ C "is_group_shares" 3 (7+1) (aH 3 (dC iz)):=
 cY ["points","group","thing"] F λq nd hcd hr=>by
  refine aF (aK ?_);refine lH (aY F_is_shares hr (aa (cU T.b_len (aa (pdv 0) au)) (aa (pdv 2) au))) ?_;refine jQ ?_;refine nM rfl T.b_all (lz ?_);exact zZ ["k","share"] ["group"] [1] [0,1] hr hT hcd (bT (pdv 2)) (λq nd hg1=>lJ Xw (pdv 0) (pdv 2))
theorem qX(F:FX C "common_multiple" (top 6) f fd Tb)(F_divisor_of_two:FJ C "divisor_of_two" 2 1 bG):FJ C "common_multiple" 1 (1+1) (aH 3 (fu bG)):=
 cY ["numbers","found","number"] F λq nd hcd hr=>by
  exact aB (aU (i:=1) nd aA) (aB (eZ (ts:=[2]) ZC rfl (bT (pdv 0)) (aM (i:=2) nd) (aF (Dg (i:=1) nd (aJ jm (pdv 2) (aY F_divisor_of_two hr (aa (pdv 1) (aa (pdv 2) au))))))) (aF (aK (pdv 1))))
theorem ux(F:FX C "over_bottoms" (top 13) f fd Tb)(F_common_multiple:FJ C "common_multiple" 1 2 dR):FJ C "over_bottoms" 2 (2+1) (aH 3 (gY dR)):=
 cY ["points","numbers","whole"] F λq nd hcd hr=>by
  refine aB ?_ (aF (aK (cT ?_)));refine aU (i:=2) nd ?_;refine aY F_common_multiple hr (aa (cT ?_) au);exact lc_ ["point"] [] [] [0] (bT (pdv 0)) (λq nd=>bj (pdv 0) (iu aA));exact lc_ ["number","point"] ["whole"] [2] [0,1] (lg T.b_zip (aa (pdv 1) (aa (pdv 0) au))) (λq nd=>aJ fK (pdv 0) (aJ jm (pdv 2) (bj (pdv 1) (iu aA))))
theorem rK(F:FX C "sum_of_products" (top 8) f fd Tb)(hT:Tb∈C.tb):FJ C "sum_of_products" 2 (1+1) (aH 2 (cG)):=
 cY ["ones","others"] F λq nd hcd hr=>by
  refine aF (aK ?_);refine pU rfl T.b_sum (lz ?_);exact zZ ["one","other"] [] [] [0,1] hr hT hcd (lg T.b_zip (aa (pdv 0) (aa (pdv 1) au))) (λq nd hg1=>aJ fK (pdv 0) (pdv 1))
theorem Dm(F:FX C "weighed" (top 9) f fd Tb)(F_sum_of_products:FJ C "sum_of_products" 2 2 bI):FJ C "weighed" 2 (2+1) (aH 2 (je bI)):=
 cY ["rows","weights"] F λq nd hcd hr=>by
  refine aF (aK (cT ?_));refine lc_ ["at"] ["weights","rows"] [1,0] [0] (cC T.b_range (aa (cU T.b_len (aa (bj (pdv 0) aA) au)) au)) (λq nd=>?_);refine aY F_sum_of_products hr (aa (pdv 1) (aa (cT ?_) au));exact lc_ ["row"] ["at"] [0] [0] (bT (pdv 2)) (λq nd=>bj (pdv 0) (pdv 1))
theorem Ab(F:FX C "lessened" (top 7) f fd Tb)(F_common_divisor:FJ C "common_divisor" 1 2 bh)(hT:Tb∈C.tb):FJ C "lessened" 1 (3+1) (aH 2 (km bh)):=
 cY ["numbers","common"] F λq nd hcd hr=>by
  refine aB (aU (i:=1) nd (aY F_common_divisor hr (aa (pdv 0) au))) (aF (aK ?_));refine Pk rfl T.b_tuple ?_;exact zZ ["number"] ["common"] [1] [0] hr hT hcd (bT (pdv 0)) (λq nd hg1=>aJ jm (pdv 0) (pdv 1))
theorem Kd(F:FX C "mixed" (top 14) f fd Tb)(F_over_bottoms:FJ C "over_bottoms" 2 3 gh)(F_weighed:FJ C "weighed" 2 3 fX)(F_lessened:FJ C "lessened" 1 4 iU):FJ C "mixed" 2 (4+1) (aH 4 (qC gh fX iU)):=
 cY ["points","shares","shared","weights"] F λq nd hcd hr=>by
  refine aB ?_ (aB ?_ (aF (aK (aY F_lessened hr (aa (aY F_weighed hr (aa (pdv 2) (aa (pdv 3) au))) au)))));exact Ub 2 nd ["k","share"] ["points"] [0] [0,1] (bT (pdv 1)) (λq nd=>bj (pdv 2) (pdv 0));refine aU (i:=3) nd ?_;refine aY F_over_bottoms hr (aa (pdv 2) (aa (cT ?_) au));exact lc_ ["k","share"] [] [] [0,1] (bT (pdv 1)) (λq nd=>pdv 1)
theorem Br(F:FX C "leads_to" (top 23) f fd Tb)(F_is_group_shares:FJ C "is_group_shares" 3 8 dX)(F_mixed:FJ C "mixed" 2 5 mz):FJ C "leads_to" 4 (8+1) (aH 4 (iY dX mz)):=
 cY ["points","group","spot","thing"] F λq nd hcd hr=>by
  exact aF (aK (lH (aY F_is_group_shares hr (aa (pdv 0) (aa (pdv 1) (aa (pdv 3) au)))) (jQ (lJ (mK hr) (aY F_mixed hr (aa (pdv 0) (aa (pdv 3) au))) (pdv 2)))))
theorem uq(F:FX C "shared_holds" (top 24) f fd Tb)(F_is_row:FJ C "is_row" 2 1 dj)(F_is_spot:FJ C "is_spot" 1 4 jE)(F_leads_to:FJ C "leads_to" 4 9 jH)(hT:Tb∈C.tb):FJ C "shared_holds" 3 (10+1) (aH 5 (cL dj jE jH)):=
 cY ["points","groups","thing","spot","rows"] F λq nd hcd hr=>by
  refine aB (cH (cJ (cN (aY F_is_row hr (aa aA (aa (pdv 2) au))))) (aF (aK fM)) bf) (aB (mU (ts:=[3,4]) (pdv 2) (gq rfl (aX (aM (i:=3) nd) (aX (aM (i:=4) nd) eN)))) (aB ?_ (aF (aK ?_))));exact cH (iJ (fY (cJ (cN (aY F_is_spot hr (aa (pdv 3) au)))) (gR (cJ (cN (aY F_is_row hr (aa (cU T.b_len (aa (pdv 1) au)) (aa (pdv 4) au)))))))) (aF (aK fM)) bf;refine nM rfl T.b_all (lz ?_);exact zZ ["group","row"] ["points","spot"] [0,3] [0,1] hr hT hcd (lg T.b_zip (aa (pdv 1) (aa (pdv 4) au))) (λq nd hg1=>aY F_leads_to hg1 (aa (pdv 2) (aa (pdv 0) (aa (pdv 3) (aa (pdv 1) au)))))
theorem MJ(F:FX C "_law_says" (top 39) f fd Tb):FJ C "_law_says" 2 (0+1) (aH 2 (qJ)):=
 cY ["_law_found","_law_due"] F λq nd hcd hr=>by
  refine aF (aK ?_);refine lH ?_ (jQ (lJ (mK hr) (pdv 0) (pdv 1)));exact jl T.b_isinstance T.b_bool PyProof.Rows.boot_bool (by decide) (pdv 0)
theorem Aq(F:FX C "_law_is_pair" (top 41) f fd Tb)(F_Lwhole:FJ C "_law_whole" 1 1 bC):FJ C "_law_is_pair" 2 (1+1) (aH 2 (mR bC)):=
 cY ["_law_directions","_law_thing_here"] F λq nd hcd hr=>by
  refine aB ?_ (aB ?_ (aF (aK ?_)));refine cH ?_ (aF (aK fM)) bf;refine iJ ?_;refine fY ?_ (fY (bJ (nY hr) (cU T.b_len (aa (pdv 1) au)) aA) (gR (cJ (cN (aY F_Lwhole hr (aa (bj (pdv 1) aA) au))))));refine cJ ?_;refine cN ?_;exact jl T.b_isinstance T.b_tuple ZL (by decide) (pdv 1)
  refine cH ?_ (aF (aK fM)) bf;refine iJ ?_;refine fY ?_ (gR (bJ (nY hr) (cU T.b_len (aa (bj (pdv 1) aA) au)) (pdv 0)));refine cJ ?_;refine cN ?_;exact jl T.b_isinstance T.b_tuple ZL (by decide) (bj (pdv 1) aA)
  refine nM rfl T.b_all ?_;refine fQ rfl (cT ?_);exact lc_ ["_law_number"] [] [] [0] (bT (bj (pdv 1) aA)) (λq nd=>aY F_Lwhole hr (aa (pdv 0) au))
theorem Hm(F:FX C "_law_below" (top 37) f fd Tb):FJ C "_law_below" 2 (0+1) (aH 2 (nT)):=
 cY ["_law_one","_law_other"] F λq nd hcd hr=>by
  exact aF (aK (lJ sJ (aJ fK (bj (pdv 0) aA) (bj (pdv 1) aA)) (aJ fK (bj (pdv 1) aA) (bj (pdv 0) aA))))
theorem Er(F:FX C "_law_behind" (top 42) f fd Tb)(F_Lsum:FJ C "_law_sum" 2 1 gQ)(F_Lbelow:FJ C "_law_below" 2 1 jh):FJ C "_law_behind" 2 (1+1) (aH 2 (nF gQ jh)):=
 cY ["_law_pair","_law_spots"] F λq nd hcd hr=>by
  refine aF (aK ?_);refine vC ?_;refine Do rfl T.b_any ?_;refine fQ rfl (cT ?_);exact lc_ ["_law_spot"] ["_law_pair"] [0] [0] (bT (pdv 1)) (λq nd=>aY F_Lbelow hr (aa (aQ (aa (bj (pdv 1) aA) (aa aA au))) (aa (aY F_Lsum hr (aa (bj (pdv 1) aA) (aa (pdv 0) au))) au)))
theorem Hx(F:FX C "_law_parts" (top 46) f fd Tb)(F_Lis_pair:FJ C "_law_is_pair" 2 2 gm)(F_Lbehind:FJ C "_law_behind" 2 2 iw):FJ C "_law_parts" 3 (2+1) (aH 5 (pA gm iw)):=
 cY ["_law_points","_law_groups","_law_thing_here","_law_directions","_law_k"] F λq nd hcd hr=>by
  refine aB (aU (i:=3) nd (aJ jo (cU T.b_len (aa (bj (pdv 0) aA) au)) aA)) (aB ?_ (aB ?_ (aB ?_ (aF (aK ?_)))));refine cH ?_ (aF (aK fM)) bf;refine iJ ?_;refine fY ?_ (gR (bJ (nY hr) (cU T.b_len (aa (pdv 2) au)) (cU T.b_len (aa (pdv 1) au))));refine cJ ?_;refine cN ?_;exact jl T.b_isinstance T.b_tuple ZL (by decide) (pdv 2)
  refine cH ?_ (aF (aK fM)) bf;refine iJ ?_;refine fY ?_ ?_;refine cJ ?_;refine cN ?_;refine nM rfl T.b_all ?_;refine fQ rfl (cT ?_);exact lc_ ["_law_pair"] ["_law_directions"] [3] [0] (bT (pdv 2)) (λq nd=>aY F_Lis_pair hr (aa (pdv 1) (aa (pdv 0) au)));refine gR ?_;refine bJ xH ?_ aA;refine pU rfl T.b_sum ?_;refine fQ rfl (cT ?_);exact lc_ ["_law_pair"] [] [] [0] (bT (pdv 2)) (λq nd=>bj (pdv 0) aA);refine eZ (ts:=[4]) ZC rfl (cC T.b_range (aa (pdv 3) au)) (aM (i:=4) nd) (aF ?_);refine cH ?_ (aF (aK fM)) bf;refine bJ (nY hr) ?_ aA;refine pU rfl T.b_sum ?_;refine fQ rfl (cT ?_);exact lc_ ["_law_pair"] ["_law_k"] [4] [0] (bT (pdv 2)) (λq nd=>bj (bj (pdv 0) aA) (pdv 1));refine nM rfl T.b_all ?_;refine fQ rfl (cT ?_);refine lc_ ["_law_group","_law_pair"] ["_law_points"] [0] [0,1] (lg T.b_zip (aa (pdv 1) (aa (pdv 2) au))) (λq nd=>?_);refine aY F_Lbehind hr (aa (pdv 1) (aa (cT ?_) au));exact lc_ ["_law_k"] ["_law_points"] [2] [0] (bT (pdv 0)) (λq nd=>bj (pdv 1) (pdv 0))
theorem DR(F:FX C "is_side" (top 16) f fd Tb)(F_is_row:FJ C "is_row" 2 1 dj)(F_is_numbers:FJ C "is_numbers" 1 3 bB)(F_is_number:FJ C "is_number" 1 1 cZ):FJ C "is_side" 2 (3+1) (aH 4 (mq dj bB cZ)):=
 cY ["directions","thing","row","most"] F λq nd hcd hr=>by
  exact aB (cH (cJ (cN (aY F_is_row hr (aa aA (aa (pdv 1) au))))) (aF (aK fM)) bf) (aB (mU (ts:=[2,3]) (pdv 1) (gq rfl (aX (aM (i:=2) nd) (aX (aM (i:=3) nd) eN)))) (aF (aK (lH (aY F_is_numbers hr (aa (pdv 2) au)) (lH (lJ (mK hr) (cU T.b_len (aa (pdv 2) au)) (pdv 0)) (jQ (aY F_is_number hr (aa (pdv 3) au))))))))
theorem Bg(F:FX C "part_all" (top 25) f fd Tb)(F_weighed:FJ C "weighed" 2 3 fX):FJ C "part_all" 1 (3+1) (aH 2 (kJ fX)):=
 cY ["sides","together"] F λq nd hcd hr=>by
  refine aB ?_ (aF (aK (lH (vC (Do rfl T.b_any (fQ rfl (pM (pdv 1) qi (pY (iu aA)))))) (jQ (lJ sJ (bj (pdv 1) (iu aA)) aA)))));refine aU (i:=1) nd ?_;refine aY F_weighed hr (aa (cT ?_) (aa (aJ fK (gV (aa aA au)) (cU T.b_len (aa (pdv 0) au))) au));exact lc_ ["row","most"] [] [] [0,1] (bT (pdv 0)) (λq nd=>aQ (JD (pdv 0) (aa (pdv 1) au)))
theorem yG(F:FX C "is_beyond" (top 17) f fd Tb)(F_sum_of_products:FJ C "sum_of_products" 2 2 bI):FJ C "is_beyond" 2 (2+1) (aH 4 (jJ bI)):=
 cY ["wall","spot","row","most"] F λq nd hcd hr=>by
  exact aB (mU (ts:=[2,3]) (pdv 0) (gq rfl (aX (aM (i:=2) nd) (aX (aM (i:=3) nd) eN)))) (aF (aK (lJ Ym (aY F_sum_of_products hr (aa (pdv 2) (aa (pM (pdv 1) qi (pY (iu aA))) au))) (aJ fK (pdv 3) (bj (pdv 1) (iu aA))))))
theorem vf(F:FX C "apart_holds" (top 26) f fd Tb)(F_is_row:FJ C "is_row" 2 1 dj)(F_is_side:FJ C "is_side" 2 4 kO)(F_part_all:FJ C "part_all" 1 4 jL)(F_is_beyond:FJ C "is_beyond" 2 3 jd)(hT:Tb∈C.tb):FJ C "apart_holds" 3 (5+1) (aH 4 (iI dj kO jL jd)):=
 cY ["points","groups","thing","directions"] F λq nd hcd hr=>by
  refine aB (aU (i:=3) nd (aJ jo (cU T.b_len (aa (bj (pdv 0) aA) au)) aA)) (aB ?_ (aB (cH (cJ (cN (aY F_part_all hr (aa (pdv 2) au)))) (aF (aK fM)) bf) (aF (aK ?_))));refine cH ?_ (aF (aK fM)) bf;refine iJ ?_;refine fY (cJ (cN (aY F_is_row hr (aa (cU T.b_len (aa (pdv 1) au)) (aa (pdv 2) au))))) ?_;refine gR ?_;refine cJ ?_;refine cN ?_;refine nM rfl T.b_all (lz ?_);exact zZ ["side"] ["directions"] [3] [0] hr hT hcd (bT (pdv 2)) (λq nd hg1=>aY F_is_side hg1 (aa (pdv 1) (aa (pdv 0) au)));refine vC ?_;refine Do rfl T.b_any (lz ?_);refine Dt (own:=["group","side","k"]) (cap:=["points"]) (capI:=[0]) (ts1:=[0,1]) (ts2:=[2]) rfl hr ⟨rfl,by decide +kernel,⟨⟨rfl,by first|exact Or.inl rfl|exact Or.inr rfl⟩,trivial⟩,by decide +kernel,by decide +kernel⟩ (by decide +kernel) (by decide +kernel) hT ⟨q.c,rfl,hcd⟩ (lg T.b_zip (aa (pdv 1) (aa (pdv 2) au))) (λAG cs C code fp s2 H2=>gq rfl (aX (aM (i:=0) (show(["group","side","k","points"]:List Str).Nodup by decide +kernel)) (aX (aM (i:=1) (show(["group","side","k","points"]:List Str).Nodup by decide +kernel)) eN))) ?_ ?_ (λAG cs C code fp s2 H2=>aM (i:=2) (show(["group","side","k","points"]:List Str).Nodup by decide +kernel)) ?_ ?_
  intro AG cs C code fp s2 H2 hm;have hg1:=hm _ hr;exact sU;intro AG cs C code fp s2 H2 hm;have hg1:=hm _ hr;exact bT (pdv 0);intro AG cs C code fp s2 H2 hm;have hg1:=hm _ hr;exact sU;intro AG cs C code fp s2 H2 hm;have hg1:=hm _ hr;exact aY F_is_beyond hg1 (aa (pdv 1) (aa (bj (pdv 3) (pdv 2)) au))
theorem Ur(F:FX C "law" (top 50) f fd Tb)(F_Ldraws:FJ C "_law_draws" 1 2 kE)(F_Lnext:FJ C "_law_next" 1 1 bA)(F_Lround_a_spot:FJ C "_law_round_a_spot" 3 4 dO)(F_Lapart:FJ C "_law_apart" 3 4 kY)(F_Lthing:FJ C "_law_thing" 2 2 jK)(F_Lshares_spot:FJ C "_law_shares_spot" 3 4 dJ)(F_shared_holds:FJ C "shared_holds" 3 11 dI)(F_Lsays:FJ C "_law_says" 2 1 lB)(F_Lparts:FJ C "_law_parts" 3 3 jM)(F_apart_holds:FJ C "apart_holds" 3 6 eU):tB C.P C.w C.K C.mg C.base CX0 (11+1) f fd ["_law_script"] (spD C.K C.tb 1 (aH 14 (tY kE bA dO kY jK dJ dI lB jM eU))):=
 fj_n ["_law_script","_law_drawn","_law_k","_law_directions","_law_points","_law_groups","_law_paper","_law_others","_law_lots","_law_pairs","_law_j","_law_thing_here","_law_some","_law_rows"] ["_law_script"] F λq nd hcd hr=>by
  refine aB (aU (i:=1) nd (aY F_Ldraws hr (aa (pdv 0) au))) (aB ?_ (aF (aK fM)));refine eZ (ts:=[2]) ZC rfl (cC T.b_range (aa aA au)) (aM (i:=2) nd) (aB (aU (i:=3) nd (aJ cQ aA (aJ dG (aY F_Lnext hr (aa (pdv 1) au)) aA))) (aB (mU (ts:=[4,5,6]) (aY F_Lround_a_spot hr (aa (pdv 1) (aa (pdv 3) (aa (aJ cQ aA (aJ dG (aY F_Lnext hr (aa (pdv 1) au)) aA)) au)))) (gq rfl (aX (aM (i:=4) nd) (aX (aM (i:=5) nd) (aX (aM (i:=6) nd) eN))))) (aB (mU (ts:=[7,8,9]) (aY F_Lapart hr (aa (pdv 1) (aa (pdv 3) (aa (aJ cQ aA (aJ dG (aY F_Lnext hr (aa (pdv 1) au)) aA)) au)))) (gq rfl (aX (aM (i:=7) nd) (aX (aM (i:=8) nd) (aX (aM (i:=9) nd) eN))))) (aF ?_))));refine eZ (ts:=[10]) ZC rfl (cC T.b_range (aa aA au)) (aM (i:=10) nd) (aB (aU (i:=11) nd (aY F_Lthing hr (aa (pdv 1) (aa (bj (gV (aa (pdv 6) (aa (pdv 9) au))) (aJ dG (pdv 10) aA)) au)))) (aF ?_));refine eZ (ts:=[12,13]) ZC rfl (bT (gV (aa (aQ (aa (pdv 4) (aa (pdv 5) au))) (aa (aQ (aa (pdv 7) (aa (pdv 8) au))) au)))) (gq rfl (aX (aM (i:=12) nd) (aX (aM (i:=13) nd) eN))) (aB ?_ (aF ?_));refine cH ?_ (aF (aK fM)) bf;refine cJ ?_;exact cN (aY F_Lsays hr (aa (aY F_shared_holds hr (aa (pdv 12) (aa (pdv 13) (aa (pdv 11) au)))) (aa (aY F_Lshares_spot hr (aa (pdv 12) (aa (pdv 13) (aa (pdv 11) au)))) au)));refine cH ?_ (aF (aK fM)) bf;refine cJ ?_;exact cN (aY F_Lsays hr (aa (aY F_apart_holds hr (aa (pdv 12) (aa (pdv 13) (aa (pdv 11) au)))) (aa (aY F_Lparts hr (aa (pdv 12) (aa (pdv 13) (aa (pdv 11) au)))) au)))
end
def cg:FF:=trunc (aH 3 (jW))
def kE:FF:=aH 5 (qb cg)
def bA:FF:=trunc (aH 1 (lY))
def iR:FF:=trunc (aH 2 (rn))
def aR:FF:=trunc (aH 4 (gj iR))
def mx:FF:=trunc (aH 3 (iG))
def fP:FF:=trunc (aH 9 (jt cg mx aR))
def dO:FF:=trunc (aH 14 (fB bA cg aR fP))
def gQ:FF:=trunc (aH 2 (rE))
def iW:FF:=trunc (aH 3 (jR gQ))
def kY:FF:=trunc (aH 17 (mH bA cg fP iW aR))
def jz:FF:=trunc (aH 2 (rA))
def jK:FF:=trunc (aH 6 (lU bA jz))
def bC:FF:=trunc (aH 1 (pH))
def dD:FF:=trunc (aH 4 (jN bC))
def nj:FF:=trunc (aH 9 (mQ iR aR))
def dJ:FF:=trunc (aH 7 (jC bC aR dD nj))
def dj:FF:=trunc (aH 2 (jO))
def cZ:FF:=trunc (aH 1 (il))
def bB:FF:=trunc (aH 1 (eF cZ))
def bG:FF:=trunc (aH 2 (dU))
def bh:FF:=trunc (aH 3 (cM bG))
def jE:FF:=trunc (aH 1 (iH bB bh))
def iV:FF:=trunc (aH 2 (gJ bB))
def iz:FF:=trunc (aH 2 (fL iV))
def dX:FF:=trunc (aH 3 (dC iz))
def dR:FF:=trunc (aH 3 (fu bG))
def gh:FF:=trunc (aH 3 (gY dR))
def bI:FF:=trunc (aH 2 (cG))
def fX:FF:=trunc (aH 2 (je bI))
def iU:FF:=trunc (aH 2 (km bh))
def mz:FF:=trunc (aH 4 (qC gh fX iU))
def jH:FF:=trunc (aH 4 (iY dX mz))
def dI:FF:=trunc (aH 5 (cL dj jE jH))
def lB:FF:=trunc (aH 2 (qJ))
def gm:FF:=trunc (aH 2 (mR bC))
def jh:FF:=trunc (aH 2 (nT))
def iw:FF:=trunc (aH 2 (nF gQ jh))
def jM:FF:=trunc (aH 5 (pA gm iw))
def kO:FF:=trunc (aH 4 (mq dj bB cZ))
def jL:FF:=trunc (aH 2 (kJ fX))
def jd:FF:=trunc (aH 4 (jJ bI))
def eU:FF:=trunc (aH 4 (iI dj kO jL jd))
def Et:FF:=aH 14 (tY kE bA dO kY jK dJ dI lB jM eU)
abbrev Gt(K:Zw)(x:Str)(s:Stmt):Prop:=∃f c P fd,Got K x s f c P fd
abbrev Nn(K:Zw)(x:Str):Prop:=PySem.W.nsIn K mainGlobals x=some none
abbrev Rq(q:Zpr)(x:Str):Prop:=((recsOf q).find? (λe=>e.name==x)).isSome=true
theorem VJ{l:PySem.W.OpenLaw}{q:Zpr}{lo:List Str}{mean:ExcName->Option Value}{w:World}{K:Zw}{h:Heap}{mg mb:Str->Option Value}{fa:Addr}
  {t_MOST_DIRECTIONS:Tok}
  (X:K.In h) (G:Top q lo mean mg mb h) (hfa:mg "law"=some (.ref fa))
  (d0:Gt K "_law_mixed" (top 28))
  (d1:Gt K "_law_draws" (top 29))
  (d2:Gt K "_law_next" (top 30))
  (d3:Gt K "_law_gcd" (top 31))
  (d4:Gt K "_law_lowest" (top 32))
  (d5:Gt K "_law_place" (top 33))
  (d6:Gt K "_law_point" (top 34))
  (d7:Gt K "_law_round_a_spot" (top 47))
  (d8:Gt K "_law_sum" (top 36))
  (d9:Gt K "_law_ceiling" (top 43))
  (d10:Gt K "_law_apart" (top 48))
  (d11:Gt K "_law_odd" (top 40))
  (d12:Gt K "_law_thing" (top 49))
  (d13:Gt K "_law_whole" (top 38))
  (d14:Gt K "_law_are_shares" (top 45))
  (d15:Gt K "_law_mix" (top 35))
  (d16:Gt K "_law_shares_spot" (top 44))
  (d17:Gt K "is_row" (top 2))
  (d18:Gt K "is_number" (top 1))
  (d19:Gt K "is_numbers" (top 3))
  (d20:Gt K "divisor_of_two" (top 4))
  (d21:Gt K "common_divisor" (top 5))
  (d22:Gt K "is_spot" (top 20))
  (d23:Gt K "is_share" (top 11))
  (d24:Gt K "is_shares" (top 12))
  (d25:Gt K "is_group_shares" (top 22))
  (d26:Gt K "common_multiple" (top 6))
  (d27:Gt K "over_bottoms" (top 13))
  (d28:Gt K "sum_of_products" (top 8))
  (d29:Gt K "weighed" (top 9))
  (d30:Gt K "lessened" (top 7))
  (d31:Gt K "mixed" (top 14))
  (d32:Gt K "leads_to" (top 23))
  (d33:Gt K "shared_holds" (top 24))
  (d34:Gt K "_law_says" (top 39))
  (d35:Gt K "_law_is_pair" (top 41))
  (d36:Gt K "_law_below" (top 37))
  (d37:Gt K "_law_behind" (top 42))
  (d38:Gt K "_law_parts" (top 46))
  (d39:Gt K "is_side" (top 16))
  (d40:Gt K "part_all" (top 25))
  (d41:Gt K "is_beyond" (top 17))
  (d42:Gt K "apart_holds" (top 26))
  (d43:Gt K "law" (top 50))
  (z_abs:Nn K "abs")
  (z_all:Nn K "all")
  (z_any:Nn K "any")
  (z_bool:Nn K "bool")
  (z_int:Nn K "int")
  (z_isinstance:Nn K "isinstance")
  (z_len:Nn K "len")
  (z_max:Nn K "max")
  (z_min:Nn K "min")
  (z_range:Nn K "range")
  (z_sum:Nn K "sum")
  (z_tuple:Nn K "tuple")
  (z_zip:Nn K "zip")
  (y_MOST_DIRECTIONS:PySem.W.nsIn K mainGlobals "MOST_DIRECTIONS"=some (some (.int 3 t_MOST_DIRECTIONS)))
  (r_is_numbers:Rq q "is_numbers")
  (r_is_shares:Rq q "is_shares")
  (r_is_group_shares:Rq q "is_group_shares")
  (r_sum_of_products:Rq q "sum_of_products")
  (r_lessened:Rq q "lessened")
  (r_shared_holds:Rq q "shared_holds")
  (r_apart_holds:Rq q "apart_holds")
  (hnt:PySem.W.noTabs K=true):
  ∃(fd:FuncData)(tb:List Addr),(∀(s:Zsh)(u:Value),BindsTo s fd ⟨[u],[]⟩ [("_law_script",u)])/\(∀P∈tb,∃c,ZB h c P/\h.get? P=some (PySem.W.tabObj #[]))/\PySem.W.noTabs K=true/\
   ∀base:Heap,K.In base->base.Ns mainGlobals mg->tB l.prog w K mg base CX0 12 fa fd ["_law_script"] (spD K tb 1 Et):=by
 have N:=λ{n:Str}(h:Nn K n)=>PySem.W.mg_none_of X G.g h;have M:=λ{n:Str}{v:Value}(e:PySem.W.nsIn K mainGlobals n=some (some v))=>PySem.W.mg_of X G.g e;obtain⟨f0,c0,P0,_,G0⟩:=d0;obtain⟨f1,c1,P1,_,G1⟩:=d1;obtain⟨f2,c2,P2,_,G2⟩:=d2;obtain⟨f3,c3,P3,_,G3⟩:=d3;obtain⟨f4,c4,P4,_,G4⟩:=d4;obtain⟨f5,c5,P5,_,G5⟩:=d5;obtain⟨f6,c6,P6,_,G6⟩:=d6;obtain⟨f7,c7,P7,_,G7⟩:=d7;obtain⟨f8,c8,P8,_,G8⟩:=d8;obtain⟨f9,c9,P9,_,G9⟩:=d9;obtain⟨f10,c10,P10,_,G10⟩:=d10;obtain⟨f11,c11,P11,_,G11⟩:=d11;obtain⟨f12,c12,P12,_,G12⟩:=d12;obtain⟨f13,c13,P13,_,G13⟩:=d13;obtain⟨f14,c14,P14,_,G14⟩:=d14;obtain⟨f15,c15,P15,_,G15⟩:=d15;obtain⟨f16,c16,P16,_,G16⟩:=d16;obtain⟨f17,c17,P17,_,G17⟩:=d17;obtain⟨f18,c18,P18,_,G18⟩:=d18;obtain⟨f19,c19,P19,_,G19⟩:=d19;obtain⟨f20,c20,P20,_,G20⟩:=d20;obtain⟨f21,c21,P21,_,G21⟩:=d21;obtain⟨f22,c22,P22,_,G22⟩:=d22;obtain⟨f23,c23,P23,_,G23⟩:=d23;obtain⟨f24,c24,P24,_,G24⟩:=d24;obtain⟨f25,c25,P25,_,G25⟩:=d25;obtain⟨f26,c26,P26,_,G26⟩:=d26;obtain⟨f27,c27,P27,_,G27⟩:=d27;obtain⟨f28,c28,P28,_,G28⟩:=d28;obtain⟨f29,c29,P29,_,G29⟩:=d29;obtain⟨f30,c30,P30,_,G30⟩:=d30;obtain⟨f31,c31,P31,_,G31⟩:=d31;obtain⟨f32,c32,P32,_,G32⟩:=d32;obtain⟨f33,c33,P33,_,G33⟩:=d33;obtain⟨f34,c34,P34,_,G34⟩:=d34;obtain⟨f35,c35,P35,_,G35⟩:=d35;obtain⟨f36,c36,P36,_,G36⟩:=d36;obtain⟨f37,c37,P37,_,G37⟩:=d37;obtain⟨f38,c38,P38,_,G38⟩:=d38;obtain⟨f39,c39,P39,_,G39⟩:=d39;obtain⟨f40,c40,P40,_,G40⟩:=d40;obtain⟨f41,c41,P41,_,G41⟩:=d41;obtain⟨f42,c42,P42,_,G42⟩:=d42;obtain⟨f43,c43,P43,_,G43⟩:=d43;have T:∀base,BI ⟨l.prog,w,K,mg,base,[P19,P24,P25,P28,P30,P33,P42]⟩:=λbase=>⟨N z_abs,N z_all,N z_any,N z_bool,N z_int,N z_isinstance,N z_len,N z_max,N z_min,N z_range,N z_sum,N z_tuple,N z_zip,VG (M y_MOST_DIRECTIONS)⟩;have m_law:=M G43.m;have e:=hfa.symm.trans m_law;cases e;obtain⟨kV,dc,pm,an,ct,rfl⟩:=G43.e;refine⟨PySem.W.fnOf "law" "law" (nq (top 50)) (jA (top 50)) (dF (top 50)) .none kV dc pm an (.ref c43) ct,[P19,P24,P25,P28,P30,P33,P42],λs u=>.of_eq rfl,λP hP=>?_,hnt,λbase kb nb=>?_⟩
 .have hP:P=P19∨P=P24∨P=P25∨P=P28∨P=P30∨P=P33∨P=P42:=by simpa using hP
  rcases hP with rfl|rfl|rfl|rfl|rfl|rfl|rfl
  .exact⟨c19,rG G X r_is_numbers G19.t⟩
  .exact⟨c24,rG G X r_is_shares G24.t⟩
  .exact⟨c25,rG G X r_is_group_shares G25.t⟩
  .exact⟨c28,rG G X r_sum_of_products G28.t⟩
  .exact⟨c30,rG G X r_lessened G30.t⟩
  .exact⟨c33,rG G X r_shared_holds G33.t⟩
  .exact⟨c42,rG G X r_apart_holds G42.t⟩
 .have T:=T base;have U {φ nm n k} (h:FJ ⟨l.prog,w,K,mg,base,[P19,P24,P25,P28,P30,P33,P42]⟩ nm n k φ):=h;have jW:=U (φ:=cg) (Hq T ⟨G0.F,kb,M G0.m⟩).trunc;have qb:=U (φ:=kE) (HJ T ⟨G1.F,kb,M G1.m⟩ jW);have lY:=U (φ:=bA) (Kr T ⟨G2.F,kb,M G2.m⟩).trunc;have rn:=U (φ:=iR) (Qw T ⟨G3.F,kb,M G3.m⟩).trunc;have gj:=U (φ:=aR) (DK T ⟨G4.F,kb,M G4.m⟩ rn).trunc;have iG:=U (φ:=mx) (HF T ⟨G5.F,kb,M G5.m⟩).trunc;have jt:=U (φ:=fP) (Hl T ⟨G6.F,kb,M G6.m⟩ jW iG gj).trunc;have fB:=U (φ:=dO) (sW T ⟨G7.F,kb,M G7.m⟩ lY jW gj jt).trunc;have tH:=U (φ:=gQ) (Rz T ⟨G8.F,kb,M G8.m⟩).trunc;have uY:=U (φ:=iW) (zF T ⟨G9.F,kb,M G9.m⟩ tH).trunc;have mH:=U (φ:=kY) (Im T ⟨G10.F,kb,M G10.m⟩ lY jW jt uY gj).trunc;have Jz:=U (φ:=jz) (Oo T ⟨G11.F,kb,M G11.m⟩).trunc;have Cz:=U (φ:=jK) (Jg T ⟨G12.F,kb,M G12.m⟩ lY Jz).trunc;have oE:=U (φ:=bC) (Hz T ⟨G13.F,kb,M G13.m⟩).trunc;have eG:=U (φ:=dD) (uT T ⟨G14.F,kb,M G14.m⟩ oE).trunc;have Ku:=U (φ:=nj) (Qn T ⟨G15.F,kb,M G15.m⟩ rn gj).trunc;have bQ:=U (φ:=dJ) (ur T ⟨G16.F,kb,M G16.m⟩ oE gj eG Ku).trunc;have jO:=U (φ:=dj) (Ih T ⟨G17.F,kb,M G17.m⟩).trunc;have il:=U (φ:=cZ) (yK T ⟨G18.F,kb,M G18.m⟩).trunc;have eF:=U (φ:=bB) (wB T ⟨G19.F,kb,M G19.m⟩ il (by simp)).trunc
  have dU:=U (φ:=bG) (rT T ⟨G20.F,kb,M G20.m⟩).trunc;have cM:=U (φ:=bh) (rN T ⟨G21.F,kb,M G21.m⟩ dU).trunc;have iH:=U (φ:=jE) (Ex T ⟨G22.F,kb,M G22.m⟩ eF cM).trunc;have gJ:=U (φ:=iV) (BV T ⟨G23.F,kb,M G23.m⟩ eF).trunc;have fL:=U (φ:=iz) (yr T ⟨G24.F,kb,M G24.m⟩ gJ (by simp)).trunc
  have dC:=U (φ:=dX) (qZ T ⟨G25.F,kb,M G25.m⟩ fL (by simp)).trunc
  have fu:=U (φ:=dR) (qX T ⟨G26.F,kb,M G26.m⟩ dU).trunc;have gY:=U (φ:=gh) (ux T ⟨G27.F,kb,M G27.m⟩ fu).trunc;have cG:=U (φ:=bI) (rK T ⟨G28.F,kb,M G28.m⟩ (by simp)).trunc
  have je:=U (φ:=fX) (Dm T ⟨G29.F,kb,M G29.m⟩ cG).trunc;have km:=U (φ:=iU) (Ab T ⟨G30.F,kb,M G30.m⟩ cM (by simp)).trunc
  have qC:=U (φ:=mz) (Kd T ⟨G31.F,kb,M G31.m⟩ gY je km).trunc;have g_leads_to:=U (φ:=jH) (Br T ⟨G32.F,kb,M G32.m⟩ dC qC).trunc;have cL:=U (φ:=dI) (uq T ⟨G33.F,kb,M G33.m⟩ jO iH g_leads_to (by simp)).trunc
  have qJ:=U (φ:=lB) (MJ T ⟨G34.F,kb,M G34.m⟩).trunc;have my:=U (φ:=gm) (Aq T ⟨G35.F,kb,M G35.m⟩ oE).trunc;have nT:=U (φ:=jh) (Hm T ⟨G36.F,kb,M G36.m⟩).trunc;have oG:=U (φ:=iw) (Er T ⟨G37.F,kb,M G37.m⟩ tH nT).trunc;have pZ:=U (φ:=jM) (Hx T ⟨G38.F,kb,M G38.m⟩ my oG).trunc;have mq:=U (φ:=kO) (DR T ⟨G39.F,kb,M G39.m⟩ jO eF il).trunc;have kJ:=U (φ:=jL) (Bg T ⟨G40.F,kb,M G40.m⟩ je).trunc;have jJ:=U (φ:=jd) (yG T ⟨G41.F,kb,M G41.m⟩ cG).trunc;have iI:=U (φ:=eU) (vf T ⟨G42.F,kb,M G42.m⟩ jO mq kJ jJ (by simp)).trunc
  exact Ur T ⟨G43.F,kb,m_law⟩ qb lY fB mH Cz bQ cL qJ pZ iI
end Lk34
namespace LG
open PySem PySem.Spec PyProof.Rows L2 L3
theorem JN(a b:Int):Int.gcd b (a.fmod b)=Int.gcd a b:=by
 have h:a.fmod b=a-b*a.fdiv b:=by have:=Int.mul_fdiv_add_fmod a b;lia
 rw[h,Int.gcd_comm];have:a-b*a.fdiv b=a+b*(- a.fdiv b):=by rw[Int.mul_neg];lia
 rw[this,Int.gcd_add_mul_left_left]
theorem Rw(a b:Int)(h:b≠0):(a.fmod b).natAbs<b.natAbs:=by
 rw[Int.fmod_eq_emod];have h1:=Int.emod_nonneg a h;have h2:=Int.emod_lt a h;by_cases hd:0<=b∨b ∣ a
 .rw[if_pos hd];omega
 .rw[if_neg hd];have h3:a % b≠0:=λz=>hd (.inr (Int.dvd_of_emod_eq_zero z));omega
abbrev eucC:TF:=toB (M2 (aq 1) (mC (.int 0)) oNe)
abbrev eucB:SF:=zr 0 1 (ao (aq 1) (ao (M2 (aq 0) (aq 1) fU) (az)))
theorem ne_int(a b:Int)(μ:Mu):oNe (.int a) (.int b) μ=some (.bl (!(a==b)),μ):=by
 unfold oNe rsv;simp[dq,iQ,eqD]
theorem Gi(a b:Int)(μ:Mu):oEq (.int a) (.int b) μ=some (.bl (a==b),μ):=by
 unfold oEq rsv;simp[dq,iQ,eqD]
theorem euc:∀(n:Nat)(a b:Int)(μ:Mu),b.natAbs<=n->∃a',iM eucC eucB (n+1) [some (.int a),some (.int b)] μ=some (.nx,[some (.int a'),some (.int 0)],μ)/\a'.natAbs=Int.gcd a b/\(0<=a->0<=b->0<=a')
 |n,a,b,μ,h=>by
  by_cases hb:b=0
  .subst hb;refine⟨a,?_,by simp,λh _=>h⟩
   unfold iM;simp[toB,M2,aq,mC,ne_int]
  .cases n with
   |zero=>omega
   |succ n=>
    obtain⟨a',e,hg,hs⟩:=euc n b (a.fmod b) μ (by have:=Rw a b hb;omega)
    refine⟨a',?_,by rw[hg,JN],λh0 h1=>hs h1 (Int.fmod_nonneg_of_pos a (by omega))⟩
    unfold iM;simp[toB,M2,aq,mC,ne_int,hb,zr,ao,az,fU,e]
def pJ(φ:FF):Prop:=∀(a b:Int)(μ:Mu),φ [.int a,.int b] μ=some (.int (Int.gcd a b),μ)
theorem Sg:pJ (aH 2 dU):=λa b μ=>by
 obtain⟨a',e,hg,hs⟩:=euc _ (if a<0 then -a else a) (if b<0 then -b else b) μ (Zg _);have ea:(0:Int)<=if a<0 then -a else a:=by split<;>lia
 have eb:(0:Int)<=if b<0 then -b else b:=by split<;>lia
 have h0:=hs ea eb;have hga:Int.gcd (if a<0 then -a else a) (if b<0 then -b else b)=Int.gcd a b:=by split<;>split<;>simp
 rw[hga]at hg;have hv:a'=(Int.gcd a b:Int):=by lia
 subst hv;have ew:=tQ e;unfold aH dU;simp[aL,zr,ao,az,MC,aq,aO,pL,ew,bc]
theorem Ou:pJ (aH 2 rn):=λa b μ=>by
 obtain⟨a',e,hg,hs⟩:=euc _ a b μ (Zg _);have ew:=tQ e;unfold aH rn;have hv:(if a'<0 then -a' else a')=(Int.gcd a b:Int):=by split<;>lia
 simp[aL,ew,bc,ao,az,MC,aq,aO,pL,hv]
def bO(g:Nat)(ns:List Int):Nat:=ns.foldl (λg n=>Int.gcd g n) g
theorem Ck:∀ns:List Int,bO 1 ns=1
 | []=>rfl
 |n::ns=>by
  show bO (Int.gcd (1:Nat) n) ns=1;have:Int.gcd ((1:Nat):Int) n=1:=by simp
  rw[this];exact Ck ns
theorem bZ(items:List D)(μ:Mu):Src.ok ⟨items,none⟩ μ:=λn e=>by cases e
theorem yZ(hφ:pJ φ)(x:D)(all:List D):∀(ns:List Int)(g:Nat)(o:Option D)(μ:Mu),∃o',
  iT ⟨all,none⟩ (aC 2) (aL (bw 1 (MC (ao (aq 1) (ao (aq 2) (az))) φ)) (sIf (toB (M2 (aq 1) (mC (.int 1)) oEq)) (uO) (bH))) (ns.map D.int) [some x,some (.int g),o] μ=some (.nx,[some x,some (.int (bO g ns:Nat)),o'],μ)
 | [],g,o,μ=>⟨o,by unfold iT;simp[bZ,bO]⟩
 |n::ns,g,o,μ=>by
  by_cases h1:Int.gcd g n=1
  .refine⟨some (.int n),?_⟩;rw[Zj];unfold iT;have h2:bO g (n::ns)=1:=by show bO (Int.gcd g n) ns=1;rw[h1];exact Ck ns
   simp[bZ,aC,aL,bw,MC,ao,az,aq,hφ g n,h1,h2,sIf,toB,M2,mC,Gi,uO]
  .obtain⟨o',e⟩:=yZ hφ x all ns (Int.gcd g n) (some (.int n)) μ;refine⟨o',?_⟩;rw[Zj];unfold iT;have h3:((Int.gcd g n:Nat):Int)≠1:=by lia
   have h2:bO g (n::ns)=bO (Int.gcd g n) ns:=rfl;simp[bZ,aC,aL,bw,MC,ao,az,aq,hφ g n,h3,sIf,toB,M2,mC,Gi,bH,e,h2]
def vd(φ:FF):Prop:=∀(ns:List Int)(μ:Mu),φ [.lst (ns.map .int)] μ=some (.int (bO 0 ns:Nat),μ)
theorem Eh(hφ:pJ φ):vd (aH 3 (cM φ)):=λns μ=>by
 obtain⟨o',e⟩:=yZ hφ (.lst (ns.map .int)) (ns.map .int) ns 0 none μ;unfold aH cM;have e':=e;simp at e';simp[aL,bw,mC,ik,cR,aq,lQ,e',bc]
theorem Bb:∀(items:List D),(∀d∈items,th d μ=some (f d,μ))->Bu (items.map th) μ=some (items.map f,μ)
 | [],_=>rfl
 |d::r,h=>by
  have h1:=h d (by simp)
  have h2:=Bb r λx hx=>h x (by simp[hx])
  rw[Zj,Zj];unfold Bu;simp[h1,h2]
theorem rW:∀(items:List D),(∀d∈items,∃δ1,h d δb μ=some δ1/\fe δ1 μ=some (f d,μ))->lcL ⟨all,none⟩ h aW fe δb items μ=some (items.map f,μ)
 | [],_=>by unfold lcL;simp[bZ]
 |d::r,hd=>by
  obtain⟨δ1,h1,h2⟩:=hd d (by simp)
  have h3:=rW (all:=all) r λx hx=>hd x (by simp[hx])
  unfold lcL;simp[bZ,h1,aW,h2,h3]
def Sm(b:Nat)(n:Int):Prop:=n.natAbs<2 ^ b
theorem bits_le(h:Sm b n):Builtin.Int.intBits n<=b+1:=by
 unfold Builtin.Int.intBits;split
 .exact Nat.zero_le _
 .rename_i h';have hz:n≠0:=by simpa using h'
  have hn:n.natAbs≠0:=by omega
  have:=(Nat.log2_lt hn).mpr h;omega
theorem Jl(h:Sm b n):n.natAbs.log2<b+1:=by
 by_cases h0:n.natAbs=0
 .rw[h0];simp
 .have:=(Nat.log2_lt h0).mpr h;omega
theorem Eu(hx:Sm a x)(hy:Sm b y)(h:a+b+2<=134217728):lX x y<=134217728:=by
 have:=bits_le hx;have:=bits_le hy;unfold lX
 lia
theorem cX{a b:Nat}{x y:Int}(μ:Mu)(hx:Sm a x)(hy:Sm b y)(h:a+b+2<=134217728):di (.int x) (.int y) μ=some (.int (x*y),μ):=by
 unfold di;simp[Eu hx hy h]
theorem iC{b:Nat}{x y:Int}(μ:Mu)(h0:y≠0)(hy:Sm b y)(h:b+1<=9000):jy (.int x) (.int y) μ=some (.int (x.fdiv y),μ):=by
 unfold jy;have:=Jl hy;simp[h0,show y.natAbs.log2<9000 by omega]
theorem qp{x y:Int}(μ:Mu)(h0:y≠0):fU (.int x) (.int y) μ=some (.int (x.fmod y),μ):=by
 unfold fU;simp[h0]
theorem lD:∀(ns:List Int)(g:Nat),(∀n∈ns,((bO g ns:Nat):Int) ∣ n)/\bO g ns ∣ g
 | [],g=>⟨λn h=>by simp at h,Nat.dvd_refl _⟩
 |n::ns,g=>by
  obtain⟨h1,h2⟩:=lD ns (Int.gcd g n);have e:bO g (n::ns)=bO (Int.gcd g n) ns:=rfl;rw[e];refine⟨λm hm=>?_,?_⟩
  .rcases Zi.mp hm with z|z
   .subst z;exact Int.dvd_trans (Int.ofNat_dvd.mpr h2) (Int.gcd_dvd_right _ _)
   .exact h1 m z
  .refine Nat.dvd_trans h2 ?_;have:=Int.gcd_dvd_left (g:Int) n;exact Int.ofNat_dvd.mp this
theorem mO(h:g≠0∨∃n∈ns,n≠0):bO g ns≠0:=λz=>by
 obtain⟨h1,h2⟩:=lD ns g;rw[z]at h1 h2
 rcases h with h|⟨n,hn,h⟩
 .exact h (Nat.eq_zero_of_zero_dvd h2)
 .have:=h1 n hn;exact h (by simpa using this)
theorem RT(hn:n∈ns)(h:n≠0):bO g ns<=n.natAbs:=by
 have h1:=(lD ns g).1 n hn;have h2:bO g ns ∣ n.natAbs:=by
  have:=Int.natAbs_dvd_natAbs.mpr h1;simpa using this
 exact Nat.le_of_dvd (by omega) h2
def Ew(φ:FF):Prop:=∀(ns:List Int)(μ:Mu),bO 0 ns≠0->Sm 8000 (bO 0 ns:Nat)->ns.length<=100->φ [.lst (ns.map .int)] μ=some (.tup (ns.map λn=>.int (n.fdiv (bO 0 ns:Nat))),μ)
theorem RP(hφ:vd φ):Ew (aH 2 (km φ)):=λns μ h0 hs hl=>by
 have e:Bu ((ns.map D.int).map (thG (aC 0) (M2 (aq 0) (aq 1) jy) (bW ["number"] [some (.lst (ns.map .int)),some (.int (bO 0 ns:Nat))] [1]))) μ=some ((ns.map D.int).map (λd=>match d with| .int n=>.int (n.fdiv (bO 0 ns:Nat))|_=>.non),μ):=by
  refine Bb _ λd hd=>?_;obtain⟨n,_,rfl⟩:=Zq.mp hd;have:=iC (x:=n) μ (show((bO 0 ns:Nat):Int)≠0 by lia) hs (by decide)
  simp[thG,aC,bW,M2,aq,this]
 unfold aH km;have hz:ns.length<=sizeLine:=Zl hl (by decide)
 rw[List.map_map,List.map_map]at e;simp[aL,bw,MC,ao,az,aq,hφ ns μ,bc,Av,ou,cR,lQ,hz,e]
def sgn(b:Int):Int:=if b>0 then 1 else -1
theorem Up(hs:s=1∨s= -1)(h:Sm b n):Sm b (s*n):=by
 unfold Sm at *
 rw[Int.natAbs_mul]
 rcases hs with rfl|rfl<;>simpa using h
theorem UW(b:Int):sgn b=1∨sgn b= -1:=by unfold sgn;split<;>simp
theorem zX(hφ:pJ φ)(x y:D)(all:List D):∀(ns:List Int)(c:Int)(o:Option D)(μ:Mu),∃(c':Int)(o':Option D),
  iT ⟨all,none⟩ (aC 3) (bw 2 (MC (ao (aq 2) (ao (aq 3) (az))) φ)) (ns.map D.int) [some x,some y,some (.int c),o] μ=some (.nx,[some x,some y,some (.int c'),o'],μ)/\c'.natAbs=bO c.natAbs ns/\(0<=c∨ns≠[]->0<=c')
 | [],c,o,μ=>⟨c,o,by unfold iT;simp[bZ],rfl,λh=>h.elim id λz=>absurd rfl z⟩
 |n::ns,c,o,μ=>by
  obtain⟨c',o',e,hc,hn0⟩:=zX hφ x y all ns (Int.gcd c n) (some (.int n)) μ;refine⟨c',o',?_,?_,λ_=>hn0 (.inl (Int.natCast_nonneg _))⟩
  .rw[Zj];unfold iT;simp[bZ,aC,bw,MC,ao,az,aq,hφ c n,e]
  .rw[hc];show _=bO (Int.gcd (c.natAbs:Nat) n) ns;congr 1
def pI(φ:FF):Prop:=∀(ns:List Int)(b:Int)(μ:Mu),b≠0->Sm 4000 b->ns.length<=50->ns≠[]->
 φ [.lst (ns.map .int),.int b] μ=some (.tup ((ns++[b]).map λn=>.int (n.fdiv (sgn b*(bO b.natAbs ns:Nat)))),μ)
theorem VP(hφ:pJ φ):pI (aH 4 (gj φ)):=λns b μ hb hs hl hne=>by
 obtain⟨c',o',e,hc,hc0⟩:=zX hφ (.lst (ns.map .int)) (.int b) (ns.map .int) ns b none μ;have hsg:=UW b;have hg0:bO b.natAbs ns≠0:=mO (.inl (by omega))
 have hgle:bO b.natAbs ns<=b.natAbs:=Nat.le_of_dvd (by omega) (lD ns b.natAbs).2
 have hdiv:∀δo,∃δ',sIf (toB (M2 (aq 1) (mC (.int 0)) oLt)) (bw 2 (M2 (mC (.int 0)) (MC (ao (aq 2) (az)) (aO pL)) gO)) bH [some (.lst (ns.map .int)),some (.int b),some (.int c'),δo] μ=some (.nx,δ',μ)/\(0<=c'->δ'=[some (.lst (ns.map .int)),some (.int b),some (.int (sgn b*(bO b.natAbs ns:Nat))),δo]):=λδo=>by
  by_cases hn:b<0
  .refine⟨[some (.lst (ns.map .int)),some (.int b),some (.int (0-if c'<0 then -c' else c')),δo],by simp[sIf,toB,M2,aq,mC,oLt,hn,bw,MC,ao,az,aO,pL,gO],λhc0=>?_⟩
   have h1:sgn b= -1:=by unfold sgn;rw[if_neg (by omega)]
   rw[h1,if_neg (by omega)]
   have:c'=(bO b.natAbs ns:Nat):=by omega
   rw[this];simp
  .refine⟨[some (.lst (ns.map .int)),some (.int b),some (.int c'),δo],by simp[sIf,toB,M2,aq,mC,oLt,hn,bH],λhc0=>?_⟩
   have h1:sgn b=1:=by unfold sgn;rw[if_pos (by omega)]
   have:c'=(bO b.natAbs ns:Nat):=by omega
   rw[h1,this];simp
 obtain⟨δ',e3,e4⟩:=hdiv o';have e5:=e4 (hc0 (.inr hne));subst e5;have hd0:sgn b*((bO b.natAbs ns:Nat):Int)≠0:=by rcases hsg with h|h<;>rw[h]<;>omega
 have hds:Sm 4000 (sgn b*((bO b.natAbs ns:Nat):Int)):=Up hsg (by unfold Sm at *;simp only[Int.natAbs_natCast];omega)
 have eL:lcL ⟨ns.map D.int,none⟩ (aC 0) aW (M2 (aq 0) (aq 1) jy) (bW ["_law_number"] [some (.lst (ns.map .int)),some (.int b),some (.int (sgn b*(bO b.natAbs ns:Nat))),o'] [2]) (ns.map D.int) μ=some ((ns.map D.int).map (λd=>match d with| .int n=>.int (n.fdiv (sgn b*(bO b.natAbs ns:Nat)))|_=>.non),μ):=by
  refine rW _ λd hd=>?_;obtain⟨n,_,rfl⟩:=Zq.mp hd;have:=iC (x:=n) μ hd0 hds (by decide)
  exact⟨_,rfl,by simp[aC,bW,M2,aq,this]⟩
 rw[List.map_map]at eL;have eL2:lcL ⟨ns.map D.int,none⟩ (aC 0) aW (M2 (aq 0) (aq 1) jy) (bW ["_law_number"] [some (.lst (ns.map .int)),some (.int b),some (.int (sgn b*(bO b.natAbs ns:Nat))),o'] [2]) (ns.map D.int) μ=some (ns.map (λn=>D.int (n.fdiv (sgn b*(bO b.natAbs ns:Nat)))),μ):=eL;have eD:=iC (x:=b) μ hd0 hds (by decide)
 have hz:ns.length<=sizeLine:=Zl hl (by decide)
 have hz2:ns.length+1<=sizeLine:=Zl (by omega:ns.length+1<=100) (by decide)
 have h1s:1<=sizeLine:=by decide
 unfold aH gj;simp[aL,bw,aq,ik,cR,lQ,e,e3,bc,M2,MC,ao,az,mFz,lLC,hz,eL2,lK,dB,eD,bz,h1s,dm,hz2]
theorem bu{a b:Nat}{x:Int}(h:Sm a x)(hab:a<=b):Sm b x:=Zc h (Nat.pow_le_pow_right (by decide) hab)
theorem kI{a b:Nat}{x y:Int}(hx:Sm a x)(hy:Sm b y):Sm (a+b) (x*y):=by
 unfold Sm at *
 rw[Int.natAbs_mul,Nat.pow_add];exact Nat.mul_lt_mul'' hx hy
theorem Dy(hx:Sm a x)(hy:Sm a y):Sm (a+1) (x+y):=by
 unfold Sm at *
 rw[Nat.pow_succ];have:=Int.natAbs_add_le x y;omega
def Dr(x:Int):Prop:=0<=x/\x<2147483648
theorem nR:∀(L:List Int),gG (L.map D.int)=true
 | []=>by unfold gG;rfl
 |x::L=>by
  rw[Zj];unfold gG;rw[nR L];simp[dq]
theorem qt:∀(L:List Int),jV (L.map D.int)=0
 | []=>by unfold jV;rfl
 |x::L=>by
  rw[Zj];unfold jV;rw[qt L];simp[iQ]
theorem uF{ds:List D}{i:Int}(h0:0<=i)(h1:i<ds.length):∃d,d∈ds/\atI ds i=some d:=by
 have hi:i.toNat<ds.length:=by lia
 refine⟨ds[i.toNat],List.getElem_mem hi,?_⟩;unfold atI ixN;rw[if_pos h0,if_pos h1];simp[hi]
theorem bV{x m:Int}(hm:0<m):0<=x.fmod m/\x.fmod m<m:=⟨Int.fmod_nonneg_of_pos x hm,Int.fmod_lt_of_pos x hm⟩
def oO(φ:FF):Prop:=∀(x k:Int)(μ:Mu),0<=k->k<1000->∃r,φ [.int x,.int k] μ=some (.int r,μ)/\Dr r
theorem Ul:oO (aH 3 jW):=λx k μ h0 h1=>by
 obtain⟨a0,a1⟩:=bV (x:=x) (m:=2147483647) (by decide)
 have w1:=qp (x:=x) (y:=2147483647) μ (by decide)
 have sa:Sm 31 (x.fmod 2147483647):=by unfold Sm;have e:(2:Nat) ^ 31=2147483648:=by decide
                                       lia
 have m1:=cX (x:=x.fmod 2147483647) (y:=48271) μ sa (show Sm 16 48271 by unfold Sm;decide) (by decide)
 have sk:Sm 10 k:=by unfold Sm;have e:(2:Nat) ^ 10=1024:=by decide
                     lia
 have m2:=cX (x:=7919) (y:=k) μ (show Sm 13 7919 by unfold Sm;decide) sk (by decide)
 have m3:=cX (x:=7919*k) (y:=k) μ (kI (show Sm 13 7919 by unfold Sm;decide) sk) sk (by decide)
 have w2:=qp (x:=x.fmod 2147483647*48271+7919*k*k+104729) (y:=2147483647) μ (by decide)
 obtain⟨b0,b1⟩:=bV (x:=x.fmod 2147483647*48271+7919*k*k+104729) (m:=2147483647) (by decide)
 generalize hn:(x.fmod 2147483647*48271+7919*k*k+104729).fmod 2147483647=n at *
 have sn:Sm 31 n:=by unfold Sm;have e:(2:Nat) ^ 31=2147483648:=by decide
                     lia
 have m4:=cX (x:=n) (y:=n) μ sn sn (by decide)
 have w3:=qp (x:=n*n) (y:=2147483629) μ (by decide)
 obtain⟨c0,c1⟩:=bV (x:=n*n) (m:=2147483629) (by decide)
 refine⟨(n*n).fmod 2147483629,?_,c0,by lia⟩
 unfold aH jW;simp[aL,bw,M2,aq,mC,w1,m1,m2,m3,dm,w2,bc,m4,w3]
theorem zy(h1:δ[1]? =some (some (.cell 0)))(h2:fs δ [some (L.map .int)]=some ([.int y],[some (L.map .int)]))(hl:L.length<10000):
  gM (aq 1) fs δ [some (L.map .int)]=some (.non,[some ((L++[y]).map .int)]):=by
 have hz:L.length<sizeLine:=Zc hl (by decide)
 unfold gM;simp[aq,h1,h2,jc,hz]
theorem Yw(hφ:oO φ)(s:D)(k c:Int)(hk:0<=k/\k<100)(all:List D):∀(js:List Int),(∀j∈js,0<=j/\j<12)->∀(L:List Int)(o:Option D),(∀x∈L,Dr x)->L.length+js.length<10000->∃(L':List Int)(o':Option D),
  iT ⟨all,none⟩ (aC 4) (eY (gM (aq 1) (ao (MC (ao (MC (ao (aq 3) (ao (M2 (M2 (mC (.int 3)) (aq 4) di) (mC (.int 1)) dm) (az))) φ) (ao (M2 (M2 (aq 4) (aq 2) dm) (mC (.int 2)) dm) (az))) φ) (az)))) (js.map D.int)
   [some s,some (.cell 0),some (.int k),some (.int c),o] [some (L.map .int)]=some (.nx,[some s,some (.cell 0),some (.int k),some (.int c),o'],[some (L'.map .int)])/\(∀x∈L',Dr x)/\L'.length=L.length+js.length
 | [],_,L,o,hL,_=>⟨L,o,by unfold iT;simp[bZ],hL,rfl⟩
 |j::js,hj,L,o,hL,hlen=>by
  have hj0:=hj j (by simp)
  obtain⟨r1,e1,d1⟩:=hφ c (3*j+1) [some (L.map .int)] (by lia) (by lia)
  obtain⟨r2,e2,d2⟩:=hφ r1 (j+k+2) [some (L.map .int)] (by lia) (by lia)
  have m1:=cX (x:=3) (y:=j) [some (L.map D.int)] (show Sm 2 3 by unfold Sm;decide) (show Sm 4 j by unfold Sm;lia) (by decide)
  obtain⟨L',o',e,hd,hl⟩:=Yw hφ s k c hk all js (λx hx=>hj x (by simp[hx])) (L++[r2]) (some (.int j)) (λx hx=>by
   rcases Zm.mp hx with z|z
   .exact hL x z
   .simp at z;subst z;exact d2) (by simp at hlen ⊢;lia)
  refine⟨L',o',?_,hd,by rw[hl];simp;lia⟩
  rw[Zj];unfold iT;have ea:=zy (δ:=[some s,some (.cell 0),some (.int k),some (.int c),some (.int j)]) (L:=L) (y:=r2) (fs:=ao (MC (ao (MC (ao (aq 3) (ao (M2 (M2 (mC (.int 3)) (aq 4) di) (mC (.int 1)) dm) (az))) φ) (ao (M2 (M2 (aq 4) (aq 2) dm) (mC (.int 2)) dm) (az))) φ) (az)) rfl
   (by simp[ao,az,MC,M2,aq,mC,m1,dm,e1,e2]) (by simp at hlen;lia)
  simp only[List.map_append,Zj,List.map_nil]at ea e;simp[bZ,aC,eY,ea,e]
abbrev drC:TF:=pR (toB (M2 (aq 3) (M2 (mC (.int 10)) (mC (.int 18)) wG) oGe)) (toB (M2 (MC (ao (aq 1) (az)) (aO bU)) (mC (.int 900)) oLt))
abbrev drB:SF:=aL (eY (gM (aq 1) (ao (M2 (aq 3) (mC (.int 2147483629)) fU) (az)))) (bw 3 (M2 (aq 3) (mC (.int 2147483629)) jy))
theorem Ag(s k o:Option D):∀(n:Nat)(c:Int)(L:List Int),0<=c->(∀x∈L,Dr x)->900-L.length<=n->∃(c':Int)(L':List Int),
  iM drC drB (n+1) [s,some (.cell 0),k,some (.int c),o] [some (L.map .int)]=some (.nx,[s,some (.cell 0),k,some (.int c'),o],[some (L'.map .int)])/\0<=c'/\(∀x∈L',Dr x)/\L'.length<=max L.length 900
 |n,c,L,hc,hL,hn=>by
  have ep:wG (.int 10) (.int 18) [some (L.map D.int)]=some (.int 1000000000000000000,[some (L.map .int)]):=rfl;by_cases ht:(1000000000000000000:Int)<=c/\L.length<900
  .cases n with
   |zero=>lia
   |succ n=>
    obtain⟨m0,m1⟩:=bV (x:=c) (m:=2147483629) (by decide)
    have w1:=qp (x:=c) (y:=2147483629) [some (L.map D.int)] (by decide)
    have w2:=iC (x:=c) (y:=2147483629) [some ((L++[c.fmod 2147483629]).map D.int)] (by decide) (show Sm 31 2147483629 by unfold Sm;decide) (by decide)
    have q0:0<=c.fdiv 2147483629:=by rw[Int.fdiv_eq_ediv_of_nonneg c (by decide)];exact Int.ediv_nonneg hc (by decide)
    obtain⟨c',L',e,h1,h2,h3⟩:=Ag s k o n (c.fdiv 2147483629) (L++[c.fmod 2147483629]) q0 (λx hx=>by
     rcases Zm.mp hx with z|z
     .exact hL x z
     .simp at z;subst z;exact⟨m0,by lia⟩) (by simp;lia)
    refine⟨c',L',?_,h1,h2,by simp at h3;lia⟩
    unfold iM;have ea:=zy (δ:=[s,some (.cell 0),k,some (.int c),o]) (L:=L) (y:=c.fmod 2147483629) (fs:=ao (M2 (aq 3) (mC (.int 2147483629)) fU) (az)) rfl (by simp[ao,az,M2,aq,mC,w1]) (by lia)
    simp only[List.map_append,Zj,List.map_nil]at ea e w2;have hlen:((L.length:Nat):Int)<900:=by lia
    have ht1:=ht.1;simp[pR,toB,M2,aq,mC,ep,oGe,ht1,MC,ao,az,aO,bU,dB,oLt,hlen,aL,eY]at ea ⊢;simp[ea,bw,M2,aq,mC,w2,e]
  .refine⟨c,L,?_,hc,hL,by lia⟩
   unfold iM;by_cases h1:(1000000000000000000:Int)<=c
   .have h2:¬((L.length:Nat):Int)<900:=by lia
    simp[pR,toB,M2,aq,mC,ep,oGe,h1,MC,ao,az,aO,bU,dB,oLt,h2]
   .simp[pR,toB,M2,aq,mC,ep,oGe,h1]
theorem Ar(n:Nat):cW 0 n=((List.range n).map λ(k:Nat)=>(k:Int)).map D.int:=by
 unfold cW;rw[List.map_map];apply List.map_congr_left;intro k _;simp
abbrev xx(φ:FF):SF:=(aL (bw 3 (MC (ao (M2 (aq 0) (aq 2) oIx) (az)) (aO pL))) (aL (sIf (toB (M2 (aq 3) (M2 (mC (.int 10)) (mC (.int 18)) wG) oLt)) (ik (bY (ao (mC (.int 12)) (az))) (aC 4) (eY (gM (aq 1) (ao (MC (ao (MC (ao (aq 3) (ao (M2 (M2 (mC (.int 3)) (aq 4) di) (mC (.int 1)) dm) (az))) φ) (ao (M2 (M2 (aq 4) (aq 2) dm) (mC (.int 2)) dm) (az))) φ) (az))))) (bH)) (aL (oV drC drB) (sIf (toB (M2 (aq 3) (mC (.int 2147483629)) oGe)) (eY (gM (aq 1) (ao (M2 (aq 3) (mC (.int 2147483629)) fU) (az)))) (bH)))))
theorem RV{φ:FF}(hφ:oO φ)(ns:List Int)(k:Nat)(hk:k<ns.length)(hk2:k<100)(L:List Int)(o3 o4:Option D)(hL:∀x∈L,Dr x)(hlen:L.length<9000):∃(L':List Int)(o3' o4':Option D),
  xx φ [some (.ro (ns.map .int)),some (.cell 0),some (.int k),o3,o4] [some (L.map .int)]=some (.nx,[some (.ro (ns.map .int)),some (.cell 0),some (.int k),o3',o4'],[some (L'.map .int)])/\(∀x∈L',Dr x)/\L'.length<=max (L.length+12) 900+1:=by
 have hat:atI (ns.map D.int) (k:Int)=some (.int ns[k]):=Tf (by simp[hk])
 generalize hc:(if ns[k]<0 then -ns[k]else ns[k])=c;have hc0:0<=c:=by rw[<-hc];split<;>lia
 have ep:wG (.int 10) (.int 18) [some (L.map D.int)]=some (.int 1000000000000000000,[some (L.map .int)]):=rfl;obtain⟨L1,o1,e1,h1,l1⟩:∃(L1:List Int)(o1:Option D),sIf (toB (M2 (aq 3) (M2 (mC (.int 10)) (mC (.int 18)) wG) oLt)) (ik (bY (ao (mC (.int 12)) (az))) (aC 4) (eY (gM (aq 1) (ao (MC (ao (MC (ao (aq 3) (ao (M2 (M2 (mC (.int 3)) (aq 4) di) (mC (.int 1)) dm) (az))) φ) (ao (M2 (M2 (aq 4) (aq 2) dm) (mC (.int 2)) dm) (az))) φ) (az))))) (bH)
   [some (.ro (ns.map .int)),some (.cell 0),some (.int k),some (.int c),o4] [some (L.map .int)]=some (.nx,[some (.ro (ns.map .int)),some (.cell 0),some (.int k),some (.int c),o1],[some (L1.map .int)])/\(∀x∈L1,Dr x)/\L1.length<=L.length+12:=by
  by_cases hs:c<1000000000000000000
  .obtain⟨L1,o1,e,h,l⟩:=Yw hφ (.ro (ns.map .int)) k c (by lia) (cW 0 12) ((List.range 12).map λ(k:Nat)=>(k:Int)) (λj hj=>by simp at hj;lia) L o4 hL (by simp;lia)
   refine⟨L1,o1,?_,h,by rw[l];simp⟩
   rw[<-Ar]at e;simp[sIf,toB,M2,aq,mC,ep,oLt,hs,ik,bY,ao,az];exact e
  .exact⟨L,o4,by simp[sIf,toB,M2,aq,mC,ep,oLt,hs,bH],hL,by lia⟩
 obtain⟨c',L2,e2,hc',h2,l2⟩:=Ag (some (.ro (ns.map .int))) (some (.int k)) o1 _ c L1 hc0 h1 (Zg _);have ew:=tQ e2;have hab:pL (.int ns[k]) [some (L.map D.int)]=some (.int c,[some (L.map D.int)]):=by rw[<-hc];rfl
 by_cases hb:(2147483629:Int)<=c'
 .obtain⟨m0,m1⟩:=bV (x:=c') (m:=2147483629) (by decide)
  have w1:=qp (x:=c') (y:=2147483629) [some (L2.map D.int)] (by decide)
  have ea:=zy (δ:=[some (.ro (ns.map .int)),some (.cell 0),some (.int k),some (.int c'),o1]) (L:=L2) (y:=c'.fmod 2147483629) (fs:=ao (M2 (aq 3) (mC (.int 2147483629)) fU) (az)) rfl (by simp[ao,az,M2,aq,mC,w1]) (by lia)
  refine⟨L2++[c'.fmod 2147483629],some (.int c'),o1,?_,λx hx=>by
   rcases Zm.mp hx with z|z
   .exact h2 x z
   .simp at z;subst z;exact⟨m0,by lia⟩,by simp;lia⟩
  have e0:bw 3 (MC (ao (M2 (aq 0) (aq 2) oIx) (az)) (aO pL)) [some (.ro (ns.map .int)),some (.cell 0),some (.int k),o3,o4] [some (L.map .int)]=some (.nx,[some (.ro (ns.map .int)),some (.cell 0),some (.int k),some (.int c),o4],[some (L.map .int)]):=by
   simp[bw,MC,ao,az,M2,aq,oIx,dB,hat,aO,hab]
  have e3:sIf (toB (M2 (aq 3) (mC (.int 2147483629)) oGe)) (eY (gM (aq 1) (ao (M2 (aq 3) (mC (.int 2147483629)) fU) (az)))) (bH) [some (.ro (ns.map .int)),some (.cell 0),some (.int k),some (.int c'),o1] [some (L2.map .int)]=some (.nx,[some (.ro (ns.map .int)),some (.cell 0),some (.int k),some (.int c'),o1],[some ((L2++[c'.fmod 2147483629]).map .int)]):=by
   simp only[sIf,toB,M2,aq,mC,oGe,eY]at ea ⊢;simp[hb]at ea ⊢;simp[ea]
  unfold xx aL;rw[e0];simp only[ZK];rw[e1];simp only[ZK];rw[ew];simp only[ZK];exact e3
 .refine⟨L2,some (.int c'),o1,?_,h2,by lia⟩
  have e0:bw 3 (MC (ao (M2 (aq 0) (aq 2) oIx) (az)) (aO pL)) [some (.ro (ns.map .int)),some (.cell 0),some (.int k),o3,o4] [some (L.map .int)]=some (.nx,[some (.ro (ns.map .int)),some (.cell 0),some (.int k),some (.int c),o4],[some (L.map .int)]):=by
   simp[bw,MC,ao,az,M2,aq,oIx,dB,hat,aO,hab]
  have e3:sIf (toB (M2 (aq 3) (mC (.int 2147483629)) oGe)) (eY (gM (aq 1) (ao (M2 (aq 3) (mC (.int 2147483629)) fU) (az)))) (bH) [some (.ro (ns.map .int)),some (.cell 0),some (.int k),some (.int c'),o1] [some (L2.map .int)]=some (.nx,[some (.ro (ns.map .int)),some (.cell 0),some (.int k),some (.int c'),o1],[some (L2.map .int)]):=by
   simp[sIf,toB,M2,aq,mC,oGe,hb,bH]
  unfold xx aL;rw[e0];simp only[ZK];rw[e1];simp only[ZK];rw[ew];simp only[ZK];exact e3
theorem Ft(hφ:oO φ)(ns:List Int)(all:List D):∀(ks:List Nat),(∀k∈ks,k<ns.length/\k<100)->∀(L:List Int)(o2 o3 o4:Option D),(∀x∈L,Dr x)->max L.length 900+13*ks.length<=5000->∃(L':List Int)(o2' o3' o4':Option D),
  iT ⟨all,none⟩ (aC 2) (xx φ) ((ks.map λ(k:Nat)=>(k:Int)).map D.int) [some (.ro (ns.map .int)),some (.cell 0),o2,o3,o4] [some (L.map .int)]=some (.nx,[some (.ro (ns.map .int)),some (.cell 0),o2',o3',o4'],[some (L'.map .int)])/\(∀x∈L',Dr x)
 | [],_,L,o2,o3,o4,hL,_=>⟨L,o2,o3,o4,by simp only[List.map_nil];unfold iT;simp[bZ],hL⟩
 |k::ks,hk,L,o2,o3,o4,hL,hlen=>by
  have hk0:=hk k (by simp)
  simp only[ZH]at hlen;obtain⟨L1,a3,a4,e1,h1,l1⟩:=RV hφ ns k hk0.1 hk0.2 L o3 o4 hL (by lia)
  obtain⟨L',b2,b3,b4,e,h⟩:=Ft hφ ns all ks (λx hx=>hk x (by simp[hx])) L1 (some (.int k)) a3 a4 h1 (by lia)
  refine⟨L',b2,b3,b4,?_,h⟩;rw[Zj,Zj];unfold iT;simp only[aC,List.set_cons_succ,List.set_cons_zero,ZK];rw[if_pos (bZ _ _),e1];exact e
def yw(φ:FF):Prop:=∀(ns:List Int),ns.length<=63->∃L:List Int,φ [.ro (ns.map .int)] []=some (.cell 0,[some (L.map .int)])/\∀x∈L,Dr x
theorem Ji(hφ:oO φ):yw (aH 5 (qb φ)):=λns hn=>by
 obtain⟨L,o2,o3,o4,e,h⟩:=Ft hφ ns (cW 0 ns.length) (List.range ns.length) (λk hk=>by simp at hk;lia) [] none none none (λx hx=>by simp at hx) (by simp;lia)
 refine⟨L,?_,h⟩;rw[<-Ar]at e;have hmin:(if(63:Int)<(ns.length:Int)then(63:Int)else(ns.length:Int))=(ns.length:Int):=by rw[if_neg (by lia)]
 have hr:(-(2 ^ 62)<=(ns.length:Int)/\(ns.length:Int)<2 ^ 62):=by lia
 have hz:0<=sizeLine:=Nat.zero_le _;have eS:∀δ:En,δ[0]? =some (some (.ro (ns.map .int)))->∀μ,bY (ao (MC (ao (MC (ao (aq 0) (az)) (aO bU)) (ao (mC (.int 63)) (az))) (qd uQ)) (az)) δ μ=some (⟨cW 0 ns.length,none⟩,μ):=λδ h0 μ=>by
  simp only[bY,ao,MC,aq,h0,az,aO,bU,dB,mC,qd,uQ,ZK,Option.map_some,Zu];rw[hmin];rw[if_pos hr];simp
 have e0:bw 1 (pD (qx az)) [some (.ro (ns.map .int)),none,none,none,none] []=some (.nx,[some (.ro (ns.map .int)),some (.cell 0),none,none,none],[some []]):=by
  simp[bw,pD,qx,az]
 have e1:ik (bY (ao (MC (ao (MC (ao (aq 0) (az)) (aO bU)) (ao (mC (.int 63)) (az))) (qd uQ)) (az))) (aC 2) (xx φ) [some (.ro (ns.map .int)),some (.cell 0),none,none,none] [some []]=some (.nx,[some (.ro (ns.map .int)),some (.cell 0),o2,o3,o4],[some (L.map .int)]):=by
  unfold ik;rw[eS _ rfl];exact e
 show(aL (bw 1 (pD (qx az))) (aL (ik (bY (ao (MC (ao (MC (ao (aq 0) (az)) (aO bU)) (ao (mC (.int 63)) (az))) (qd uQ)) (az))) (aC 2) (xx φ)) (bc (aq 1))) [some (.ro (ns.map .int)),none,none,none,none] []).bind _=_;unfold aL;rw[e0];simp only[ZK];rw[e1];simp[bc,aq]
theorem oA:∀(ns:List Int)(g d:Nat),d ∣ bO g ns↔d ∣ g/\∀n∈ns,d ∣ n.natAbs
 | [],g,d=>by simp[bO]
 |n::ns,g,d=>by
  have e:bO g (n::ns)=bO (Int.gcd g n) ns:=rfl;rw[e,oA ns (Int.gcd g n) d];have h:d ∣ Int.gcd g n↔d ∣ g/\d ∣ n.natAbs:=by
   show d ∣ Nat.gcd (Int.natAbs g) (Int.natAbs n)↔_;rw[Nat.dvd_gcd_iff];simp
  rw[h];simp only[Zi,forall_eq_or_imp]
  constructor
  .rintro⟨⟨h1,h2⟩,h3⟩;exact⟨h1,h2,h3⟩
  .rintro⟨h1,h2,h3⟩;exact⟨⟨h1,h2⟩,h3⟩
theorem Qp(hs:s=1∨s= -1):bO 0 ((ns++[b]).map (s * ·))=bO b.natAbs ns:=by
 have hab:∀n:Int,(s*n).natAbs=n.natAbs:=λn=>by rw[Int.natAbs_mul];rcases hs with h|h<;>rw[h]<;>simp
 apply Nat.dvd_antisymm
 .have h:=(oA ((ns++[b]).map (s * ·)) 0 _).mp (Nat.dvd_refl _);refine(oA ns b.natAbs _).mpr ⟨?_,λn hn=>?_⟩
  .have:=h.2 (s*b) (Zq.mpr ⟨b,by simp,rfl⟩)
   rwa[hab]at this
  .have:=h.2 (s*n) (Zq.mpr ⟨n,by simp[hn],rfl⟩)
   rwa[hab]at this
 .have h:=(oA ns b.natAbs _).mp (Nat.dvd_refl _);refine(oA _ 0 _).mpr ⟨Nat.dvd_zero _,λm hm=>?_⟩;obtain⟨n,hn,rfl⟩:=Zq.mp hm;rw[hab]
  rcases Zm.mp hn with z|z
  .exact h.2 n z
  .simp at z;subst z;exact h.1
theorem uU(f:Int):∀(ns:List Int)(g:Nat),bO (f.natAbs*g) (ns.map (f * ·))=f.natAbs*bO g ns
 | [],g=>rfl
 |n::ns,g=>by
  show bO (Int.gcd ((f.natAbs*g:Nat):Int) (f*n)) (ns.map (f * ·))=f.natAbs*bO (Int.gcd g n) ns;have:Int.gcd ((f.natAbs*g:Nat):Int) (f*n)=f.natAbs*Int.gcd g n:=by
   show Nat.gcd (Int.natAbs ((f.natAbs*g:Nat):Int)) (Int.natAbs (f*n))=_;rw[Int.natAbs_natCast,Int.natAbs_mul,Nat.gcd_mul_left];rfl
  rw[this,uU f ns]
end LG
namespace L3
open PySem PySem.Spec PyProof.Rows L2
class Post (α:Type) where
 run:α->Prop
@[simp] theorem vz{α:Type}{f:α->Prop}{r:α}:@Post.run α ⟨f⟩ r=f r:=rfl
def OkI{α:Type}(o:Option α)[Q:Post α]:Prop:=∃r,o=some r/\Q.run r
abbrev Ok{α:Type}(o:Option α)(Q:α->Prop):Prop:=@OkI α o ⟨Q⟩
section
variable {α β:Type} {Q:Post α}
@[simp] theorem uD{r:α}:OkI (some r) (Q:=Q)=Q.run r:=by
 apply propext;exact⟨λ⟨q,e,h⟩=>by cases e;exact h,λh=>⟨r,rfl,h⟩⟩
@[simp] theorem aai:OkI (none:Option α) (Q:=Q)=False:=by
 apply propext;exact⟨λ⟨q,e,h⟩=>(by cases e),λh=>h.elim⟩
@[simp] theorem jf{o:Option β}{k:β->Option α}:OkI (o.bind k) (Q:=Q)=OkI o (Q:=⟨λr=>OkI (k r) (Q:=Q)⟩):=by
 apply propext
 constructor
 .rintro⟨q,e,h⟩;obtain⟨r,e1,e2⟩:=Zbs e;exact⟨r,e1,q,e2,h⟩
 .rintro⟨r,e1,q,e2,h⟩;exact⟨q,by rw[e1];exact e2,h⟩
@[simp] theorem aaE{o:Option β}{k:β->α}:OkI (o.map k) (Q:=Q)=OkI o (Q:=⟨λr=>Q.run (k r)⟩):=by
 apply propext
 constructor
 .rintro⟨q,e,h⟩;obtain⟨r,e1,e2⟩:=Zp.mp e;exact⟨r,e1,by subst e2;exact h⟩
 .rintro⟨r,e1,h⟩;exact⟨_,by rw[e1];rfl,h⟩
theorem OkI.mono(h:OkI o (Q:=Q))(k:∀r,Q.run r->Q'.run r):OkI o (Q:=Q'):=let⟨r,e,q⟩:=h;⟨r,e,k r q⟩
end
class Two where
 t:Prop
 f:Prop
def wL(b:Bool)[T:Two]:Prop:=if b=true then T.t else T.f
@[simp] theorem Xc{P R:Prop}:wL true (T:=⟨P,R⟩)=P:=rfl
@[simp] theorem Vj{P R:Prop}:wL false (T:=⟨P,R⟩)=R:=rfl
def asB(r:D×Mu):Option (Bool×Mu):=match r.1 with
 | .bl k=>some (k,r.2)
 |_=>none
@[simp] theorem aaX{k:Bool}{μ:Mu}:asB (.bl k,μ)=some (k,μ):=rfl
def Ti(r:List D×Mu):Option (Src×Mu):=match r.1 with
 | [.int j]=>if -(2 ^ 62)<=j/\j<2 ^ 62 then some (⟨cW 0 j.toNat,none⟩,r.2)else none
 |_=>none
theorem tG(h0: -(2 ^ 62)<=j)(h1:j<2 ^ 62):Ti ([.int j],μ)=some (⟨cW 0 j.toNat,none⟩,μ):=if_pos ⟨h0,h1⟩
def YC(r:List D×Mu):Option (Src×Mu):=match r.1 with
 | [x,y]=>(fJ x).bind λxs=>(fJ y).map λys=>(⟨jZ xs ys,none⟩,r.2)
 |_=>none
@[simp] theorem aaa{x y:D}{μ:Mu}:YC ([x,y],μ)=(fJ x).bind λxs=>(fJ y).map λys=>(⟨jZ xs ys,none⟩,μ):=rfl
@[simp] theorem aat{ds:List D}:fJ (.tup ds)=some ds:=rfl
@[simp] theorem aar{ds:List D}:fJ (.lst ds)=some ds:=rfl
def Xx(th:D->gH)(r:Src×Mu):Option (List gH×Mu):=match r.1.cel with
 |none=>some (r.1.items.map th,r.2)
 |some _=>none
@[simp] theorem Xi{th:D->gH}{items:List D}{μ:Mu}:Xx th (⟨items,none⟩,μ)=some (items.map th,μ):=rfl
def Vx(r:D×Mu):Option (List gH×Mu):=match r.1 with
 | .tup ds=>some (ds.map thE,r.2)
 | .lst ds=>some (ds.map thE,r.2)
 |_=>none
@[simp] theorem aaf{ds:List D}{μ:Mu}:Vx (.tup ds,μ)=some (ds.map thE,μ):=rfl
@[simp] theorem Xo{ds:List D}{μ:Mu}:Vx (.lst ds,μ)=some (ds.map thE,μ):=rfl
def Yy(r:D×Mu):Option (D×Mu):=match r.1 with
 | .cell n=>(r.2.getD n none).map λds=>(.lst ds,r.2.set n none)
 |d=>some (d,r.2)
@[simp] theorem Xg{n:Nat}{μ:Mu}:Yy (.cell n,μ)=(μ.getD n none).map λds=>(.lst ds,μ.set n none):=rfl
section
variable {Q:Post (D×Mu)} {QT:Post (Bool×Mu)} {QS:Post (Fl×En×Mu)} {δ:En} {μ:Mu} {f fa fb fc:EF} {fs:AF} {t ta tc:TF} {g h:SF} {op op':O2}
@[simp] theorem zf{d:D}:aq 0 (some d::δ) μ=some (d,μ):=rfl
@[simp] theorem zc{i:Nat}{o:Option D}:aq (i+1) (o::δ) μ=aq i δ μ:=rfl
@[simp] theorem w_c{d:D}:mC d δ μ=some (d,μ):=rfl
@[simp] theorem w_m1{op:O1'}:M1 fa op δ μ=(fa δ μ).bind λr=>op r.1 r.2:=rfl
@[simp] theorem YT:M2 fa fb op δ μ=(fa δ μ).bind λr=>(fb δ r.2).bind λq=>op r.1 q.1 q.2:=rfl
@[simp] theorem MK:az δ μ=some ([],μ):=rfl
@[simp] theorem Di:ao f fs δ μ=(f δ μ).bind λr=>(fs δ r.2).bind λq=>some (r.1::q.1,q.2):=rfl
@[simp] theorem Yi{op:ON}:MC fs op δ μ=(fs δ μ).bind λr=>op r.1 r.2:=rfl
@[simp] theorem aaF:gB f δ μ=(f δ μ).bind λr=>(zO r.1 r.2).map λk=>(k,r.2):=rfl
@[simp] theorem w_toB:toB f δ μ=(f δ μ).bind asB:=rfl
@[simp] theorem w_ch:OkI (MCh fa fb fc op op' δ μ) (Q:=Q)=OkI (fa δ μ) (Q:=⟨λr=>OkI (fb δ r.2) (Q:=⟨λq=>OkI ((op r.1 q.1 q.2).bind asB) (Q:=⟨λz=>wL z.1 (T:=⟨OkI ((fc δ z.2).bind λt=>op' q.1 t.1 t.2) (Q:=Q),Q.run (.bl false,z.2)⟩)⟩)⟩)⟩):=by
 unfold MCh;rw[jf];congr 2;funext r;rw[jf];congr 2;funext q;rw[jf,jf];congr 2;funext z;obtain⟨d,μ'⟩:=z;cases d<;>simp[asB];rename_i b;cases b<;>simp
@[simp] theorem w_and:OkI (pR ta tc δ μ) (Q:=QT)=OkI (ta δ μ) (Q:=⟨λr=>wL r.1 (T:=⟨OkI (tc δ r.2) (Q:=QT),QT.run (false,r.2)⟩)⟩):=by
 unfold pR;rw[jf];congr 2;funext r;unfold wL;split<;>simp[*]
@[simp] theorem w_or:OkI (gf ta tc δ μ) (Q:=QT)=OkI (ta δ μ) (Q:=⟨λr=>wL r.1 (T:=⟨QT.run (true,r.2),OkI (tc δ r.2) (Q:=QT)⟩)⟩):=by
 unfold gf;rw[jf];congr 2;funext r;unfold wL;split<;>simp[*]
@[simp] theorem w_not:cO ta δ μ=(ta δ μ).bind λr=>some (!r.1,r.2):=rfl
@[simp] theorem aaG:OkI (lE fa fb δ μ) (Q:=Q)=OkI ((fa δ μ).bind asB) (Q:=⟨λk=>wL k.1 (T:=⟨OkI (fb δ k.2) (Q:=Q),Q.run (.bl false,k.2)⟩)⟩):=by
 unfold lE;rw[jf,jf];congr 2;funext r;obtain⟨d,μ'⟩:=r;cases d<;>simp[asB];rename_i b;cases b<;>simp
@[simp] theorem aaR:qw fa δ μ=((fa δ μ).bind asB).bind λr=>some (.bl !r.1,r.2):=by
 unfold qw;cases fa δ μ with
 |none=>rfl
 |some r=>obtain⟨d,μ'⟩:=r;cases d<;>rfl
@[simp] theorem w_next:bH δ μ=some (.nx,δ,μ):=rfl
@[simp] theorem aan:uO δ μ=some (.bk,δ,μ):=rfl
@[simp] theorem w_ret:bc f δ μ=(f δ μ).bind λr=>some (.rt r.1,δ,r.2):=rfl
@[simp] theorem aaN:eY f δ μ=(f δ μ).bind λr=>some (.nx,δ,r.2):=rfl
@[simp] theorem Lw{i:Nat}:bw i f δ μ=(f δ μ).bind λr=>some (.nx,δ.set i (some r.1),r.2):=rfl
@[simp] theorem w_if:OkI (sIf t g h δ μ) (Q:=QS)=OkI (t δ μ) (Q:=⟨λr=>wL r.1 (T:=⟨OkI (g δ r.2) (Q:=QS),OkI (h δ r.2) (Q:=QS)⟩)⟩):=by
 unfold sIf;rw[jf];congr 2;funext r;unfold wL;split<;>simp[*]
def xJ(h:SF)(QS:Post (Fl×En×Mu))(r:Fl×En×Mu):Prop:=match r.1 with
 | .nx=>OkI (h r.2.1 r.2.2) (Q:=QS)
 |_=>QS.run r
@[simp] theorem Mz:OkI (aL g h δ μ) (Q:=QS)=OkI (g δ μ) (Q:=⟨xJ h QS⟩):=by
 unfold aL;rw[jf];congr 2
 funext r
 obtain⟨fl,δ',μ'⟩:=r;cases fl<;>simp[xJ]
@[simp] theorem zB{δ':En}{μ':Mu}:xJ h QS (.nx,δ',μ')=OkI (h δ' μ') (Q:=QS):=rfl
@[simp] theorem aaB{d:D}{δ':En}{μ':Mu}:xJ h QS (.rt d,δ',μ')=QS.run (.rt d,δ',μ'):=rfl
@[simp] theorem aah{δ':En}{μ':Mu}:xJ h QS (.bk,δ',μ')=QS.run (.bk,δ',μ'):=rfl
@[simp] theorem aaw{δ':En}{μ':Mu}:xJ h QS (.ct,δ',μ')=QS.run (.ct,δ',μ'):=rfl
@[simp] theorem w_asg{hh:GF}:ul f hh δ μ=(f δ μ).bind λr=>(hh r.1 δ r.2).bind λδ'=>some (.nx,δ',r.2):=rfl
@[simp] theorem w_par{i j:Nat}:zr i j fs δ μ=(fs δ μ).bind λr=>match r.1 with
 | [x,y]=>some (.nx,(δ.set i (some x)).set j (some y),r.2)
 |_=>none:=rfl
@[simp] theorem aaW{i j k:Nat}:Aj i j k fs δ μ=(fs δ μ).bind λr=>match r.1 with
 | [x,y,z]=>some (.nx,((δ.set i (some x)).set j (some y)).set k (some z),r.2)
 |_=>none:=rfl
@[simp] theorem Ln{fi:IF}{hh:GF}:ik fi hh g δ μ=(fi δ μ).bind λr=>iT r.1 hh g r.1.items δ r.2:=rfl
@[simp] theorem w_fz{lf:LF}:mFz lf δ μ=(lf δ μ).bind λr=>some (.lst r.1,r.2):=rfl
@[simp] theorem Xu{lf:LF}:pD lf δ μ=(lf δ μ).bind λr=>some (.cell r.2.length,r.2++[some r.1]):=rfl
@[simp] theorem aaS:qx fs δ μ=(fs δ μ).bind λr=>if r.1.length<=sizeLine then some r else none:=rfl
@[simp] theorem Vg{i:Nat}{d:D}:aC i d δ μ=some (δ.set i (some d)):=rfl
@[simp] theorem YS{n:Nat}{hs:GsF}{ds:List D}:eQ n hs (.tup ds) δ μ=if ds.length=n then hs ds δ μ else none:=rfl
@[simp] theorem Ug:eO [] δ μ=some δ:=rfl
@[simp] theorem PN{hh:GF}{hs:GsF}{d:D}{ds:List D}:aN hh hs (d::ds) δ μ=(hh d δ μ).bind λδ1=>hs ds δ1 μ:=rfl
@[simp] theorem Ng:cR f δ μ=(f δ μ).bind λr=>(lQ r.1 r.2).map λS=>(S,r.2):=rfl
@[simp] theorem Hh{ds:List D}:lQ (.tup ds) μ=some ⟨ds,none⟩:=rfl
@[simp] theorem aaq{ds:List D}:lQ (.lst ds) μ=some ⟨ds,none⟩:=rfl
@[simp] theorem aal{fl fh:PF}:mSl f fl fh δ μ=(f δ μ).bind λr=>(fl δ r.2).bind λl=>(fh δ l.2).bind λu=>oSl r.1 l.1 u.1 u.2:=rfl
@[simp] theorem aaM:Jw fa fb δ μ=(fa δ μ).bind λr=>(fb δ r.2).bind λq=>(vQ r.1 q.2).bind λxs=>(vQ q.1 q.2).bind λys=>if xs.length+ys.length<=sizeLine then some (xs++ys,q.2)else none:=rfl
@[simp] theorem Xh{ds:List D}:vQ (.lst ds) μ=some ds:=rfl
@[simp] theorem w_fno:fNo δ μ=some (none,μ):=rfl
@[simp] theorem w_fat:fAt f δ μ=(f δ μ).bind λr=>match r.1 with
 | .int i=>some (some i,r.2)
 |_=>none:=rfl
@[simp] theorem Tu{op:O1'}{x:D}:aO op [x] μ=op x μ:=rfl
@[simp] theorem w_two{x y:D}:qd op [x,y] μ=op x y μ:=rfl
variable {i j:Int} {ds es:List D} {k:Bool}
@[simp] theorem Xy:dm (.int i) (.int j) μ=some (.int (i+j),μ):=rfl
@[simp] theorem aaQ:dm (.tup ds) (.tup es) μ=if ds.length+es.length<=sizeLine then some (.tup (ds++es),μ)else none:=rfl
@[simp] theorem aaU:dm (.lst ds) (.lst es) μ=if ds.length+es.length<=sizeLine then some (.lst (ds++es),μ)else none:=rfl
@[simp] theorem a_sub:gO (.int i) (.int j) μ=some (.int (i-j),μ):=rfl
theorem aae(h:lX i j<=134217728):di (.int i) (.int j) μ=some (.int (i*j),μ):=if_pos h
@[simp] theorem a_mod(h:j≠0):fU (.int i) (.int j) μ=some (.int (i.fmod j),μ):=if_pos h
theorem vh(h:j≠0)(h2:j.natAbs.log2<9000):jy (.int i) (.int j) μ=some (.int (i.fdiv j),μ):=if_pos ⟨h,h2⟩
@[simp] theorem a_lt:oLt (.int i) (.int j) μ=some (.bl (decide (i<j)),μ):=rfl
@[simp] theorem a_le:oLe (.int i) (.int j) μ=some (.bl (decide (i<=j)),μ):=rfl
@[simp] theorem a_gt:oGt (.int i) (.int j) μ=some (.bl (decide (j<i)),μ):=rfl
@[simp] theorem a_ge:oGe (.int i) (.int j) μ=some (.bl (decide (j<=i)),μ):=rfl
@[simp] theorem a_neg:iy (.int i) μ=some (.int (-i),μ):=rfl
@[simp] theorem a_abs:pL (.int i) μ=some (.int (i.natAbs),μ):=by
 show some (D.int (if i<0 then -i else i),μ)=_;congr 3
 split<;>omega
@[simp] theorem a_min:uQ (.int i) (.int j) μ=some (.int (min i j),μ):=by
 show some (D.int (if j<i then j else i),μ)=_;congr 3
 split<;>lia
@[simp] theorem a_max:JR (.int i) (.int j) μ=some (.int (max i j),μ):=by
 show some (D.int (if j>i then j else i),μ)=_;congr 3
 split<;>lia
@[simp] theorem a_eq:oEq (.int i) (.int j) μ=some (.bl (i==j),μ):=by unfold oEq rsv;simp[dq,iQ,eqD]
@[simp] theorem a_ne:oNe (.int i) (.int j) μ=some (.bl (!(i==j)),μ):=by unfold oNe rsv;simp[dq,iQ,eqD]
@[simp] theorem a_eqU:Ci (.tup ds) (.tup []) μ=some (.bl ds.isEmpty,μ):=rfl
@[simp] theorem a_neE:vH (.lst ds) (.lst []) μ=some (.bl (!ds.isEmpty),μ):=rfl
@[simp] theorem a_eqB{k l:Bool}:oEq (.bl k) (.bl l) μ=some (.bl (k==l),μ):=by unfold oEq rsv;simp[dq,iQ,eqD]
@[simp] theorem a_neB{k l:Bool}:oNe (.bl k) (.bl l) μ=some (.bl (!(k==l)),μ):=by unfold oNe rsv;simp[dq,iQ,eqD]
@[simp] theorem a_tup:bz ds μ=if ds.length<=sizeLine then some (.tup ds,μ)else none:=rfl
@[simp] theorem a_lst:gU ds μ=if ds.length<=sizeLine then some (.lst ds,μ)else none:=rfl
@[simp] theorem wJ{d:D}:oIx d (.int i) μ=(dB d μ).bind λds=>(atI ds i).map λd=>(d,μ):=rfl
@[simp] theorem i_tup:dB (.tup ds) μ=some ds:=rfl
@[simp] theorem i_lst:dB (.lst ds) μ=some ds:=rfl
@[simp] theorem i_ro:dB (.ro ds) μ=some ds:=rfl
@[simp] theorem aaT:bU (.tup ds) μ=some (.int ds.length,μ):=rfl
@[simp] theorem aaO:bU (.lst ds) μ=some (.int ds.length,μ):=rfl
@[simp] theorem aaD:bU (.ro ds) μ=some (.int ds.length,μ):=rfl
@[simp] theorem aau{d:D}:lK [d] μ=(dB d μ).map λds=>(.tup ds,μ):=rfl
@[simp] theorem t_bl:zO (.bl k) μ=some k:=rfl
@[simp] theorem t_int:zO (.int i) μ=some (i != 0):=rfl
@[simp] theorem t_tup:zO (.tup ds) μ=some !ds.isEmpty:=rfl
@[simp] theorem t_lst:zO (.lst ds) μ=some !ds.isEmpty:=rfl
@[simp] theorem t_non:zO .non μ=some false:=rfl
@[simp] theorem aas{T:String}:gF T (.int i) μ=some (.bl (T=="int"),μ):=rfl
@[simp] theorem aaZ{T:String}:gF T (.bl k) μ=some (.bl (T=="bool"||T=="int"),μ):=rfl
@[simp] theorem aaC{T:String}:gF T (.tup ds) μ=some (.bl (T=="tuple"),μ):=rfl
@[simp] theorem aay{T:String}:gF T (.lst ds) μ=some (.bl (T=="list"),μ):=rfl
@[simp] theorem aaj{T:String}{x:Str}:gF T (.str x) μ=some (.bl (T=="str"),μ):=rfl
@[simp] theorem aaA{T:String}:gF T .non μ=some (.bl false,μ):=rfl
@[simp] theorem aaz{T:String}{x}:gF T (.dic x) μ=some (.bl (T=="dict"),μ):=rfl
@[simp] theorem UL:bY fs δ μ=(fs δ μ).bind Ti:=rfl
@[simp] theorem w_zip:lR fs δ μ=(fs δ μ).bind YC:=rfl
@[simp] theorem w_lc{own:List Str}{capI:List Nat}{fi:IF}{hh:GF}:lLC own capI fi hh t f δ μ=(fi δ μ).bind λr=>if r.1.items.length<=sizeLine then lcL r.1 hh t f (bW own δ capI) r.1.items r.2 else none:=rfl
@[simp] theorem w_all{st:StF}:qu st δ μ=(st δ μ).bind λr=>(vM r.1 r.2).bind λq=>some (.bl q.1,q.2):=rfl
@[simp] theorem w_any{st:StF}:Dl st δ μ=(st δ μ).bind λr=>(rC r.1 r.2).bind λq=>some (.bl q.1,q.2):=rfl
@[simp] theorem aaK{st:StF}:Av st δ μ=(st δ μ).bind λr=>if r.1.length<=sizeLine then(Bu r.1 r.2).bind λq=>some (.tup q.1,q.2)else none:=rfl
@[simp] theorem w_sum{st:StF}:pN st δ μ=(st δ μ).bind λr=>(sX 0 r.1 r.2).bind λq=>some (.int q.1,q.2):=rfl
@[simp] theorem w_gen{own:List Str}{capI:List Nat}{fi:IF}{hh:GF}:ou own capI fi hh f δ μ=(fi δ μ).bind λr=>Xx (thG hh f (bW own δ capI)) r:=rfl
@[simp] theorem aaH:gZ f δ μ=(f δ μ).bind Vx:=rfl
@[simp] theorem w_put{fo fi:EF}:Be f fo fi δ μ=(f δ μ).bind λr=>(fo δ r.2).bind λo=>(fi δ o.2).bind λi=>(Hj r.1 o.1 i.1 i.2).map λμ'=>(.nx,δ,μ'):=rfl
@[simp] theorem aaP{x:D}:Ik 0 f op (some x::δ) μ=(f (some x::δ) μ).bind λr=>(op x r.1 r.2).map λz=>(.nx,(some x::δ).set 0 (some z.1),z.2):=rfl
@[simp] theorem aaY:XR (.int i) (.int j) μ=some (.int (i+j),μ):=rfl
theorem Ui(h:lX i j<=134217728):Gk (.int i) (.int j) μ=some (.int (i*j),μ):=if_pos h
@[simp] theorem aaI:Gs δ μ=some (.dic [],μ):=rfl
@[simp] theorem w_frz:tM f δ μ=(f δ μ).bind Yy:=rfl
end
theorem uc:Src.ok ⟨items,none⟩ μ:=λn e=>by cases e
def Ba(I:En->Mu->Prop)(QS:Post (Fl×En×Mu))(r:Fl×En×Mu):Prop:=match r.1 with
 | .nx=>I r.2.1 r.2.2
 | .ct=>I r.2.1 r.2.2
 | .bk=>QS.run (.nx,r.2)
 | .rt d=>QS.run (.rt d,r.2)
section
variable {I:En->Mu->Prop} {QS:Post (Fl×En×Mu)} {δ:En} {μ:Mu}
@[simp] theorem Pz:Ba I QS (.nx,δ,μ)=I δ μ:=rfl
@[simp] theorem aao:Ba I QS (.ct,δ,μ)=I δ μ:=rfl
@[simp] theorem aap:Ba I QS (.bk,δ,μ)=QS.run (.nx,δ,μ):=rfl
@[simp] theorem aag{d:D}:Ba I QS (.rt d,δ,μ)=QS.run (.rt d,δ,μ):=rfl
end
theorem gP{all:List D}{h:GF}{b:SF}{QS:Post (Fl×En×Mu)}(I:List D->En->Mu->Prop)
  (turn:∀d r δ μ,I (d::r) δ μ->OkI (h d δ μ) (Q:=⟨λδ1=>OkI (b δ1 μ) (Q:=⟨Ba (I r) QS⟩)⟩)) (fin:∀δ μ,I [] δ μ->QS.run (.nx,δ,μ)):
  ∀(its:List D)(δ:En)(μ:Mu),I its δ μ->OkI (iT ⟨all,none⟩ h b its δ μ) (Q:=QS)
 | [],δ,μ,hI=>by unfold iT;rw[if_pos uc,uD];exact fin δ μ hI
 |d::r,δ,μ,hI=>by
  unfold iT;rw[if_pos uc,jf];refine(turn d r δ μ hI).mono λδ1 h1=>?_;rw[vz]at h1 ⊢;rw[jf];refine h1.mono λq h2=>?_;rw[vz]at h2 ⊢;obtain⟨fl,δ',μ'⟩:=q;cases fl with
  |nx=>exact gP (all:=all) I turn fin r δ' μ' h2
  |ct=>exact gP (all:=all) I turn fin r δ' μ' h2
  |bk=>exact⟨_,rfl,h2⟩
  |rt d=>exact⟨_,rfl,h2⟩
def retS(R:Post (D×Mu))(r:Fl×En×Mu):Prop:=match r.1 with
 | .rt d=>R.run (d,r.2.2)
 | .nx=>R.run (.non,r.2.2)
 |_=>False
@[simp] theorem aaJ{R:Post (D×Mu)}{d:D}{δ:En}{μ:Mu}:retS R (.rt d,δ,μ)=R.run (d,μ):=rfl
@[simp] theorem aaL{R:Post (D×Mu)}{δ:En}{μ:Mu}:retS R (.nx,δ,μ)=R.run (.non,μ):=rfl
theorem pQ{m:Nat}{g:SF}{ds:List D}{μ:Mu}{R:Post (D×Mu)}(h:OkI (g (ds.map some++List.replicate (m-ds.length) none) μ) (Q:=⟨retS R⟩)):OkI (aH m g ds μ) (Q:=R):=by
 unfold aH;rw[jf];refine h.mono λr hr=>?_;obtain⟨fl,δ,μ'⟩:=r;cases fl with
 |rt d=>exact⟨_,rfl,hr⟩
 |nx=>exact⟨_,rfl,hr⟩
 |bk=>exact hr.elim
 |ct=>exact hr.elim
end L3
namespace LG
open PySem PySem.Spec PyProof.Rows L2 L3
theorem yg{α:Type}{o:Option α}{x:α}(h:Ok o (λr=>r=x)):o=some x:=by
 obtain⟨r,e,h⟩:=h;have h:r=x:=h;rw[e,h]
theorem bK{m:Nat}{g:SF}{ds:List D}{μ:Mu}{d:D}(h:OkI (g (ds.map some++List.replicate (m-ds.length) none) μ) (Q:=⟨retS ⟨λr=>r=(d,μ)⟩⟩)):trunc (aH m g) ds μ=some (d,μ):=
 iZ (yg (pQ h))
@[simp] theorem sz{n:Nat}(h:n<=1000):(n<=sizeLine)=True:=eq_true (Zl h (by decide))
abbrev nc(d:D):Prop:=cLt 0 d=true
theorem su:∀{ds:List D},pg 0 ds=true↔∀d∈ds,nc d
 | []=>by unfold pg;simp
 |d::ds=>by unfold pg;simp[su (ds:=ds)]
theorem cB{ds:List D}:nc (.tup ds)↔∀d∈ds,nc d:=by
 have e:cLt 0 (.tup ds)=pg 0 ds:=by rw[cLt]
 unfold nc;rw[e];exact su
theorem rD:nc (.lst ds)↔∀d∈ds,nc d:=by
 have e:cLt 0 (.lst ds)=pg 0 ds:=by rw[cLt]
 unfold nc;rw[e];exact su
theorem ym:nc (.int i):=by unfold nc cLt;rfl
theorem jg{ns:List Int}:∀d∈ns.map D.int,nc d:=λd h=>by
 obtain⟨n,_,rfl⟩:=Zq.mp h;exact ym
def isInt:D->Bool
 | .int _=>true
 |_=>false
def oH:D->Int
 | .int i=>i
 |_=>0
@[simp] theorem Xk{i:Int}:isInt (.int i)=true:=rfl
@[simp] theorem Xe{i:Int}:oH (.int i)=i:=rfl
theorem qI:∀{ds:List D},ds.all isInt=true->ds=(ds.map oH).map D.int
 | [],_=>rfl
 |d::ds,h=>by
  rw[List.all_cons,Zo]at h;cases d with
  |int i=>rw[Zj,Zj,<-qI h.2];rfl
  |_=>exact absurd h.1 (by simp[isInt])
theorem oR(ns:List Int):(ns.map D.int).map oH=ns:=by simp[Function.comp_def]
theorem Lq(ns:List Int):(ns.map D.int).all isInt=true:=by simp
theorem NK(d:D)(μ:Mu)(h:nc d):trunc (aH 1 il) [d] μ=some (.bl (isInt d),μ):=by
 apply bK;cases d with
 |cell n=>simp[nc,cLt]at h
 |ro ds=>simp[il,isInt,gF,wO]
 |_=>simp[il,isInt]
theorem NZ(d:D)(μ:Mu)(h:nc d):trunc (aH 1 oE) [d] μ=some (.bl (isInt d),μ):=NK d μ h
theorem jU:∀(ds:List D),(∀d∈ds,th d μ=some (.bl (p d),μ))->vM (ds.map th) μ=some (ds.all p,μ)
 | [],_=>rfl
 |d::ds,h=>by
  rw[Zj];unfold vM;rw[h d (by simp)]
  have ih:=jU ds λx hx=>h x (by simp[hx])
  cases hp:p d<;>simp[hp,uX,ih]
theorem Cj:∀(ds:List D),(∀d∈ds,th d μ=some (.bl (p d),μ))->rC (ds.map th) μ=some (ds.any p,μ)
 | [],_=>rfl
 |d::ds,h=>by
  rw[Zj];unfold rC;rw[h d (by simp)]
  have ih:=Cj ds λx hx=>h x (by simp[hx])
  cases hp:p d<;>simp[hp,uX,ih]
theorem vL:∀(items:List D),(∀d∈items,∃δ1,h d δb μ=some δ1/\tt δ1 μ=some (p d,μ)/\(p d=true->fe δ1 μ=some (f d,μ)))->lcL ⟨all,none⟩ h tt fe δb items μ=some ((items.filter p).map f,μ)
 | [],_=>by unfold lcL;simp[bZ]
 |d::r,hd=>by
  obtain⟨δ1,h1,h2,h3⟩:=hd d (by simp)
  have ih:=vL (all:=all) r λx hx=>hd x (by simp[hx])
  unfold lcL;cases hp:p d with
  |false=>simp[bZ,h1,h2,hp,ih]
  |true=>simp[bZ,h1,h2,hp,h3 hp,ih]
def qg:D->Bool
 | .tup ds=>ds.all isInt
 |_=>false
def ug(φ:FF):Prop:=∀d μ,nc d->φ [d] μ=some (.bl (isInt d),μ)
theorem CQ(hφ:ug φ)(d:D)(μ:Mu)(h:nc d):trunc (aH 1 (eF φ)) [d] μ=some (.bl (qg d),μ):=by
 apply bK;cases d with
 |cell n=>simp[nc,cLt]at h
 |ro ds=>simp[eF,qg,gF,wO]
 |tup ds=>
  have e:=jU (th:=thG (aC 0) (MC (ao (aq 0) az) φ) (bW ["part"] [some (D.tup ds)] [])) (p:=isInt) (μ:=μ) ds λx hx=>by
   simp[thG,bW,hφ x μ (cB.mp h x hx)]
  simp[eF,qg,e]
 |_=>simp[eF,qg]
theorem vX(h:ds≠[]):atI ds (-1)=some (ds.getLast h):=by
 have hl:0<ds.length:=List.length_pos_iff.mpr h;unfold atI ixN;rw[if_neg (by lia),if_pos (by lia)]
 have:((-1:Int)+ds.length).toNat=ds.length-1:=by lia
 simp only[ZK,this];rw[List.getLast_eq_getElem];simp[hl]
theorem oM(h:ns≠[]):atI (ns.map D.int) (-1)=some (.int (ns.getLastD 0)):=by
 rw[vX (by simpa using h)]
 simp[List.getLastD_eq_getLast?,List.getLast?_eq_some_getLast h]
def oK(ns:List Int):Bool:=decide (2<=ns.length/\ns.length<=4/\1<=ns.getLastD 0/\bO 0 ns=1)
def mG:D->Bool
 | .tup ds=>ds.all isInt&&oK (ds.map oH)
 |_=>false
theorem qG:mG (.tup ds)=(ds.all isInt&&oK (ds.map oH)):=rfl
theorem oY(ns:List Int):mG (.tup (ns.map .int))=oK ns:=by
 rw[qG,oR,Lq];rfl
def wV(φ:FF):Prop:=∀(ns:List Int)(μ:Mu),φ [.tup (ns.map .int)] μ=some (.int (bO 0 ns:Nat),μ)
theorem CJ(hφ:pJ φ)(ns:List Int)(μ:Mu):trunc (aH 3 (cM φ)) [.tup (ns.map .int)] μ=some (.int (bO 0 ns:Nat),μ):=by
 obtain⟨o',e⟩:=yZ hφ (.tup (ns.map .int)) (ns.map .int) ns 0 none μ;apply iZ;unfold aH cM;have e':=e;simp at e';simp[aL,bw,mC,ik,cR,aq,lQ,e',bc]
def yF(φ:FF):Prop:=∀d μ,nc d->φ [d] μ=some (.bl (qg d),μ)
theorem Em(h1:yF φ1)(h2:wV φ2)(d:D)(μ:Mu)(h:nc d):trunc (aH 1 (iH φ1 φ2)) [d] μ=some (.bl (mG d),μ):=by
 apply bK;have e1:=h1 d μ h;by_cases hn:qg d=true
 .cases d with
  |tup ds=>
   have hd:=qI hn;generalize ds.map oH=ns at hd;subst hd;rw[oY];rw[hn]at e1;by_cases hl:2<=ns.length/\ns.length<=4
   .have hne:ns≠[]:=λz=>by rw[z]at hl;simp at hl
    have el:=oM hne;have a1:(2:Int)<=ns.length:=by lia
    have a2:(ns.length:Int)<=4:=by lia
    have e2:=h2 ns μ;by_cases hb:(1:Int)<=ns.getLastD 0
    .have es:oK ns=((bO 0 ns:Int)==1):=by
      unfold oK;simp only[hl.1,hl.2,hb,true_and];by_cases hg:bO 0 ns=1
      .simp[hg]
      .have:((bO 0 ns:Nat):Int)≠1:=by lia
       simp[hg,this]
     rw[es];generalize ns.getLastD 0=l at *
     simp[iH,e1,a1,a2,el,hb,e2]
    .have es:oK ns=false:=by unfold oK;simp only[hb,false_and,and_false,decide_false]
     rw[es];generalize ns.getLastD 0=l at *
     simp[iH,e1,a1,a2,el,hb]
   .have es:oK ns=false:=by
     unfold oK;rw[decide_eq_false_iff_not];rintro⟨x,y,_⟩;exact hl ⟨x,y⟩
    rw[es];by_cases a1:(2:Int)<=ns.length
    .have a2:¬(ns.length:Int)<=4:=by lia
     simp[iH,e1,a1,a2]
    .simp[iH,e1,a1]
  |_=>simp[qg]at hn
 .have hn:qg d=false:=by simpa using hn
  have es:mG d=false:=by
   cases d with
   |tup ds=>
    have hn:ds.all isInt=false:=hn;rw[qG,hn];rfl
   |_=>rfl
  rw[hn]at e1;simp[iH,e1,es]
theorem Ol(k l:Bool)(μ:Mu):trunc (aH 2 qJ) [.bl k,.bl l] μ=some (.bl (k==l),μ):=by
 apply bK;simp[qJ]
theorem Ha(h:0<=i):HT.sIx n d (some i)=min i.toNat n:=if_neg (by lia)
theorem YK(h0:0<=i)(h1:i<ds.length):oSl (.tup ds) none (some i) μ=some (.tup (ds.take i.toNat),μ):=by
 have h0':0<=i:=by lia
 have e:HT.sIx ds.length ds.length (some i)=i.toNat:=by rw[Ha h0'];lia
 have e0:HT.sIx ds.length 0 none=0:=rfl;unfold oSl L3.rQ;simp only[e,e0];simp
theorem Px(h0:0<i)(h1:i<=ds.length):oSl (.tup ds) (some i) none μ=some (.tup (ds.drop i.toNat),μ):=by
 have h0':0<=i:=by lia
 have e:HT.sIx ds.length 0 (some i)=i.toNat:=by rw[Ha h0'];lia
 have e0:HT.sIx ds.length ds.length none=ds.length:=rfl;unfold oSl L3.rQ;simp only[e,e0];simp[List.take_of_length_le]
theorem yS(h:ds≠[]):oSl (.tup ds) none (some (-1)) μ=some (.tup ds.dropLast,μ):=by
 have hl:0<ds.length:=List.length_pos_iff.mpr h;have e:HT.sIx ds.length ds.length (some (-1))=ds.length-1:=by show(if(-1:Int)<0 then((-1:Int)+ds.length).toNat else min (-1:Int).toNat ds.length)=_;rw[if_pos (by decide)];lia
 have e0:HT.sIx ds.length 0 none=0:=rfl;unfold oSl L3.rQ;simp only[e,e0];simp[List.dropLast_eq_take]
def muD(L:List Int):Mu:=[some (L.map .int)]
def DlD(L:List Int):Prop:=∀x∈L,Dr x
theorem sV(hx:Sm a x)(hy:0<y):Sm a (x.fdiv y):=by
 rw[Int.fdiv_eq_ediv_of_nonneg x (by omega)]
 unfold Sm at *
 have:=Int.natAbs_ediv_le_natAbs x y;omega
theorem mulL(h0:0<=k)(h1:k<=1000)(hl:ds.length*k.toNat<=1000):di (.lst ds) (.int k) μ=some (.lst (List.replicate k.toNat ds).flatten,μ):=if_pos ⟨by lia,by lia,Zl hl (by decide)⟩
theorem ir{a:Int}{n:Nat}:(cW a n).length=n:=by unfold cW;simp
theorem Nk(h:yw φ)(ns:List Int)(hn:ns.length<=63):∃L,φ [.ro (ns.map .int)] []=some (.cell 0,muD L)/\DlD L:=h ns hn
theorem RC{φ:FF}{ns:List Int}(h:Ok (φ [.ro (ns.map .int)] []) (λr=>r.1= .bl true)):∃μ',φ [.ro (ns.map .int)] []=some (.bl true,μ'):=by
 obtain⟨⟨d,μ'⟩,e,h⟩:=h;have h:d= .bl true:=h;subst h;exact⟨μ',e⟩
@[simp] theorem Yb{α:Type}{l:List α}{x y:α}:(l++[x]).set l.length y=l++[y]:=by simp[List.set_append]
mutual
theorem uN{m:Nat}:∀{d:D},cLt 0 d=true->cLt m d=true
 | .non,_=>by simp[cLt]
 | .bl _,_=>by simp[cLt]
 | .int _,_=>by simp[cLt]
 | .str _,_=>by simp[cLt]
 | .tup ds,h=>by rw[cLt]at h ⊢;exact oh h
 | .lst ds,h=>by rw[cLt]at h ⊢;exact oh h
 | .ro ds,h=>by rw[cLt]at h ⊢;exact oh h
 | .dic ds,h=>by rw[cLt]at h ⊢;exact xW h
 | .cell n,h=>by rw[cLt]at h;simp at h
theorem oh{m:Nat}:∀{ds:List D},pg 0 ds=true->pg m ds=true
 | [],_=>by rw[pg]
 |d::ds,h=>by
  rw[pg,Zo]at h ⊢;exact⟨uN h.1,oh h.2⟩
theorem xW{m:Nat}:∀{ds:List (Key×D)},wA 0 ds=true->wA m ds=true
 | [],_=>by rw[wA]
 |d::ds,h=>by
  rw[wA,Zo]at h ⊢;exact⟨uN h.1,xW h.2⟩
end
def jG(μ:Mu):Prop:=∀ds,some ds∈μ->∀d∈ds,nc d
theorem jG.c(h:jG μ)(m:Nat):cOk m μ=true:=by
 unfold cOk;rw[List.all_eq_true];intro o ho;cases o with
 |none=>rfl
 |some ds=>exact oh (su.mpr (h ds ho))
theorem jG.nil:jG []:=λds h=>by simp at h
theorem jG.cons(h1:∀d∈ds,nc d)(h2:jG μ):jG (some ds::μ):=λes h=>by
 rcases Zi.mp h with z|z
 .cases z;exact h1
 .exact h2 es z
theorem jG.dr{L:List Int}{μ:Mu}(h:jG μ):jG (some (L.map .int)::μ):=jG.cons jg h
theorem vI{φ:FF}{ds:List D}{μ μ' junk:Mu}{d:D}(h:φ ds μ=some (d,μ'++junk))(hl:μ'.length=μ.length)(hd:nc d)(hm:jG μ'):trunc φ ds μ=some (d,μ'):=by
 unfold trunc;rw[h];simp only[ZK];have e:(μ'++junk).take μ.length=μ':=by rw[<-hl];simp
 rw[e,uN hd,hm.c];rfl
theorem Hf{P:D->Prop}(hm:jG μ)(h:Ok (φ ds μ) (λr=>∃junk,r.2=μ++junk/\nc r.1/\P r.1)):∃d,trunc φ ds μ=some (d,μ)/\P d:=by
 obtain⟨⟨d,μ1⟩,e,junk,h1,h4,h5⟩:=h;have h1:μ1=μ++junk:=h1;subst h1;exact⟨d,vI e rfl h4 hm,h5⟩
def lZ(φ:FF):Prop:=∀(L:List Int)(rest:Mu),φ [.cell 0] (some (L.map .int)::rest)=some (.int (L.headD 0),some (L.tail.map .int)::rest)
theorem Nj:lZ (trunc (aH 1 lY)):=λL rest=>by
 have h1:oEq (.cell 0) (.lst []) (some (L.map D.int)::rest)=some (.bl L.isEmpty,some (L.map D.int)::rest):=by
  unfold oEq rsv;simp[dq,nR,iQ,qt,eqD,gG];cases L<;>simp[lu]
 refine tE ?_ (by simp)
 unfold aH lY;have hz:0<=sizeLine:=Nat.zero_le _;cases L with
 |nil=>
  simp at h1;simp[aL,sIf,toB,M2,aq,MC,az,gU,hz,h1,bc,mC]
 |cons x t=>
  simp at h1;simp[aL,sIf,toB,M2,aq,MC,az,gU,hz,h1,bc,mC,bH,Gd]
theorem jq{φ:FF}(h:lZ φ){L:List Int}(hL:DlD L)(rest:Mu):∃x L',φ [.cell 0] (some (L.map .int)::rest)=some (.int x,some (L'.map .int)::rest)/\Dr x/\DlD L':=by
 refine⟨L.headD 0,L.tail,h L rest,?_,λx hx=>hL x (List.mem_of_mem_tail hx)⟩;cases L with
 |nil=>exact⟨by decide,by decide⟩
 |cons a b=>exact hL a (by simp)
def PtL(d:Nat)(ns:List Int)(b:Int):Prop:=ns.length=d/\(∀n∈ns,n.natAbs<=10000)/\1<=b/\b<=60
def uz(d:Nat)(p:D):Prop:=∃ns b,p= .tup ((ns++[b]).map .int)/\PtL d ns b/\bO b.natAbs ns=1
theorem uz.nc{d:Nat}{p:D}(h:uz d p):nc p:=by
 obtain⟨ns,b,rfl,_⟩:=h;exact cB.mpr jg
theorem fO{x y:Int}(hy:0<y):(x.fdiv y).natAbs<=x.natAbs:=by
 rw[Int.fdiv_eq_ediv_of_nonneg x (by omega)]
 exact Int.natAbs_ediv_le_natAbs x y
theorem GJ{ns:List Int}{b:Int}(hb:0<b):bO (b.fdiv (bO b.natAbs ns:Nat)).natAbs (ns.map λn=>n.fdiv (bO b.natAbs ns:Nat))=1:=by
 have h:=(oA ns b.natAbs _).mp (Nat.dvd_refl _);have g0:bO b.natAbs ns≠0:=mO (.inl (by omega))
 obtain⟨g,hg⟩:∃g,bO b.natAbs ns=g:=⟨_,rfl⟩;rw[hg]at h g0 ⊢;have hm:∀n:Int,g ∣ n.natAbs->(g:Int)*n.fdiv (g:Nat)=n:=λn hn=>by
  rw[Int.fdiv_eq_ediv_of_nonneg n (by omega)]
  exact Int.mul_ediv_cancel' (Int.ofNat_dvd_left.mpr hn)
 have hs:=uU (g:Int) (ns.map λn=>n.fdiv (g:Nat)) (b.fdiv (g:Nat)).natAbs;have e1:((g:Int)).natAbs*(b.fdiv (g:Nat)).natAbs=b.natAbs:=by rw[<-Int.natAbs_mul,hm b h.1]
 have e2:(ns.map λn=>n.fdiv (g:Nat)).map ((g:Int) * ·)=ns:=by
  rw[List.map_map]
  conv=>rhs;rw[<-List.map_id ns]
  apply List.map_congr_left;intro n hn;exact hm n (h.2 n hn)
 rw[e1,e2,hg,Int.natAbs_natCast]at hs;exact Nat.eq_of_mul_eq_mul_left (show 0<g by omega) (by rw[Nat.mul_one];exact hs.symm)
theorem yH{φ:FF}(h:pI φ){d:Nat}{ns:List Int}{b:Int}(μ:Mu)(hd:1<=d)(hd3:d<=3)(hp:PtL d ns b):∃p,φ [.lst (ns.map .int),.int b] μ=some (p,μ)/\uz d p:=by
 obtain⟨hl,hn,b0,b1⟩:=hp;have e:=h ns b μ (by omega) (by unfold Sm;have:(2:Nat) ^ 4000>=2 ^ 7:=Nat.pow_le_pow_right (by decide) (by decide);omega) (by omega) (λz=>by rw[z]at hl;simp at hl;omega)
 have e1:sgn b=1:=if_pos (by omega)
 rw[e1,Int.one_mul]at e;have g0:bO b.natAbs ns≠0:=mO (.inl (by omega))
 have gd:=(lD ns b.natAbs).2;have gle:=Nat.le_of_dvd (by omega) gd
 refine⟨_,e,ns.map (λn=>n.fdiv (bO b.natAbs ns:Nat)),b.fdiv (bO b.natAbs ns:Nat),by simp[List.map_append],⟨by simp[hl],λm hm=>?_,?_,?_⟩,GJ (by omega)⟩
 .obtain⟨n,hn',rfl⟩:=Zq.mp hm;have:=fO (x:=n) (y:=(bO b.natAbs ns:Nat)) (by omega)
  have:=hn n hn';omega
 .rw[Int.fdiv_eq_ediv_of_nonneg b (by omega)]
  exact(Int.le_ediv_iff_mul_le (by omega)).mpr (by omega)
 .have:=fO (x:=b) (y:=(bO b.natAbs ns:Nat)) (by omega)
  omega
def isPlace(φ:FF):Prop:=∀(x k b:Int)(μ:Mu),Dr x->0<=k->k<=4->0<=b->b<=500->∃t u:Int,φ [.int x,.int k,.int b] μ=some (.tup [.int t,.int u],μ)/\t.natAbs<=10000/\1<=u/\u<=60
theorem JF:isPlace (trunc (aH 3 iG)):=λx k b μ hx k0 k4 b0 b5=>by
 have q1:=bV (x:=x) (m:=20001) (by decide)
 have q2:=bV (x:=x.fdiv 20001) (m:=60) (by decide)
 have q3:=bV (x:=x) (m:=5) (by decide)
 have q4:=bV (x:=x) (m:=11) (by decide)
 have q5:=bV (x:=x.fdiv 11) (m:=3) (by decide)
 have q6:=bV (x:=x) (m:=4) (by decide)
 have q7:=bV (x:=x) (m:=2) (by decide)
 have q8:=bV (x:=b) (m:=7) (by decide)
 have d1:=vh (i:=x) (j:=20001) (μ:=μ) (by decide) (by decide)
 have d2:=vh (i:=x) (j:=11) (μ:=μ) (by decide) (by decide)
 have hk:k=0∨k=1∨k=2∨k=3∨k=4:=by omega
 rcases hk with rfl|rfl|rfl|rfl|rfl
 .refine⟨x.fmod 20001-10000,1+(x.fdiv 20001).fmod 60,bK ?_,by omega,by omega,by omega⟩
  simp[iG,d1]
 .refine⟨x.fmod 5-2,1,bK ?_,by omega,by omega,by omega⟩
  simp[iG]
 .refine⟨x.fmod 11-5,1+(x.fdiv 11).fmod 3,bK ?_,by omega,by omega,by omega⟩
  simp[iG,d2]
 .obtain⟨y,hy,e⟩:=uF (ds:=[D.int 0,.int 0,.int 1,.int 40]) q6.1 q6.2;have hy:∃z:Int,y= .int z/\0<=z/\z<=40:=by
   simp only[Zi,ZF,or_false]at hy
   rcases hy with rfl|rfl|rfl|rfl<;>exact⟨_,rfl,by decide,by decide⟩
  obtain⟨z,rfl,z0,z1⟩:=hy;refine⟨b+z,1,bK ?_,by omega,by omega,by omega⟩
  simp[iG,e]
 .have s1:Sm 10 (x.fmod 2):=by
   unfold Sm;have:(2:Nat) ^ 10=1024:=by decide
   omega
  have s2:Sm 10 (1+b.fmod 7):=by
   unfold Sm;have:(2:Nat) ^ 10=1024:=by decide
   omega
  have m:=aae (μ:=μ) (Eu s1 s2 (by decide))
  have hb:(x.fmod 2*(1+b.fmod 7)).natAbs<=10000:=by
   have h2:x.fmod 2=0∨x.fmod 2=1:=by omega
   rcases h2 with h2|h2<;>rw[h2]<;>omega
  refine⟨x.fmod 2*(1+b.fmod 7),1,bK ?_,hb,by omega,by omega⟩
  simp[iG,m]
theorem rR(h:d∈cW a n):∃k:Int,d= .int k/\a<=k/\k<a+n:=by
 unfold cW at h;obtain⟨k,hk,rfl⟩:=Zq.mp h;have:=List.mem_range.mp hk;exact⟨_,rfl,by lia,by lia⟩
def yJ(φ:FF):Prop:=∀(x d k b:Int)(μ:Mu),jG μ->Dr x->1<=d->d<=3->0<=k->k<=4->0<=b->b<=400->∃p,φ [.int x,.int d,.int k,.int b] μ=some (p,μ)/\uz d.toNat p
theorem KY(h1:oO φ1)(h2:isPlace φ2)(h3:pI φ3):yJ (trunc (aH 9 (jt φ1 φ2 φ3))):=λx d k b μ hm hx d1 d3 k0 k4 b0 b4=>by
 apply Hf hm;apply pQ;unfold jt;simp[tG (j:=d) (by omega) (by omega)]
 refine gP (λits δ μ'=>∃(acc:List Int)(bot:Int)(o6 o7 o8:Option D),μ'=μ++[some (acc.map .int)]/\acc.length+its.length=d.toNat/\(∀n∈acc,n.natAbs<=10000)/\(1<=bot/\bot<=60)/\(∀i∈its,∃k:Int,i= .int k/\0<=k/\k<3)/\
  δ=[some (.int x),some (.int d),some (.int k),some (.int b),some (.cell μ.length),some (.int bot),o6,o7,o8]) ?_ ?_ _ _ _ ⟨[],1,none,none,none,rfl,by simp[ir],by simp,by omega,λi hi=>by
   obtain⟨k,rfl,h0,h1⟩:=rR hi;exact⟨k,rfl,by omega,by omega⟩,rfl⟩
 .rintro i rest δ μ' ⟨acc,bot,o6,o7,o8,rfl,hl,ha,hb,hi,rfl⟩;obtain⟨j,rfl,j0,j1⟩:=hi i (by simp)
  obtain⟨y,ey,hy⟩:=h1 x (j+1) (μ++[some (acc.map .int)]) (by omega) (by omega)
  obtain⟨t,u,et,ht,u0,u1⟩:=h2 y k (b+j) (μ++[some (acc.map .int)]) hy k0 k4 (by omega) (by omega)
  have hz:acc.length<sizeLine:=Zc (by omega:acc.length<1000) (by decide)
  have fin:∀bot',1<=bot'->bot'<=60->∃(acc':List Int)(bot:Int)(o6 o7 o8:Option D),μ++[some (acc.map D.int++[.int t])]=μ++[some (acc'.map .int)]/\acc'.length+rest.length=d.toNat/\(∀n∈acc',n.natAbs<=10000)/\(1<=bot/\bot<=60)/\(∀i∈rest,∃k:Int,i= .int k/\0<=k/\k<3)/\
    ([some (.int x),some (.int d),some (.int k),some (.int b),some (.cell μ.length),some (.int bot'),some (.int j),some (.int t),some (.int u)]:En)=[some (.int x),some (.int d),some (.int k),some (.int b),some (.cell μ.length),some (.int bot),o6,o7,o8]:=λbot' q1 q2=>
   ⟨acc++[t],bot',_,_,_,by simp,by simp at hl ⊢;omega,λn hn=>by
    rcases Zm.mp hn with z|z
    .exact ha n z
    .rw[ZI.mp z];exact ht,⟨q1,q2⟩,λi h=>hi i (by simp[h]),rfl⟩
  by_cases hj:j=0
  .subst hj;rw[show(0:Int)+1=1 from rfl]at ey;rw[show b+(0:Int)=b by omega]at et
   simp[ey,et,gM,jc,hz];simpa using fin u u0 u1
  .have hjb:(j==0)=false:=by simpa using hj
   simp[ey,et,hjb,gM,jc,hz];simpa using fin bot hb.1 hb.2
 .rintro δ μ' ⟨acc,bot,o6,o7,o8,rfl,hl,ha,hb,hi,rfl⟩;obtain⟨p,ep,hp⟩:=yH h3 (d:=d.toNat) (ns:=acc) (b:=bot) (μ++[none]) (by omega) (by omega) ⟨by simpa using hl,ha,hb⟩
  simp[ep];exact⟨hp.nc,hp⟩
section
variable {α:Type} {r j:List α} {x y z:α}
@[simp] theorem aak:(r++x::j)[r.length]? =some x:=by simp
@[simp] theorem aav:(r++x::j).set r.length y=r++y::j:=by simp[List.set_append]
@[simp] theorem aax:(r++x::(j++[y]))[r.length+(j.length+1)]? =some y:=by
 rw[List.getElem?_append_right (by lia)]
 have:r.length+(j.length+1)-r.length=j.length+1:=by lia
 rw[this];simp
@[simp] theorem aam:(r++x::(j++[y])).set (r.length+(j.length+1)) z=r++x::(j++[z]):=by
 rw[List.set_append_right _ _ (by lia)]
 have:r.length+(j.length+1)-r.length=j.length+1:=by lia
 rw[this];simp
end
theorem fH{ys:List Int}{k:Int}(h0:0<=k)(h1:k<ys.length):atI (ys.map D.int) k=some (.int (ys.getD k.toNat 0))/\ys.getD k.toNat 0∈ys:=by
 have hk:k.toNat<ys.length:=by lia
 have e:ys.getD k.toNat 0=ys[k.toNat]:=by simp[List.getD,hk]
 refine⟨?_,by rw[e];exact List.getElem_mem hk⟩
 unfold atI ixN;rw[if_pos h0,if_pos (by simpa using h1),e]
 simp[hk]
theorem Uh(h:μ[n]? =some (some ps))(h1:gG ps=true)(h2:jV ps<90):vH (.cell n) (.lst []) μ=some (.bl (!ps.isEmpty),μ):=by
 show oNe (.cell n) (.lst []) μ=_;have e1:rsv (.cell n) μ= .lst ps:=by
  show(match μ[n]? with|some (some ds)=>D.lst ds|_=>D.cell n)=_
  rw[h]
 have e2:rsv (.lst []) μ= .lst []:=rfl;unfold oNe;rw[e1,e2];have e3:dq (.lst ps)=true:=by rw[dq];exact h1
 have e4:dq (.lst [])=true:=by rw[dq,gG]
 have e5:iQ (.lst ps)<100:=by rw[iQ];lia
 have e6:eqD (.lst ps) (.lst [])=ps.isEmpty:=by cases ps<;>rw[eqD]<;>simp[lu]
 rw[e3,e4,e6,if_pos ⟨rfl,e5⟩]
theorem wz{α:Type}{p q:α->Bool}:∀(l:List α),(∀x∈l,q x= !p x)->(l.filter q).isEmpty=l.all p
 | [],_=>rfl
 |x::l,h=>by
  have hx:=h x (by simp)
  have ih:=wz l λy hy=>h y (by simp[hy])
  rw[List.filter_cons,List.all_cons];cases hp:p x with
  |true=>rw[hp]at hx;rw[hx];simpa using ih
  |false=>rw[hp]at hx;rw[hx];rfl
def Hd(φ:FF):Prop:=∀d μ,nc d->φ [d] μ=some (.bl (mG d),μ)
theorem NQ(h:mG d=true):∃ns:List Int,d= .tup (ns.map .int)/\2<=ns.length/\ns.length<=4:=by
 cases d with
 |tup ds=>
  rw[qG,Zo]at h;have hd:=qI h.1;have hs:=h.2;unfold oK at hs;have hs:=of_decide_eq_true hs;exact⟨_,congrArg D.tup hd,hs.1,hs.2.1⟩
 |_=>cases h
theorem jX{b:Nat}{x:Int}(n:Nat)(h:x.natAbs<n)(hn:n<=2 ^ b):Sm b x:=Zc h hn
def aD(r:List Int):D:=.tup (r.map .int)
@[simp] theorem Xd{r:List Int}{μ:Mu}:dB (aD r) μ=some (r.map .int):=rfl
@[simp] theorem Qg{r:List Int}{μ:Mu}:bU (aD r) μ=some (.int r.length,μ):=by simp[aD]
def cA(p:Int×Int):D:=.tup [.int p.1,.int p.2]
theorem ji{α:Type}{F:α->D}{l:List α}{k:Int}{z:α}(h0:0<=k)(h1:k<l.length):atI (l.map F) k=some (F (l.getD k.toNat z))/\l.getD k.toNat z∈l:=by
 have hk:k.toNat<l.length:=by lia
 have e:l.getD k.toNat z=l[k.toNat]:=by simp[List.getD,hk]
 refine⟨?_,by rw[e];exact List.getElem_mem hk⟩
 unfold atI ixN;rw[if_pos h0,if_pos (by simpa using h1),e]
 simp[hk]
theorem iB{α β:Type}{F:α->D}{G:β->D}:∀(a:List α)(b:List β),jZ (a.map F) (b.map G)=(a.zip b).map λp=>.tup [F p.1,G p.2]
 | [],_=>by simp[jZ]
 |a::as,[]=>by simp[jZ]
 |a::as,b::bs=>by simp[jZ,iB as bs]
theorem vg{α:Type}{th:D->gH}{F:α->D}{g:α->Int}{μ:Mu}:∀(l:List α)(a:Int),(∀x∈l,th (F x) μ=some (.int (g x),μ))->sX a ((l.map F).map th) μ=some (a+(l.map g).sum,μ)
 | [],a,_=>by simp[sX]
 |x::l,a,h=>by
  have h1:=h x (by simp)
  have ih:=vg l (a+g x) λy hy=>h y (by simp[hy])
  rw[Zj,Zj];unfold sX;rw[h1];simp only[ZK];rw[ih];simp
  lia
theorem cj{α:Type}{all:List D}{h:GF}{fe:EF}{δb:En}{F:α->D}{f:α->D}{μ:Mu}:∀(l:List α),(∀x∈l,∃δ1,h (F x) δb μ=some δ1/\fe δ1 μ=some (f x,μ))->lcL ⟨all,none⟩ h aW fe δb (l.map F) μ=some (l.map f,μ)
 | [],_=>by simp only[List.map_nil];unfold lcL;simp[bZ]
 |d::r,hd=>by
  obtain⟨δ1,h1,h2⟩:=hd d (by simp)
  have h3:=cj (all:=all) r λx hx=>hd x (by simp[hx])
  rw[Zj];unfold lcL;simp[bZ,h1,aW,h2,h3]
def rB:Int->List Int->Int
 |m,[]=>m
 |m,b::bs=>rB (m*b.fdiv (Int.gcd m b)) bs
theorem zu{m b:Int}(hm:1<=m)(hb:1<=b):1<=(Int.gcd m b:Int)/\((Int.gcd m b:Int) ∣ b)/\((Int.gcd m b:Int) ∣ m)/\(Int.gcd m b:Int)<=b:=by
 have h0:Int.gcd m b≠0:=by
  intro z;rw[Int.gcd_eq_zero_iff]at z
  lia
 refine⟨by lia,Int.gcd_dvd_right _ _,Int.gcd_dvd_left _ _,Int.le_of_dvd (by lia) (Int.gcd_dvd_right _ _)⟩
theorem vW{m b:Int}(hm:1<=m)(hb:1<=b):1<=b.fdiv (Int.gcd m b)/\b.fdiv (Int.gcd m b)<=b/\(m*b).fdiv (Int.gcd m b)=m*b.fdiv (Int.gcd m b)/\b ∣ m*b.fdiv (Int.gcd m b):=by
 obtain⟨g1,g2,g3,g4⟩:=zu hm hb;generalize (Int.gcd m b:Int)=g at *
 rw[Int.fdiv_eq_ediv_of_nonneg b (by lia),Int.fdiv_eq_ediv_of_nonneg (m*b) (by lia)]
 refine⟨(Int.le_ediv_iff_mul_le (by lia)).mpr (by lia),Int.ediv_le_self _ (by lia),Int.mul_ediv_assoc m g2,?_⟩
 obtain⟨c,hc⟩:=g3;obtain⟨e,he⟩:=g2;have:b / g=e:=by rw[he];exact Int.mul_ediv_cancel_left e (by lia)
 rw[this,hc,he];exact⟨c,by rw[Int.mul_assoc,Int.mul_comm c e,<-Int.mul_assoc]⟩
theorem MF:∀(bs:List Int)(m:Int),1<=m->(∀b∈bs,1<=b/\b<64)->1<=rB m bs/\(m ∣ rB m bs)/\(∀b∈bs,b ∣ rB m bs)/\∀k,Sm k m->Sm (k+6*bs.length) (rB m bs)
 | [],m,hm,_=>⟨hm,Int.dvd_refl _,by simp,λk h=>h⟩
 |b::bs,m,hm,hb=>by
  obtain⟨b1,b2⟩:=hb b (by simp)
  obtain⟨f1,f2,f3,f4⟩:=vW hm b1;have hm':1<=m*b.fdiv (Int.gcd m b):=by
   have:=Int.mul_le_mul hm f1 (by decide) (by lia)
   lia
  obtain⟨h1,h2,h3,h4⟩:=MF bs (m*b.fdiv (Int.gcd m b)) hm' λc hc=>hb c (by simp[hc])
  show 1<=rB (m*b.fdiv (Int.gcd m b)) bs/\_;refine⟨h1,Int.dvd_trans (Int.dvd_mul_right _ _) h2,λc hc=>?_,λk hk=>?_⟩
  .rcases Zi.mp hc with z|z
   .rw[z];exact Int.dvd_trans f4 h2
   .exact h3 c z
  .have:=h4 (k+6) (kI hk (jX 64 (by lia) (by decide)))
   refine bu this ?_;simp only[ZH]
   lia
def Kw(φ:FF):Prop:=∀(bs:List Int)(μ:Mu),(∀b∈bs,1<=b/\b<64)->bs.length<=100->φ [.lst (bs.map .int)] μ=some (.int (rB 1 bs),μ)
theorem QB{φ:FF}(hφ:pJ φ):Kw (trunc (aH 3 (fu φ))):=λbs μ hb hl=>by
 apply bK;unfold fu;simp;refine gP (λits δ μ'=>∃(ms:List Int)(m:Int)(o:Option D)(k:Nat),its=ms.map .int/\μ'=μ/\rB m ms=rB 1 bs/\1<=m/\Sm k m/\k+6*ms.length<=700/\(∀b∈ms,1<=b/\b<64)/\δ=[some (.lst (bs.map .int)),some (.int m),o]) ?_ ?_ _ _ _ ⟨bs,1,none,1,rfl,rfl,rfl,by decide,by unfold Sm;decide,by lia,hb,rfl⟩
 .rintro d rest δ μ' ⟨ms,m,o,k,hi,rfl,hm,m1,hk,hkl,hb,rfl⟩;cases ms with
  |nil=>cases hi
  |cons b ms=>
   cases hi;obtain⟨b1,b2⟩:=hb b (by simp)
   obtain⟨g1,g2,g3,g4⟩:=zu m1 b1;obtain⟨f1,f2,f3,f4⟩:=vW m1 b1;have sb:Sm 6 (b.fdiv (Int.gcd m b)):=jX 64 (by lia) (by decide)
   have eg:=hφ m b μ';have ed:=iC (x:=b) (y:=(Int.gcd m b:Int)) (b:=6) μ' (by lia) (jX 64 (by lia) (by decide)) (by decide)
   have em:=Ui (i:=m) (j:=b.fdiv (Int.gcd m b)) (μ:=μ') (Eu hk sb (by simp at hkl;lia))
   simp only[ZH]at hkl;simp[Ik,eg,ed,em];refine⟨ms,rfl,_,hm,?_,_,k+6,kI hk sb,by lia,λc hc=>hb c (ZE _ hc),rfl,rfl⟩
   have:=Int.mul_le_mul m1 f1 (by decide) (by lia)
   lia
 .rintro δ μ' ⟨ms,m,o,k,hi,rfl,hm,m1,hk,hkl,hb,rfl⟩;cases ms with
  |nil=>
   have hm:m=rB 1 bs:=hm;subst hm;simp
  |cons b ms=>cases hi
def dot(ws cs:List Int):Int:=((ws.zip cs).map λp=>p.1*p.2).sum
def Cg(φ:FF):Prop:=∀(ws cs:List Int)(μ:Mu),(∀w∈ws,Sm 9000 w)->(∀c∈cs,Sm 9000 c)->φ [.lst (ws.map .int),.lst (cs.map .int)] μ=some (.int (dot ws cs),μ)
theorem NB:Cg (trunc (aH 2 cG)):=λws cs μ hw hc=>by
 apply bK;have e:=vg (th:=thG (eQ 2 (aN (aC 0) (aN (aC 1) eO))) (M2 (aq 0) (aq 1) di) (bW ["one","other"] [some (.lst (ws.map .int)),some (.lst (cs.map .int))] [])) (F:=λp:Int×Int=>.tup [D.int p.1,.int p.2]) (g:=λp=>p.1*p.2) (μ:=μ) (ws.zip cs) 0 λp hp=>by
  obtain⟨p1,p2⟩:=p;have hm:=List.of_mem_zip hp;have:=cX (x:=p1) (y:=p2) μ (hw _ hm.1) (hc _ hm.2) (by decide)
  simp[thG,bW,this]
 have ez:=iB (F:=D.int) (G:=D.int) ws cs;unfold dot;simp[cG,ez];rw[List.map_map]at e;rw[e];simp
def aP(r:List Int):Int:=r.getLastD 0
def wts(M:Int)(rs:List (List Int))(ss:List Int):List Int:=(ss.zip rs).map λp=>p.1*M.fdiv (aP p.2)
def col(rs:List (List Int))(i:Nat):List Int:=rs.map λr=>r.getD i 0
def jw(rs:List (List Int)):Int:=rB 1 (rs.map aP)
def jD(d1:Nat)(rs:List (List Int))(ss:List Int):List Int:=(List.range d1).map λi=>dot (wts (jw rs) rs ss) (col rs i)
def jY(v:List Int):List Int:=v.map λn=>n.fdiv (bO 0 v:Nat)
structure jj(d1:Nat)(r:List Int):Prop where
 len:r.length=d1
 sm:∀n∈r,n.natAbs<=10000
 b1:1<=aP r
 b2:aP r<64
theorem PtL.row(h:PtL d ns b):jj (d+1) (ns++[b]):=⟨by simp[h.1],λn hn=>by
 rcases Zm.mp hn with z|z
 .exact h.2.1 n z
 .rw[ZI.mp z];have:=h.2.2;lia,by unfold aP;simp;exact h.2.2.1,by unfold aP;simp;have:=h.2.2.2;lia⟩
theorem sO{d1:Nat}{r:List Int}(h:jj d1 r)(hd:1<=d1):atI (r.map D.int) (-1)=some (.int (aP r)):=oM (λz=>by have:=h.len;rw[z]at this;simp at this;lia)
theorem uB{d1:Nat}{rs:List (List Int)}(h:∀r∈rs,jj d1 r):1<=jw rs/\(∀r∈rs,aP r ∣ jw rs)/\Sm (1+6*rs.length) (jw rs):=by
 obtain⟨h1,_,h3,h4⟩:=MF (rs.map aP) 1 (by decide) λb hb=>by
  obtain⟨r,hr,rfl⟩:=Zq.mp hb;exact⟨(h r hr).b1,(h r hr).b2⟩
 refine⟨h1,λr hr=>h3 _ (Zq.mpr ⟨r,hr,rfl⟩),?_⟩;have:=h4 1 (by unfold Sm;decide)
 rw[Zu]at this;exact this
def Nq(φ:FF):Prop:=∀(d1:Nat)(rs:List (List Int))(ss:List Int)(μ:Mu),1<=d1->(∀r∈rs,jj d1 r)->rs.length<=60->ss.length<=60->(∀s∈ss,Sm 3000 s)->φ [.lst (rs.map aD),.lst (ss.map .int)] μ=some (.lst ((wts (jw rs) rs ss).map .int),μ)
theorem over_of{φ:FF}(hφ:Kw φ):Nq (trunc (aH 3 (gY φ))):=λd1 rs ss μ hd hr hl hl2 hs=>by
 apply bK;have e1:=cj (all:=rs.map aD) (h:=aC 0) (fe:=M2 (aq 0) (M1 (mC (.int 1)) iy) oIx) (δb:=bW ["point"] [some (.lst (rs.map aD)),some (.lst (ss.map .int)),none] []) (F:=aD) (f:=λr=>.int (aP r)) (μ:=μ) rs λr h=>⟨_,rfl,by simp[bW,sO (hr r h) hd]⟩
 have e1':rs.map (λr=>D.int (aP r))=(rs.map aP).map D.int:=by simp
 rw[e1']at e1;have e2:=hφ (rs.map aP) μ (λb hb=>by
  obtain⟨r,h,rfl⟩:=Zq.mp hb;exact⟨(hr r h).b1,(hr r h).b2⟩) (by simp;lia)
 obtain⟨hM1,hM2,hM3⟩:=uB hr;have e3:=cj (all:=(ss.zip rs).map λp=>D.tup [.int p.1,aD p.2]) (h:=eQ 2 (aN (aC 0) (aN (aC 1) eO))) (fe:=M2 (aq 0) (M2 (aq 2) (M2 (aq 1) (M1 (mC (.int 1)) iy) oIx) jy) di) (δb:=bW ["number","point"] [some (.lst (rs.map aD)),some (.lst (ss.map .int)),some (.int (jw rs))] [2]) (F:=λp:Int×List Int=>D.tup [.int p.1,aD p.2]) (f:=λp=>.int (p.1*(jw rs).fdiv (aP p.2))) (μ:=μ) (ss.zip rs) λp hp=>by
  obtain⟨s,r⟩:=p;have hm:=List.of_mem_zip hp;have hrr:=hr r hm.2;have ed:=iC (x:=jw rs) (y:=aP r) (b:=6) μ (by have:=hrr.b1;lia) (jX 64 (by have:=hrr.b1;have:=hrr.b2;lia) (by decide)) (by decide)
  have em:=cX (x:=s) (y:=(jw rs).fdiv (aP r)) (a:=3000) (b:=1+6*rs.length) μ (hs s hm.1) (sV hM3 (by have:=hrr.b1;lia)) (by lia)
  refine⟨[some (.int s),some (aD r),some (.int (jw rs))],by simp[bW],?_⟩
  simp[sO hrr hd,ed,em]
 have ez:=iB (F:=D.int) (G:=aD) ss rs;have e3':(ss.zip rs).map (λp=>D.int (p.1*(jw rs).fdiv (aP p.2)))=(wts (jw rs) rs ss).map D.int:=by unfold wts;simp
 rw[e3']at e3;have hz1:rs.length<=1000:=by lia
 have hz2:(ss.zip rs).length<=1000:=by simp;lia
 have e2':φ [.lst ((rs.map aP).map D.int)] μ=some (.int (jw rs),μ):=e2;generalize (rs.map aP).map D.int=bD at *
 generalize (wts (jw rs) rs ss).map D.int=wD at *
 unfold gY;simp only[List.length_zip]at hz2;simp[hz1,hz2,e1,e2',ez,e3]
theorem RX(h:∀r∈rs,jj d1 r)(hi:i<d1):∀c∈col rs i,c.natAbs<=10000:=λc hc=>by
 obtain⟨r,hr,rfl⟩:=Zq.mp hc;have hl:=(h r hr).len;have hk:i<r.length:=by omega
 have:r.getD i 0=r[i]:=by simp[List.getD,hk]
 rw[this];exact(h r hr).sm _ (List.getElem_mem hk)
def xn(φ:FF):Prop:=∀(d1:Nat)(rs:List (List Int))(ws:List Int)(μ:Mu),1<=d1->d1<=100->rs≠[]->(∀r∈rs,jj d1 r)->rs.length<=60->(∀w∈ws,Sm 9000 w)->φ [.lst (rs.map aD),.lst (ws.map .int)] μ=some (.lst (((List.range d1).map λi=>dot ws (col rs i)).map .int),μ)
theorem yU{φ:FF}(hφ:Cg φ){d1:Nat}{rs:List (List Int)}{ws:List Int}{μ:Mu}(hr:∀r∈rs,jj d1 r)(hz1:rs.length<=1000)(hw:∀w∈ws,Sm 9000 w)(i:Nat)(hi:i<d1):
  MC (ao (aq 1) (ao (mFz (lLC ["row"] [0] (cR (aq 2)) (aC 0) (aW) (M2 (aq 0) (aq 1) oIx))) (az))) φ [some (.int (0+(i:Int))),some (.lst (ws.map .int)),some (.lst (rs.map aD))] μ=some (.int (dot ws (col rs i)),μ):=by
 have e1:=cj (all:=rs.map aD) (h:=aC 0) (fe:=M2 (aq 0) (aq 1) oIx) (δb:=[none,some (.int (0+(i:Int)))]) (F:=aD) (f:=λr=>.int (r.getD i 0)) (μ:=μ) rs λr h=>⟨_,rfl,by
  have hk:((0:Int)+i)<r.length:=by have:=(hr r h).len;lia
  obtain⟨a1,_⟩:=fH (ys:=r) (k:=0+(i:Int)) (by lia) hk
  have:(0+(i:Int)).toNat=i:=by lia
  rw[this]at a1;generalize r.getD i 0=z at *
  generalize (0+(i:Int))=j at *
  simp[a1]⟩
 have e1':rs.map (λr=>D.int (r.getD i 0))=(col rs i).map D.int:=by unfold col;simp
 rw[e1']at e1;have e2:=hφ ws (col rs i) μ hw λc hc=>bu (jX (b:=14) 10001 (by have:=RX hr hi c hc;lia) (by decide)) (by decide)
 generalize (col rs i).map D.int=cD at *
 generalize dot ws (col rs i)=z at *
 generalize (0+(i:Int))=j at *
 simp[hz1,bW,e1,e2]
theorem DN{F:EF}{δ:En}{μ:Mu}{k:Int}(h0:0<=k)(h1:k<=100000)(a:F δ μ=some (.int k,μ)):bY (ao F az) δ μ=some (⟨cW 0 k.toNat,none⟩,μ):=by
 have rr:=tG (j:=k) (μ:=μ) (by lia) (by lia)
 rw[UL,Di,a];simp only[ZK,MK];exact rr
theorem DQ{F:EF}{δ:En}{μ:Mu}{r:List Int}{d1:Nat}(hl:r.length=d1)(a:F δ μ=some (aD r,μ)):MC (ao F az) (aO bU) δ μ=some (.int d1,μ):=by
 rw[Yi,Di,a];simp only[ZK,MK,Tu,Qg,hl]
theorem Ef{φ:FF}(hφ:Cg φ):xn (trunc (aH 2 (je φ))):=λd1 rs ws μ hd hd2 hne hr hl hw=>by
 apply bK;have hz1:rs.length<=1000:=by lia
 have e3:=cj (all:=cW 0 d1) (h:=aC 0) (fe:=MC (ao (aq 1) (ao (mFz (lLC ["row"] [0] (cR (aq 2)) (aC 0) (aW) (M2 (aq 0) (aq 1) oIx))) (az))) φ) (δb:=bW ["at"] [some (.lst (rs.map aD)),some (.lst (ws.map .int))] [1,0]) (F:=λi:Nat=>D.int (0+(i:Int))) (f:=λi=>.int (dot ws (col rs i))) (μ:=μ) (List.range d1) λi hi=>
  ⟨[some (.int (0+(i:Int))),some (.lst (ws.map .int)),some (.lst (rs.map aD))],by simp[bW],yU hφ hr hz1 hw i (List.mem_range.mp hi)⟩
 have e3':(List.range d1).map (λi=>D.int (dot ws (col rs i)))=((List.range d1).map λi=>dot ws (col rs i)).map D.int:=by simp
 rw[e3']at e3;have er:(List.range d1).map (λi:Nat=>D.int (0+(i:Int)))=cW 0 d1:=rfl;rw[er]at e3;have h0:∃r0,atI (rs.map aD) 0=some (aD r0)/\r0∈rs:=by
  obtain⟨a,b⟩:=ji (F:=aD) (l:=rs) (k:=0) (z:=[]) (by decide) (by have:=List.length_pos_iff.mpr hne;lia)
  exact⟨_,a,b⟩
 obtain⟨r0,a0,hr0⟩:=h0;have hlen0:=(hr r0 hr0).len;generalize ((List.range d1).map λi=>dot ws (col rs i)).map D.int=wD at *
 have it:bY (ao (MC (ao (M2 (aq 0) (mC (.int 0)) oIx) (az)) (aO bU)) (az)) [some (.lst (rs.map aD)),some (.lst (ws.map .int))] μ=some (⟨cW 0 d1,none⟩,μ):=by
  have:=DN (k:=(d1:Int)) (by lia) (by lia) (DQ (F:=M2 (aq 0) (mC (.int 0)) oIx) (δ:=[some (.lst (rs.map aD)),some (.lst (ws.map .int))]) (μ:=μ) hlen0 (by simp[a0]))
  rwa[show((d1:Int)).toNat=d1 by lia]at this
 have hz2:(cW 0 d1).length<=sizeLine:=by rw[ir];exact Zl (by lia:_<=1000) (by decide)
 unfold je;generalize bY (ao (MC (ao (M2 (aq 0) (mC (.int 0)) oIx) (az)) (aO bU)) (az))=IT at it ⊢;simp[it,hz2,e3]
def bR(ps:List (List Int))(sh:List (Int×Int)):List (List Int):=sh.map λx=>ps.getD x.1.toNat []
def LC(n:Nat)(sh:List (Int×Int)):Prop:=∀x∈sh,0<=x.1/\x.1<n/\1<=x.2/\Sm 2000 x.2
theorem wU{d1:Nat}{ps:List (List Int)}{sh:List (Int×Int)}(hp:∀p∈ps,jj d1 p)(hs:LC ps.length sh):∀r∈bR ps sh,jj d1 r:=λr hr=>by
 obtain⟨x,hx,rfl⟩:=Zq.mp hr;obtain⟨h0,h1,_⟩:=hs x hx;exact hp _ (ji (F:=aD) (l:=ps) (k:=x.1) (z:=[]) h0 h1).2
theorem nU:dot (w::ws) (c::cs)=w*c+dot ws cs:=by unfold dot;simp
theorem Bv(M:Int):∀(rs:List (List Int))(ss:List Int),rs.length=ss.length->(∀r∈rs,1<=aP r/\aP r ∣ M)->dot (wts M rs ss) (rs.map aP)=M*ss.sum
 | [],ss,h,_=>by
  have:ss=[]:=List.eq_nil_of_length_eq_zero (by simpa using h.symm)
  subst this;simp[dot,wts]
 |r::rs,[],h,_=>by simp at h
 |r::rs,s::ss,h,hr=>by
  have ih:=Bv M rs ss (by simpa using h) λx hx=>hr x (by simp[hx])
  obtain⟨b1,b2⟩:=hr r (by simp)
  have e1:wts M (r::rs) (s::ss)=s*M.fdiv (aP r)::wts M rs ss:=by simp[wts]
  rw[e1,Zj,nU,ih,List.sum_cons,Int.mul_add];congr 1
  rw[Int.fdiv_eq_ediv_of_nonneg M (by lia),Int.mul_assoc,Int.ediv_mul_cancel b2,Int.mul_comm]
theorem JG(hd:1<=d1)(h:∀r∈rs,jj d1 r):col rs (d1-1)=rs.map aP:=by
 unfold col;apply List.map_congr_left;intro r hr;have hl:=(h r hr).len;have hne:r≠[]:=λz=>by rw[z]at hl;simp at hl;lia
 unfold aP;rw[List.getLastD_eq_getLast?,List.getLast?_eq_getElem?,hl];rfl
theorem Dd:∀(ss:List Int)(k:Nat),(∀s∈ss,1<=s/\Sm k s)->(0<=ss.sum/\(ss≠[]->1<=ss.sum))/\ss.sum.natAbs<=ss.length*2 ^ k
 | [],k,_=>by simp
 |s::ss,k,h=>by
  obtain⟨h1,h2⟩:=h s (by simp)
  obtain⟨⟨i1,i2⟩,i3⟩:=Dd ss k λx hx=>h x (by simp[hx])
  rw[List.sum_cons,ZH,Nat.succ_mul];refine⟨⟨by omega,λ_=>by omega⟩,?_⟩
  unfold Sm at h2;have:=Int.natAbs_add_le s ss.sum;omega
structure XX(d1:Nat)(rs:List (List Int))(ss:List Int):Prop where
 v:(jD d1 rs ss).length=d1
 lst:(jD d1 rs ss).getLastD 0=jw rs*ss.sum
 pos:1<=jw rs*ss.sum
 sm:Sm 3000 (jw rs*ss.sum)
 g0:bO 0 (jD d1 rs ss)≠0
 gs:Sm 3000 (bO 0 (jD d1 rs ss):Nat)
theorem JL{d1:Nat}{rs:List (List Int)}{ss:List Int}(hd:1<=d1)(hr:∀r∈rs,jj d1 r)(hl:rs.length=ss.length)(h60:rs.length<=60)(hne:rs≠[])(hs:∀s∈ss,1<=s/\Sm 2000 s):XX d1 rs ss:=by
 obtain⟨M1',M2',M3'⟩:=uB hr;have el:=Bv (jw rs) rs ss hl λr h=>⟨(hr r h).b1,M2' r h⟩;obtain⟨⟨s0,s1⟩,s2⟩:=Dd ss 2000 hs;have sne:ss≠[]:=λz=>by rw[z]at hl;exact hne (List.eq_nil_of_length_eq_zero (by simpa using hl))
 have sp:=s1 sne;have ssm:Sm 2006 ss.sum:=by
  unfold Sm;have:ss.length*2 ^ 2000<2 ^ 6*2 ^ 2000:=Nat.mul_lt_mul_of_pos_right (by omega) (Nat.two_pow_pos _)
  rw[<-Nat.pow_add]at this;omega
 have hpos:1<=jw rs*ss.sum:=by
  have:=Int.mul_le_mul M1' sp (by decide) (by omega)
  omega
 have hsm:Sm 3000 (jw rs*ss.sum):=bu (kI M3' ssm) (by omega)
 have hlast:(jD d1 rs ss).getLastD 0=jw rs*ss.sum:=by
  unfold jD;rw[List.getLastD_eq_getLast?,List.getLast?_map,List.getLast?_range,if_neg (by omega)]
  simp only[Option.map_some,Option.getD_some];rw[JG hd hr,el]
 have hmem:jw rs*ss.sum∈jD d1 rs ss:=by
  rw[<-hlast];have hne':jD d1 rs ss≠[]:=by unfold jD;simp;omega
  rw[List.getLastD_eq_getLast?,List.getLast?_eq_some_getLast hne'];exact List.getLast_mem hne'
 have hg0:bO 0 (jD d1 rs ss)≠0:=mO (.inr ⟨_,hmem,by omega⟩)
 refine⟨by unfold jD;simp,hlast,hpos,hsm,hg0,?_⟩
 have:=RT (g:=0) hmem (by omega)
 unfold Sm at *
 simp only[Int.natAbs_natCast];omega
def zj(φ:FF):Prop:=∀(d1:Nat)(ps:List (List Int))(sh:List (Int×Int))(μ:Mu),1<=d1->d1<=10->(∀p∈ps,jj d1 p)->sh≠[]->sh.length<=60->LC ps.length sh->φ [.lst (ps.map aD),.tup (sh.map cA)] μ=some (aD (jY (jD d1 (bR ps sh) (sh.map (·.2)))),μ)
theorem Nv{φ1 φ2 φ3:FF}(h1:Nq φ1)(h2:xn φ2)(h3:Ew φ3):zj (trunc (aH 4 (qC φ1 φ2 φ3))):=λd1 ps sh μ hd hd2 hp hne hl hs=>by
 apply bK;have hr:=wU hp hs;have hss:∀s∈sh.map (·.2),1<=s/\Sm 2000 s:=λs h=>by
  obtain⟨x,hx,rfl⟩:=Zq.mp h;exact⟨(hs x hx).2.2.1,(hs x hx).2.2.2⟩
 have hlr:(bR ps sh).length=(sh.map (·.2)).length:=by unfold bR;simp
 have hl60:(bR ps sh).length<=60:=by unfold bR;simp;exact hl
 have hrne:bR ps sh≠[]:=by unfold bR;simpa using hne
 have mo:=JL hd hr hlr hl60 hrne hss;obtain⟨M1',M2',M3'⟩:=uB hr;have e1:=cj (all:=sh.map cA) (h:=eQ 2 (aN (aC 0) (aN (aC 1) eO))) (fe:=M2 (aq 2) (aq 0) oIx) (δb:=[none,none,some (.lst (ps.map aD))]) (F:=cA) (f:=λx=>aD (ps.getD x.1.toNat [])) (μ:=μ) sh λx hx=>by
  obtain⟨k,s⟩:=x;obtain⟨k0,k1,_⟩:=hs _ hx;refine⟨[some (.int k),some (.int s),some (.lst (ps.map aD))],by simp[cA],?_⟩
  have:=(ji (F:=aD) (l:=ps) (k:=k) (z:=[]) k0 k1).1;simp only at this ⊢;generalize ps.getD k.toNat []=r at *
  simp[this]
 have e1':sh.map (λx=>aD (ps.getD x.1.toNat []))=(bR ps sh).map aD:=by unfold bR;simp
 rw[e1']at e1;have e2:=cj (all:=sh.map cA) (h:=eQ 2 (aN (aC 0) (aN (aC 1) eO))) (fe:=aq 1) (δb:=[none,none]) (F:=cA) (f:=λx=>.int x.2) (μ:=μ) sh λx hx=>⟨[some (.int x.1),some (.int x.2)],by simp[cA],by simp⟩
 have e2':sh.map (λx=>D.int x.2)=(sh.map (·.2)).map D.int:=by simp
 rw[e2']at e2;generalize sh.map (·.2)=ss at *
 generalize bR ps sh=rs at *
 have e3:=h1 d1 rs ss μ hd hr hl60 (by lia) (λs h=>bu (hss s h).2 (by decide))
 have hw:∀w∈wts (jw rs) rs ss,Sm 9000 w:=λw hw=>by
  obtain⟨⟨s,r⟩,hx,rfl⟩:=Zq.mp hw;have hm:=List.of_mem_zip hx;exact bu (kI (hss s hm.1).2 (sV M3' (show 0<aP r by have:=(hr r hm.2).b1;lia))) (by lia)
 have e4:=h2 d1 rs (wts (jw rs) rs ss) μ hd (by lia) hrne hr hl60 hw
 have e5:=h3 (jD d1 rs ss) μ mo.g0 (bu mo.gs (by decide)) (by rw[mo.v];lia)
 have e5':(jD d1 rs ss).map (λn=>D.int (n.fdiv (bO 0 (jD d1 rs ss):Nat)))=(jY (jD d1 rs ss)).map D.int:=by unfold jY;simp
 rw[e5']at e5;have e4':φ2 [.lst (rs.map aD),.lst ((wts (jw rs) rs ss).map .int)] μ=some (.lst ((jD d1 rs ss).map .int),μ):=e4;generalize (jD d1 rs ss).map D.int=vD at *
 generalize (wts (jw rs) rs ss).map D.int=wD at *
 have hz:sh.length<=1000:=by lia
 unfold qC;simp[hz,bW,e1,e2,e3,e4',e5,aD]
@[simp] theorem Xj{μ:Mu}{ds:List D}:dB (.cell μ.length) (μ++[some ds])=some ds:=by unfold dB;simp
def fnL(d:Nat)(g:Nat->Int):List D:=((List.range d).map g).map D.int
theorem yx:(fnL d g).length=d:=by unfold fnL;simp
theorem Wx(h:j<d):atI (fnL d g) (0+(j:Int))=some (.int (g j)):=by
 unfold atI ixN;rw[if_pos (by lia),if_pos (by rw[yx];lia)]
 have:(0+(j:Int)).toNat=j:=by lia
 simp only[ZK,this];unfold fnL;simp[h]
theorem Wl(h:j<d):ixN (fnL d g).length (0+(j:Int))=some j:=by
 unfold ixN;rw[if_pos (by lia),if_pos (by rw[yx];lia)]
 congr 1
 lia
theorem Rh:(fnL d g).set j (.int x)=fnL d (λi=>if i=j then x else g i):=by
 unfold fnL;apply List.ext_getElem
 .simp
 intro i h1 h2;simp at h1 h2;rw[List.getElem_set];by_cases e:j=i
 .subst e;simp
 .have e':¬i=j:=λz=>e z.symm;simp[e,e']
theorem HX(h:∀i<d,g i=g' i):fnL d g=fnL d g':=by
 unfold fnL;congr 1
 apply List.map_congr_left;intro i hi;exact h i (List.mem_range.mp hi)
theorem zU(h:j<d):(cW 0 d).drop j=D.int (0+(j:Int))::(cW 0 d).drop (j+1):=by
 unfold cW;rw[<-List.map_drop,<-List.map_drop,ZJ (by simpa using h)]
 simp
theorem QV(h:d<=j):(cW 0 d).drop j=[]:=List.drop_of_length_le (by rw[ir];exact h)
theorem Fx(ns:List Int)(b:Int):bO 0 (ns++[b])=bO b.natAbs ns:=by
 have:=Qp (s:=1) (b:=b) (ns:=ns) (.inl rfl);simpa using this
def tu(ps:List (List Int))(x:Int×Int):List Int:=ps.getD x.1.toNat []
def term(M:Int)(ps:List (List Int))(i:Nat)(x:Int×Int):Int:=x.2*(tu ps x).getD i 0*M.fdiv (aP (tu ps x))
theorem xF(M:Int)(ps:List (List Int))(i:Nat):∀sh:List (Int×Int),dot (wts M (bR ps sh) (sh.map (·.2))) (col (bR ps sh) i)=(sh.map (term M ps i)).sum
 | []=>by simp[dot,wts,bR,col]
 |x::sh=>by
  have ih:=xF M ps i sh;have e1:bR ps (x::sh)=tu ps x::bR ps sh:=rfl;have e2:wts M (tu ps x::bR ps sh) (x.2::sh.map (·.2))=x.2*M.fdiv (aP (tu ps x))::wts M (bR ps sh) (sh.map (·.2)):=by simp[wts]
  have e3:col (tu ps x::bR ps sh) i=(tu ps x).getD i 0::col (bR ps sh) i:=by simp[col]
  rw[e1,Zj,e2,e3,nU,ih,Zj,List.sum_cons];congr 1
  unfold term;rw[Int.mul_assoc,Int.mul_assoc,Int.mul_comm (M.fdiv _)]
abbrev Ff:SF:=ik (bY (ao (MC (ao (aq 5) (az)) (aO bU)) (az))) (aC 7) (aL (bw 8 (M2 (aq 4) (M2 (M2 (aq 0) (aq 3) oIx) (aq 7) oIx) di)) (Be (M2 (M2 (aq 5) (aq 7) oIx) (M2 (aq 8) (M2 (aq 2) (M2 (M2 (aq 0) (aq 3) oIx) (M1 (mC (.int 1)) iy) oIx) jy) di) dm) (aq 5) (aq 7)))
theorem VM{d:Nat}{ps:List (List Int)}{M k s t:Int}{μ:Mu}{shD:D}{g:Nat->Int}{o7 o8:Option D}(hd:d<=9)(hp:∀p∈ps,jj (d+1) p)(k0:0<=k)(k1:k<ps.length)(hs:Sm 2000 s)(hM:Sm 400 M):
  ∃p7 p8,Ff [some (.lst (ps.map aD)),some shD,some (.int M),some (.int k),some (.int s),some (.cell μ.length),some (.int t),o7,o8] (μ++[some (fnL d g)])=
   some (.nx,[some (.lst (ps.map aD)),some shD,some (.int M),some (.int k),some (.int s),some (.cell μ.length),some (.int t),p7,p8],μ++[some (fnL d λi=>g i+term M ps i (k,s))]):=by
 suffices h:Ok (Ff [some (.lst (ps.map aD)),some shD,some (.int M),some (.int k),some (.int s),some (.cell μ.length),some (.int t),o7,o8] (μ++[some (fnL d g)])) (λr=>∃p7 p8,r=
   (.nx,[some (.lst (ps.map aD)),some shD,some (.int M),some (.int k),some (.int s),some (.cell μ.length),some (.int t),p7,p8],μ++[some (fnL d λi=>g i+term M ps i (k,s))])) by
  obtain⟨r,e,p7,p8,h⟩:=h;exact⟨p7,p8,by rw[e,h]⟩
 obtain⟨ak,hmem⟩:=ji (F:=aD) (l:=ps) (k:=k) (z:=[]) k0 k1;have hr:=hp _ hmem;have hrow:tu ps (k,s)=ps.getD k.toNat []:=rfl;have hterm:∀i,term M ps i (k,s)=s*(ps.getD k.toNat []).getD i 0*M.fdiv (aP (ps.getD k.toNat [])):=λi=>rfl;simp only[hterm];generalize ps.getD k.toNat []=r at *
 have hlast:=sO hr (by omega +splitMinMax)
 have hlen:bU (.cell μ.length) (μ++[some (fnL d g)])=some (.int (d:Int),μ++[some (fnL d g)]):=by
  unfold bU dB;simp[yx]
 have it:bY (ao (MC (ao (aq 5) (az)) (aO bU)) (az)) [some (.lst (ps.map aD)),some shD,some (.int M),some (.int k),some (.int s),some (.cell μ.length),some (.int t),o7,o8] (μ++[some (fnL d g)])=some (⟨cW 0 d,none⟩,μ++[some (fnL d g)]):=by
  have:=DN (k:=(d:Int)) (F:=MC (ao (aq 5) (az)) (aO bU)) (δ:=[some (.lst (ps.map aD)),some shD,some (.int M),some (.int k),some (.int s),some (.cell μ.length),some (.int t),o7,o8]) (μ:=μ++[some (fnL d g)]) (by omega +splitMinMax) (by omega +splitMinMax) (by
   rw[Yi,Di];simp only[zc,zf,ZK,MK,Tu];exact hlen)
  rwa[show((d:Int)).toNat=d by omega +splitMinMax]at this
 unfold Ff;generalize bY (ao (MC (ao (aq 5) (az)) (aO bU)) (az))=IT at it ⊢;rw[Ln,it];simp only[ZK];refine gP (λits δ μ'=>∃(j:Nat)(g':Nat->Int)(p7 p8:Option D),its=(cW 0 d).drop j/\μ'=μ++[some (fnL d g')]/\(∀i<d,g' i=if i<j then g i+s*r.getD i 0*M.fdiv (aP r)else g i)/\
  δ=[some (.lst (ps.map aD)),some shD,some (.int M),some (.int k),some (.int s),some (.cell μ.length),some (.int t),p7,p8]) ?_ ?_ _ _ _ ⟨0,g,o7,o8,rfl,rfl,λi _=>by simp,rfl⟩
 .rintro it' rest δ μ' ⟨j,g',p7,p8,hi,rfl,hg,rfl⟩;have hj:j<d:=by
   by_cases h:j<d
   .exact h
   .rw[QV (by omega +splitMinMax)]at hi;cases hi
  rw[zU hj]at hi;cases hi;have hjr:((0:Int)+(j:Int))<r.length:=by have:=hr.len;omega +splitMinMax
  obtain⟨aj,hjm⟩:=fH (ys:=r) (k:=0+(j:Int)) (by omega +splitMinMax) hjr
  have hto:(0+(j:Int)).toNat=j:=by omega +splitMinMax
  rw[hto]at aj hjm;have gat:=Wx (g:=g') hj;have gix:=Wl (g:=g') hj;have hsj:=hr.sm _ hjm;have b1:=hr.b1;have b2:=hr.b2;have hgj:=hg j hj;rw[if_neg (by omega +splitMinMax)]at hgj
  generalize hrj:r.getD j 0=rj at *
  have em1:=cX (x:=s) (y:=rj) (μ++[some (fnL d g')]) hs (jX (b:=14) 10001 (by omega +splitMinMax) (by decide)) (by decide)
  have ed:=iC (x:=M) (y:=aP r) (b:=6) (μ++[some (fnL d g')]) (by omega +splitMinMax) (jX 64 (by omega +splitMinMax) (by decide)) (by decide)
  have em2:=cX (x:=s*rj) (y:=M.fdiv (aP r)) (μ++[some (fnL d g')]) (kI hs (jX (b:=14) 10001 (by omega +splitMinMax) (by decide))) (sV hM (by omega +splitMinMax)) (by decide)
  generalize hij:(0+(j:Int))=ij at *
  simp[ak,aj,em1,gat,hlast,ed,em2,L3.Hj,gix,Rh];refine⟨j+1,rfl,_,rfl,λi hi=>?_⟩;by_cases e:i=j
  .subst e;simp[hgj,<-hrj]
  .have:=hg i hi;simp only[if_neg e];rw[this];by_cases c:i<j
   .rw[if_pos c,if_pos (by omega +splitMinMax)];rfl
   .rw[if_neg c,if_neg (by omega +splitMinMax)]
 .rintro δ μ' ⟨j,g',p7,p8,hi,rfl,hg,rfl⟩;have hj:d<=j:=by
   by_cases h:j<d
   .rw[zU h]at hi;cases hi
   .omega +splitMinMax
  refine⟨p7,p8,?_⟩;rw[HX (g:=g') (g':=λi=>g i+s*r.getD i 0*M.fdiv (aP r)) λi hi=>by rw[hg i hi,if_pos (by omega +splitMinMax)]]
theorem Jd{M:Int}{ps:List (List Int)}{i:Nat}{x:Int×Int}{sh:List (Int×Int)}:((x::sh).map (term M ps i)).sum=term M ps i x+(sh.map (term M ps i)).sum:=by simp
theorem Jx{d1:Nat}{ps:List (List Int)}{k:Int}(hp:∀p∈ps,jj d1 p)(k0:0<=k)(k1:k<ps.length):atI (ps.map aD) k=some (aD (ps.getD k.toNat []))/\jj d1 (ps.getD k.toNat []):=by
 obtain⟨a,b⟩:=ji (F:=aD) (l:=ps) (k:=k) (z:=[]) k0 k1;exact⟨a,hp _ b⟩
theorem Ht{m b:Int}{bs:List Int}:rB m (b::bs)=rB (m*b.fdiv (Int.gcd m b)) bs:=rfl
theorem Ei{φ1 φ2:FF}(h1:pJ φ1)(h2:pI φ2)(d:Nat)(ps:List (List Int))(sh:List (Int×Int))(μ:Mu)(hm:jG μ)(hd:1<=d)(hd2:d<=9)(hp:∀p∈ps,jj (d+1) p)(hne:sh≠[])(hl:sh.length<=60)(hs:LC ps.length sh):
  trunc (aH 9 (mQ φ1 φ2)) [.lst (ps.map aD),.tup (sh.map cA)] μ=some (aD (jY (jD (d+1) (bR ps sh) (sh.map (·.2)))),μ):=by
 have hr:=wU hp hs;have hss:∀s∈sh.map (·.2),1<=s/\Sm 2000 s:=λs h=>by
  obtain⟨x,hx,rfl⟩:=Zq.mp h;exact⟨(hs x hx).2.2.1,(hs x hx).2.2.2⟩
 have hlr:(bR ps sh).length=(sh.map (·.2)).length:=by unfold bR;simp
 have hl60:(bR ps sh).length<=60:=by unfold bR;simp;exact hl
 have hrne:bR ps sh≠[]:=by unfold bR;simpa using hne
 have mo:=JL (by lia) hr hlr hl60 hrne hss
 obtain⟨M1',M2',M3'⟩:=uB hr;have hMs:Sm 400 (jw (bR ps sh)):=bu M3' (by lia)
 have hbs:(bR ps sh).map aP=sh.map λx=>aP (tu ps x):=by unfold bR tu;simp
 have eM:rB 1 (sh.map λx=>aP (tu ps x))=jw (bR ps sh):=by unfold jw;rw[hbs]
 have eV:jD (d+1) (bR ps sh) (sh.map (·.2))=(List.range d).map (λi=>(sh.map (term (jw (bR ps sh)) ps i)).sum)++[jw (bR ps sh)*(sh.map (·.2)).sum]:=by
  have hlast:=mo.lst;unfold jD at hlast ⊢;rw[List.range_succ,List.map_append]at hlast ⊢;rw[List.getLastD_eq_getLast?]at hlast;simp only[Zj,List.map_nil,List.getLast?_append,List.getLast?_singleton,Option.some_or,Option.getD_some]at hlast;simp only[Zj,List.map_nil];rw[hlast];congr 1
  apply List.map_congr_left;intro i _;exact xF _ _ _ _
 have hpos:=mo.pos;have hBs:=mo.sm;clear mo;generalize jw (bR ps sh)=M at *
 generalize jD (d+1) (bR ps sh) (sh.map (·.2))=V at *
 suffices h:Ok (aH 9 (mQ φ1 φ2) [.lst (ps.map aD),.tup (sh.map cA)] μ) (λr=>∃junk,r=(aD (jY V),μ++junk)) by
  obtain⟨r,e,junk,h⟩:=h;have h:r=(aD (jY V),μ++junk):=h;rw[h]at e;exact vI e rfl (cB.mpr jg) hm
 apply pQ;unfold mQ;simp only[Zj,List.map_nil,ZH,List.length_nil,List.cons_append,List.nil_append,Nat.reduceAdd,Nat.reduceSub,List.replicate_succ,List.replicate_zero,Mz,Lw,w_c,ZK,uD,vz,zB,Ln,Ng,zc,zf,Hh,Option.map_some,List.set_cons_succ,List.set_cons_zero];refine gP (λits δ μ'=>∃(xs:List (Int×Int))(m:Int)(o3 o4:Option D)(k:Nat),its=xs.map cA/\μ'=μ/\rB m (xs.map λx=>aP (tu ps x))=M/\1<=m/\Sm k m/\k+6*xs.length<=700/\(∀x∈xs,x∈sh)/\δ=[some (.lst (ps.map aD)),some (.tup (sh.map cA)),some (.int m),o3,o4,none,none,none,none]) ?_ ?_ _ _ _ ⟨sh,1,none,none,1,rfl,rfl,eM,by decide,by unfold Sm;decide,by lia,λx h=>h,rfl⟩
 .rintro dd rest δ μ' ⟨xs,m,o3,o4,k,hi,rfl,hlm,m1,hk,hkl,hsub,rfl⟩;cases xs with
  |nil=>cases hi
  |cons x xs=>
   obtain⟨xk,xs2⟩:=x;cases hi;obtain⟨k0,k1,_⟩:=hs _ (hsub _ (List.mem_cons_self ..));obtain⟨ak,hrow⟩:=Jx hp k0 k1;have hrx:tu ps (xk,xs2)=ps.getD xk.toNat []:=rfl;rw[Zj,Ht]at hlm;simp only[hrx]at hlm;simp only at ak hrow k0 k1;generalize ps.getD xk.toNat []=r at *
   have hlast:=sO hrow (by lia)
   have b1:=hrow.b1;have b2:=hrow.b2;generalize aP r=b at *
   obtain⟨g1,g2,g3,g4⟩:=zu m1 b1;obtain⟨f1,f2,f3,f4⟩:=vW m1 b1;have eg:=h1 m b μ';have em:=cX (x:=m) (y:=b) μ' hk (jX (b:=6) 64 (by lia) (by decide)) (by simp at hkl;lia)
   have ed:=iC (x:=m*b) (y:=(Int.gcd m b:Int)) (b:=6) μ' (by lia) (jX 64 (by lia) (by decide)) (by decide)
   rw[f3]at ed;have sb:Sm 6 (b.fdiv (Int.gcd m b)):=jX 64 (by lia) (by decide)
   simp only[ZH]at hkl;generalize hm':m*b.fdiv (Int.gcd m b)=m' at *
   simp[cA,ak,hlast,em,eg,ed];refine⟨xs,rfl,m',hlm,?_,_,_,k+6,by rw[<-hm'];exact kI hk sb,by lia,λa b' h=>hsub _ (ZE _ h),rfl,rfl,rfl⟩
   have:=Int.mul_le_mul m1 f1 (by decide) (by lia)
   lia
 .rintro δ μ' ⟨xs,m,o3,o4,k,hi,rfl,hlm,m1,hk,hkl,hsub,rfl⟩;cases xs with
  |cons b ms=>cases hi
  |nil=>
  have hlm:m=M:=hlm;subst hlm;obtain⟨x0,hx0⟩:∃x0,sh.head?=some x0:=by
   cases sh with
   |nil=>exact absurd rfl hne
   |cons a b=>exact⟨a,rfl⟩
  have hx0m:x0∈sh:=List.mem_of_mem_head? hx0;have a00:atI (sh.map cA) 0=some (cA x0):=by
   cases sh with
   |nil=>cases hx0
   |cons a b=>cases hx0;unfold atI ixN;simp
  obtain⟨x0k,x0s⟩:=x0;obtain⟨k0,k1,_⟩:=hs _ hx0m;obtain⟨ak,hrow⟩:=Jx hp k0 k1;simp only at ak hrow k0 k1;have hlen0:=hrow.len;generalize ps.getD x0k.toNat []=r0 at *
  have at0:atI [D.int x0k,D.int x0s] 0=some (.int x0k):=rfl;have eL:CP (MC (ao (mC (.int 0)) (az)) gU) (M2 (MC (ao (M2 (aq 0) (M2 (M2 (aq 1) (mC (.int 0)) oIx) (mC (.int 0)) oIx) oIx) (az)) (aO bU)) (mC (.int 1)) gO) [some (.lst (ps.map aD)),some (.tup (sh.map cA)),some (.int m),o3,o4,none,none,none,none] μ'=some (fnL d λ_=>0,μ'):=by
   have e1:M2 (MC (ao (M2 (aq 0) (M2 (M2 (aq 1) (mC (.int 0)) oIx) (mC (.int 0)) oIx) oIx) (az)) (aO bU)) (mC (.int 1)) gO [some (.lst (ps.map aD)),some (.tup (sh.map cA)),some (.int m),o3,o4,none,none,none,none] μ'=some (.int d,μ'):=by
    have e2:MC (ao (M2 (aq 0) (M2 (M2 (aq 1) (mC (.int 0)) oIx) (mC (.int 0)) oIx) oIx) (az)) (aO bU) [some (.lst (ps.map aD)),some (.tup (sh.map cA)),some (.int m),o3,o4,none,none,none,none] μ'=some (.int (d+1:Nat),μ'):=DQ hlen0 (by simp[a00,cA,at0,ak])
    generalize MC (ao (M2 (aq 0) (M2 (M2 (aq 1) (mC (.int 0)) oIx) (mC (.int 0)) oIx) oIx) (az)) (aO bU)=F at e2 ⊢;rw[YT,e2];simp
   generalize M2 (MC (ao (M2 (aq 0) (M2 (M2 (aq 1) (mC (.int 0)) oIx) (mC (.int 0)) oIx) oIx) (az)) (aO bU)) (mC (.int 1)) gO=F at e1 ⊢;have hrep:∀z:Int,z=d->(if -(2 ^ 63)<=z/\z<2 ^ 63/\[D.int 0].length*z.toNat<=sizeLine then some ((List.replicate z.toNat [D.int 0]).flatten,μ')else none)=some (fnL d λ_=>0,μ'):=λz hz=>by
    rw[if_pos ⟨by lia,by lia,Zl (by simp only[ZH,List.length_nil];lia:_<=1000) (by decide)⟩]
    have:z.toNat=d:=by lia
    rw[this];unfold fnL;simp[List.map_const']
   unfold CP;have e3:MC (ao (mC (.int 0)) (az)) gU [some (.lst (ps.map aD)),some (.tup (sh.map cA)),some (.int m),o3,o4,none,none,none,none] μ'=some (.lst [.int 0],μ'):=by simp
   generalize MC (ao (mC (.int 0)) (az)) gU=G at e3 ⊢;rw[e3];simp only[ZK];obtain⟨dz,hdz⟩:∃z:Int,z=d:=⟨_,rfl⟩;rw[<-hdz]at e1;rw[e1];exact hrep dz hdz
  generalize CP (MC (ao (mC (.int 0)) (az)) gU) (M2 (MC (ao (M2 (aq 0) (M2 (M2 (aq 1) (mC (.int 0)) oIx) (mC (.int 0)) oIx) oIx) (az)) (aO bU)) (mC (.int 1)) gO)=LR at eL ⊢;simp only[vz,zB,Mz,Lw,Xu,eL,ZK,uD,List.set_cons_succ,List.set_cons_zero,w_c,Ln,Ng,zc,zf,Hh,Option.map_some];refine gP (λits δ μ1=>∃(xs:List (Int×Int))(t:Int)(g:Nat->Int)(o3 o4 o7 o8:Option D),its=xs.map cA/\μ1=μ'++[some (fnL d g)]/\(∀x∈xs,x∈sh)/\t+(xs.map (·.2)).sum=(sh.map (·.2)).sum/\(∀i,g i+(xs.map (term m ps i)).sum=(sh.map (term m ps i)).sum)/\δ=[some (.lst (ps.map aD)),some (.tup (sh.map cA)),some (.int m),o3,o4,some (.cell μ'.length),some (.int t),o7,o8]) ?_ ?_ _ _ _ ⟨sh,0,λ_=>0,_,_,_,_,rfl,rfl,λx h=>h,by simp,λi=>by simp,rfl⟩
  .rintro dd rest δ μ1 ⟨xs,t,g,o3,o4,o7,o8,hi,rfl,hsub,ht,hg,rfl⟩;cases xs with
   |nil=>cases hi
   |cons x xs=>
    obtain⟨xk,xv⟩:=x;cases hi;obtain⟨k0,k1,s1,s2⟩:=hs _ (hsub _ (List.mem_cons_self ..));obtain⟨p7,p8,e⟩:=VM (d:=d) (ps:=ps) (M:=m) (k:=xk) (s:=xv) (t:=t+xv) (μ:=μ') (shD:=.tup (sh.map cA)) (g:=g) (o7:=o7) (o8:=o8) hd2 hp k0 k1 s2 hMs;unfold Ff at e;simp only[cA,YS,ZH,List.length_nil,Nat.reduceAdd,if_true,PN,Vg,ZK,Ug,uD,vz,List.set_cons_succ,List.set_cons_zero,Mz,Lw,YT,zc,zf,Xy,zB,e,Pz];refine⟨xs,t+xv,_,_,_,p7,p8,rfl,rfl,λx h=>hsub _ (ZE _ h),?_,λi=>?_,rfl⟩
    .rw[<-ht];simp;lia
    .rw[<-hg i,Jd];lia
  .rintro δ μ1 ⟨xs,t,g,o3,o4,o7,o8,hi,rfl,hsub,ht,hg,rfl⟩;cases xs with
   |cons b ms=>cases hi
   |nil=>
   have ht:t=(sh.map (·.2)).sum:=by simpa using ht
   subst ht;have hg:∀i,g i=(sh.map (term m ps i)).sum:=λi=>by simpa using hg i
   have efn:fnL d g=((List.range d).map λi=>(sh.map (term m ps i)).sum).map D.int:=by
    unfold fnL;congr 1
    apply List.map_congr_left;intro i _;exact hg i
   have hlow:=h2 ((List.range d).map λi=>(sh.map (term m ps i)).sum) (m*(sh.map (·.2)).sum) (μ'++[none]) (by lia) (bu hBs (by decide)) (by simp;lia) (by simp;lia)
   have hsg:sgn (m*(sh.map (·.2)).sum)=1:=if_pos (by lia)
   rw[hsg,Int.one_mul,<-Fx,<-eV]at hlow;have hB1:Sm 2100 (sh.map (·.2)).sum:=by
    obtain⟨_,s2⟩:=Dd (sh.map (·.2)) 2000 hss;have:(sh.map (·.2)).length*2 ^ 2000<2 ^ 6*2 ^ 2000:=Nat.mul_lt_mul_of_pos_right (by simp;lia) (Nat.two_pow_pos _)
    rw[<-Nat.pow_add]at this;exact bu (show Sm 2006 _ by unfold Sm;lia) (by decide)
   have em:=cX (x:=m) (y:=(sh.map (·.2)).sum) (μ'++[none]) hMs hB1 (by decide)
   have elow:V.map (λn=>D.int (n.fdiv (bO 0 V:Nat)))=(jY V).map D.int:=by unfold jY;simp
   rw[elow]at hlow;rw[efn];generalize ((List.range d).map λi=>(sh.map (term m ps i)).sum).map D.int=nD at *
   generalize (sh.map (·.2)).sum=B at *
   simp[em,hlow,aD]
def okD:Nat->D->Prop
 |_,.non=>True
 |_,.bl _=>True
 |_,.str _=>True
 |_,.int i=>Sm 2000 i
 |n+1,.tup ds=>∀d∈ds,okD n d
 |n+1,.lst ds=>∀d∈ds,okD n d
 |_,_=>False
theorem lG:∀{n:Nat}{d:D},okD n d->dq d=true/\iQ d<=n/\nc d
 |n,.non,_=>⟨by simp[dq],by simp[iQ],by simp[nc,cLt]⟩
 |n,.bl _,_=>⟨by simp[dq],by simp[iQ],by simp[nc,cLt]⟩
 |n,.str _,_=>⟨by simp[dq],by simp[iQ],by simp[nc,cLt]⟩
 |n,.int _,_=>⟨by simp[dq],by simp[iQ],by simp[nc,cLt]⟩
 |0,.tup ds,h=>by simp[okD]at h
 |0,.lst ds,h=>by simp[okD]at h
 |n+1,.tup ds,h=>by
  have h:∀d∈ds,okD n d:=h;have g:∀es:List D,(∀d∈es,okD n d)->gG es=true/\jV es<=n:=λes=>by
   induction es with
   |nil=>exactλ_=>⟨by rw[gG],by rw[jV];lia⟩
   |cons e es ih=>
    intro he;obtain⟨a,b,_⟩:=lG (he e (by simp))
    obtain⟨c,d⟩:=ih λx hx=>he x (by simp[hx])
    exact⟨by rw[gG,a,c];rfl,by rw[jV];lia⟩
  obtain⟨a,b⟩:=g ds h;exact⟨by rw[dq];exact a,by rw[iQ];lia,cB.mpr λd hd=>(lG (h d hd)).2.2⟩
 |n+1,.lst ds,h=>by
  have h:∀d∈ds,okD n d:=h;have g:∀es:List D,(∀d∈es,okD n d)->gG es=true/\jV es<=n:=λes=>by
   induction es with
   |nil=>exactλ_=>⟨by rw[gG],by rw[jV];lia⟩
   |cons e es ih=>
    intro he;obtain⟨a,b,_⟩:=lG (he e (by simp))
    obtain⟨c,d⟩:=ih λx hx=>he x (by simp[hx])
    exact⟨by rw[gG,a,c];rfl,by rw[jV];lia⟩
  obtain⟨a,b⟩:=g ds h;exact⟨by rw[dq];exact a,by rw[iQ];lia,rD.mpr λd hd=>(lG (h d hd)).2.2⟩
 |0,.ro _,h=>by simp[okD]at h
 |n+1,.ro _,h=>by simp[okD]at h
 |0,.dic _,h=>by simp[okD]at h
 |n+1,.dic _,h=>by simp[okD]at h
 |0,.cell _,h=>by simp[okD]at h
 |n+1,.cell _,h=>by simp[okD]at h
theorem uW:∀{n:Nat}{d:D},okD n d->okD (n+1) d
 |n,.non,_=>by simp[okD]
 |n,.bl _,_=>by simp[okD]
 |n,.str _,_=>by simp[okD]
 |n,.int i,h=>by cases n<;>simpa[okD]using h
 |0,.tup ds,h=>by simp[okD]at h
 |0,.lst ds,h=>by simp[okD]at h
 |n+1,.tup ds,h=>λd hd=>uW ((show∀d∈ds,okD n d from h) d hd)
 |n+1,.lst ds,h=>λd hd=>uW ((show∀d∈ds,okD n d from h) d hd)
 |0,.ro _,h=>by simp[okD]at h
 |n+1,.ro _,h=>by simp[okD]at h
 |0,.dic _,h=>by simp[okD]at h
 |n+1,.dic _,h=>by simp[okD]at h
 |0,.cell _,h=>by simp[okD]at h
 |n+1,.cell _,h=>by simp[okD]at h
theorem Ep(h:okD n d):okD (n+k) d:=by
 induction k with
 |zero=>exact h
 |succ k ih=>exact uW ih
theorem tO:∀(a b:List Int),lu (a.map D.int) (b.map D.int)=(a==b)
 | [],[]=>by simp[lu]
 | [],b::bs=>by simp[lu]
 |a::as,[]=>by simp[lu]
 |a::as,b::bs=>by simp[lu,eqD,tO as bs]
theorem Rx(a b:List Int)(μ:Mu):oEq (aD a) (aD b) μ=some (.bl (a==b),μ):=by
 unfold oEq;have e1:∀c:List Int,rsv (aD c) μ=aD c:=λc=>rfl;have e2:∀c:List Int,dq (aD c)=true:=λc=>by unfold aD;rw[dq];exact nR c
 have e3:iQ (aD a)<100:=by unfold aD;rw[iQ,qt];decide
 have e4:eqD (aD a) (aD b)=(a==b):=by unfold aD;rw[eqD,tO]
 rw[e1,e1,e2,e2,e4,if_pos ⟨rfl,e3⟩]
theorem Gw(a b:List Int)(μ:Mu):oNe (aD a) (aD b) μ=some (.bl (!(a==b)),μ):=by
 unfold oNe;have e1:∀c:List Int,rsv (aD c) μ=aD c:=λc=>rfl;have e2:∀c:List Int,dq (aD c)=true:=λc=>by unfold aD;rw[dq];exact nR c
 have e3:iQ (aD a)<100:=by unfold aD;rw[iQ,qt];decide
 have e4:eqD (aD a) (aD b)=(a==b):=by unfold aD;rw[eqD,tO]
 rw[e1,e1,e2,e2,e4,if_pos ⟨rfl,e3⟩]
def bL:D->Int×Int
 | .tup [.int k,.int s]=>(k,s)
 |_=>(0,0)
def pF:D->Bool
 | .tup [.int _,.int _]=>true
 |_=>false
def dh(many:Int)(d:D):Bool:=pF d&&decide (0<=(bL d).1/\(bL d).1<many/\1<=(bL d).2)
def wQ:List (Int×Int)->Bool
 | []=>true
 |a::l=>match l with
  | []=>true
  |b::_=>decide (a.1<b.1)&&wQ l
def fj(many:Int):D->Bool
 | .tup ds=>!ds.isEmpty&&(ds.all (dh many)&&wQ (ds.map bL))
 |_=>false
theorem uC(h:pF d=true):d=cA (bL d):=by
 unfold pF at h;split at h
 .rfl
 .cases h
theorem wk:∀{ds:List D},ds.all (dh many)=true->ds=(ds.map bL).map cA
 | [],_=>rfl
 |d::ds,h=>by
  rw[List.all_cons,Zo]at h;have h1:=h.1;unfold dh at h1;rw[Zo]at h1;rw[Zj,Zj,<-uC h1.1,<-wk h.2]
theorem Bh(hφ:yF φ)(many:Int)(d:D)(μ:Mu)(h:nc d):trunc (aH 2 (gJ φ)) [.int many,d] μ=some (.bl (dh many d),μ):=by
 apply bK;have e1:=hφ d μ h;cases hn:qg d with
 |false=>
  rw[hn]at e1;have es:dh many d=false:=by
   unfold dh;cases hp:pF d with
   |false=>rfl
   |true=>
    have:=uC hp;rw[this]at hn;unfold cA qg at hn;simp at hn
  rw[es];simp[gJ,e1]
 |true=>
  rw[hn]at e1;cases d with
  |tup ds=>
   have hd:=qI hn;generalize ds.map oH=ns at hd;subst hd;by_cases hl:ns.length=2
   .match ns,hl with
    | [k,s],_=>
     have at0:atI [D.int k,D.int s] 0=some (.int k):=rfl;have at1:atI [D.int k,D.int s] 1=some (.int s):=rfl;have es:dh many (.tup ([k,s].map D.int))=decide (0<=k/\k<many/\1<=s):=by
      show(true&&decide (0<=k/\k<many/\1<=s))=_;simp
     rw[es];simp only[Zj,List.map_nil]at e1 ⊢;by_cases c1:0<=k
     .by_cases c2:k<many
      .simp[gJ,e1,at0,at1,c1,c2]
      .simp[gJ,e1,at0,at1,c1,c2]
     .simp[gJ,e1,at0,at1,c1]
   .have es:dh many (.tup (ns.map D.int))=false:=by
     unfold dh;cases hp:pF (.tup (ns.map D.int))with
     |false=>rfl
     |true=>
      have:=uC hp;unfold cA at this;injection this with this
      have:=congrArg List.length this;simp at this;exact absurd this hl
    rw[es];have hlb:((ns.length:Int)==2)=false:=by
     have:(ns.length:Int)≠2:=by lia
     simpa using this
    simp[gJ,e1,hlb]
  |_=>cases hn
def BX(φ:FF):Prop:=∀(many:Int)(d:D)(μ:Mu),nc d->φ [.int many,d] μ=some (.bl (dh many d),μ)
theorem Gm:∀(l:List (Int×Int)),(l.zip (l.drop 1)).all (λp=>decide (p.1.1<p.2.1))=wQ l
 | []=>rfl
 | [a]=>rfl
 |a::b::l=>by
  have ih:=Gm (b::l);simp only[List.drop_succ_cons,List.drop_zero]at ih ⊢;rw[List.zip_cons_cons,List.all_cons,ih];rfl
theorem yt{φ:FF}(hφ:BX φ)(many:Int)(d:D)(μ:Mu)(h:nc d):trunc (aH 2 (fL φ)) [.int many,d] μ=some (.bl (fj many d),μ):=by
 apply bK;cases d with
 |cell n=>simp[nc,cLt]at h
 |ro ds=>simp[fL,fj,gF,wO]
 |tup ds=>
  by_cases hne:ds=[]
  .subst hne;simp[fL,fj]
  .have hem:ds.isEmpty=false:=by cases ds<;>simp_all
   have hlb:((ds.length:Int)==0)=false:=by
    have:(ds.length:Int)≠0:=by have:=List.length_pos_iff.mpr hne;lia
    simpa using this
   have ea:=jU (th:=thG (aC 0) (MC (ao (aq 1) (ao (aq 0) az)) φ) (bW ["part"] [some (.int many),some (D.tup ds)] [0])) (p:=dh many) (μ:=μ) ds λx hx=>by
    simp[thG,bW,hφ many x μ (cB.mp h x hx)]
   have es:fj many (.tup ds)=(ds.all (dh many)&&wQ (ds.map bL)):=by
    show(!ds.isEmpty&&(ds.all (dh many)&&wQ (ds.map bL)))=_;rw[hem];rfl
   rw[es];cases ha:ds.all (dh many)with
   |false=>
    rw[ha]at ea;simp[fL,hlb,ea]
   |true=>
    rw[ha]at ea;have hd:=wk ha;generalize ds.map bL=sh at hd;have hsl:=Px (ds:=ds) (i:=1) (μ:=μ) (by decide) (by have:=List.length_pos_iff.mpr hne;lia)
    rw[show(1:Int).toNat=1 from rfl]at hsl;have ez:jZ ds (ds.drop 1)=(sh.zip (sh.drop 1)).map λp=>.tup [cA p.1,cA p.2]:=by
     rw[hd,<-List.map_drop,iB]
    have eb:=jU (th:=thG (eQ 2 (aN (aC 0) (aN (aC 1) eO))) (M2 (M2 (aq 0) (mC (.int 0)) oIx) (M2 (aq 1) (mC (.int 0)) oIx) oLt) (bW ["one","other"] [some (.int many),some (D.tup ds)] [])) (p:=λd=>match d with| .tup [a,b]=>decide ((bL a).1<(bL b).1)|_=>false) (μ:=μ) (jZ ds (ds.drop 1)) λx hx=>by
     rw[ez]at hx;obtain⟨⟨⟨a1,a2⟩,⟨b1,b2⟩⟩,_,rfl⟩:=Zq.mp hx;have at0:∀u v:Int,atI [D.int u,D.int v] 0=some (.int u):=λ_ _=>rfl;simp[thG,bW,cA,at0,bL]
     try rfl
    have er:(jZ ds (ds.drop 1)).all (λd=>match d with| .tup [a,b]=>decide ((bL a).1<(bL b).1)|_=>false)=wQ sh:=by
     rw[ez,List.all_map,<-Gm];congr 1
    rw[er]at eb;generalize ds.drop 1=es' at *
    simp[fL,hlb,ea,hsl,eb]
 |_=>simp[fL,fj]
def chB(b:Int):List (Int×Int)->Bool
 | []=>true
 |a::l=>decide (b<a.1)&&chB a.1 l
theorem Oe:∀(l:List (Int×Int))(a:Int×Int),chB a.1 l=wQ (a::l)
 | [],a=>rfl
 |b::l,a=>by
  show(decide (a.1<b.1)&&chB b.1 l)=(decide (a.1<b.1)&&wQ (b::l));rw[Oe l b]
theorem Dc:fj many (.tup ds)=(!ds.isEmpty&&(ds.all (dh many)&&chB (-1) (ds.map bL))):=by
 show(!ds.isEmpty&&(ds.all (dh many)&&wQ (ds.map bL)))=_;cases ds with
 |nil=>rfl
 |cons d ds=>
  cases ha:(d::ds).all (dh many)with
  |false=>rfl
  |true=>
   rw[List.all_cons,Zo]at ha;have h1:=ha.1;unfold dh at h1;rw[Zo]at h1;have h2:=of_decide_eq_true h1.2;rw[Zj];show _=(_&&(true&&(decide (-1<(bL d).1)&&chB (bL d).1 (ds.map bL))));rw[Oe,decide_eq_true (by lia: -1<(bL d).1)]
   rfl
def xX(φ:FF):Prop:=∀(many:Int)(d:D)(μ:Mu),nc d->φ [.int many,d] μ=some (.bl (fj many d),μ)
theorem wK(hφ:ug φ)(many:Int)(d:D)(μ:Mu)(hn:nc d):trunc (aH 4 (eG φ)) [.int many,d] μ=some (.bl (fj many d),μ):=by
 apply bK;cases d with
 |cell n=>simp[nc,cLt]at hn
 |ro ds=>simp[eG,gF,wO,fj]
 |tup ds=>
  have hnd:=cB.mp hn;have eu:Ci (.tup ds) (.tup []) μ=some (.bl ds.isEmpty,μ):=rfl;rw[Dc];cases hem:ds.isEmpty with
  |true=>
   rw[hem]at eu;simp[eG,eu]
  |false=>
   rw[hem]at eu;simp[eG,eu];refine gP (λits δ μ'=>∃(b:Int)(o:Option D),μ'=μ/\ -1<=b/\(∀x∈its,nc x)/\(ds.all (dh many)&&chB (-1) (ds.map bL))=(its.all (dh many)&&chB b (its.map bL))/\δ=[some (.int many),some (.tup ds),some (.int b),o]) ?_ ?_ _ _ _ ⟨-1,none,rfl,by decide,hnd,rfl,rfl⟩
   .rintro x rest δ μ' ⟨b,o,rfl,hb1,hx,hv,rfl⟩;have hxn:=hx x (by simp)
    have bad:dh many x=false->(ds.all (dh many)&&chB (-1) (ds.map bL))=false:=λz=>by
     rw[hv,List.all_cons,z];rfl
    cases hp:pF x with
    |false=>
     have hs:dh many x=false:=by unfold dh;rw[hp];rfl
     have hbad:=bad hs;generalize (ds.all (dh many)&&chB (-1) (ds.map bL))=VV at *
     subst hbad;cases x with
     |tup es=>
      by_cases hl:es.length=2
      .match es,hl with
       | [u,v],_=>
        have nu:nc u:=cB.mp hxn u (by simp)
        have nv:nc v:=cB.mp hxn v (by simp)
        have at0:atI [u,v] 0=some u:=rfl;have at1:atI [u,v] 1=some v:=rfl;have eu:=hφ u μ' nu;have ev:=hφ v μ' nv;cases hu:isInt u with
        |false=>rw[hu]at eu;simp[at0,eu]
        |true=>
         rw[hu]at eu;cases hvv:isInt v with
         |false=>rw[hvv]at ev;simp[at0,at1,eu,ev]
         |true=>
          cases u<;>simp[isInt]at hu;cases v<;>simp[isInt]at hvv;simp[pF]at hp
      .have hlb:((es.length:Int)==2)=false:=by
        have:(es.length:Int)≠2:=by lia
        simpa using this
       simp[hlb]
     |cell n=>simp[nc,cLt]at hxn
     |ro es=>simp[gF,wO]
     |_=>simp
    |true=>
     have hxe:=uC hp;generalize hpo:bL x=p at hxe;obtain⟨k,s⟩:=p;have at0:atI [D.int k,D.int s] 0=some (.int k):=rfl;have at1:atI [D.int k,D.int s] 1=some (.int s):=rfl;have ek:φ [.int k] μ'=some (.bl true,μ'):=hφ (.int k) μ' ym;have es:φ [.int s] μ'=some (.bl true,μ'):=hφ (.int s) μ' ym;have hsh:dh many x=decide (0<=k/\k<many/\1<=s):=by unfold dh;rw[hp,hpo];rfl
     rw[List.all_cons,Zj,hpo,hsh]at hv;have hch:chB b ((k,s)::rest.map bL)=(decide (b<k)&&chB k (rest.map bL)):=rfl;rw[hch]at hv;generalize (ds.all (dh many)&&chB (-1) (ds.map bL))=VV at *
     have hxe:x= .tup [.int k,.int s]:=hxe;subst hxe;by_cases c1:k<=b
     .have:¬b<k:=by lia
      simp only[this,decide_false,Bool.false_and,Bool.and_false]at hv;subst hv;simp[at0,at1,ek,es,c1]
     .by_cases c2:many<=k
      .have:¬(0<=k/\k<many/\1<=s):=by lia
       simp only[this,decide_false,Bool.false_and]at hv;subst hv;simp[at0,at1,ek,es,c1,c2]
      .by_cases c3:s<1
       .have:¬(0<=k/\k<many/\1<=s):=by lia
        simp only[this,decide_false,Bool.false_and]at hv;subst hv;simp[at0,at1,ek,es,c1,c2,c3]
       .simp[at0,at1,ek,es,c1,c2,c3];have t1:0<=k/\k<many/\1<=s:=by lia
        have t2:b<k:=by lia
        rw[decide_eq_true t1,decide_eq_true t2]at hv;exact⟨k,by lia,λy hy=>hx y (ZE _ hy),by simpa using hv,rfl⟩
   .rintro δ μ' ⟨b,o,rfl,hb1,hx,hv,rfl⟩;have hv:(ds.all (dh many)&&chB (-1) (ds.map bL))=true:=hv;rw[hv];simp
 |_=>simp[eG,fj]
theorem uR(hφ:ug φ)(many:Int)(d:D)(μ:Mu)(h:okD 60 d):trunc (aH 4 (eG φ)) [.int many,d] μ=some (.bl (fj many d),μ):=wK hφ many d μ (lG h).2.2
def Lp(φ:FF):Prop:=∀(ns:List Int)(b:Int)(μ:Mu),1<=b->Sm 4000 b->ns.length<=50->φ [.tup (ns.map .int),.int b] μ=some (aD (jY (ns++[b])),μ)
theorem Rp(hφ:pJ φ):Lp (trunc (aH 4 (gj φ))):=λns b μ hb hs hl=>by
 apply bK;unfold gj;simp;refine gP (λits δ μ'=>∃(ms:List Int)(c:Int)(o:Option D),its=ms.map .int/\μ'=μ/\0<c/\bO c.natAbs ms=bO b.natAbs ns/\δ=[some (.tup (ns.map .int)),some (.int b),some (.int c),o]) ?_ ?_ _ _ _ ⟨ns,b,none,rfl,rfl,by omega,rfl,rfl⟩
 .rintro d rest δ μ' ⟨ms,c,o,hi,rfl,hc,hg,rfl⟩;cases ms with
  |nil=>cases hi
  |cons m ms=>
   cases hi;have e:=hφ c m μ';have hg0:Int.gcd c m≠0:=λz=>by rw[Int.gcd_eq_zero_iff]at z;omega
   simp[e];refine⟨ms,rfl,.inl (by omega),?_⟩
   have e1:bO c.natAbs (m::ms)=bO (Int.gcd (c.natAbs:Nat) m) ms:=rfl;rw[e1]at hg;have e2:Int.gcd ((c.natAbs:Nat):Int) m=Int.gcd c m:=by simp[Int.gcd]
   rw[e2]at hg;simpa using hg
 .rintro δ μ' ⟨ms,c,o,hi,rfl,hc,hg,rfl⟩;cases ms with
  |cons m ms=>cases hi
  |nil=>
  have hg:c.natAbs=bO b.natAbs ns:=hg;have gd:=(lD ns b.natAbs).2;have hle:=Nat.le_of_dvd (by omega) gd
  have hcs:Sm 4000 c:=by unfold Sm at *;omega
  have el:=cj (all:=ns.map D.int) (h:=aC 0) (fe:=M2 (aq 0) (aq 1) jy) (δb:=[none,some (.int c)]) (F:=D.int) (f:=λn=>.int (n.fdiv c)) (μ:=μ') ns λn _=>⟨_,rfl,by simp[iC (x:=n) μ' (show c≠0 by omega) hcs (by decide)]⟩
  have ed:=iC (x:=b) μ' (show c≠0 by omega) hcs (by decide)
  have hb0:¬b<0:=by omega
  have z1:ns.length<=1000:=by omega
  have z2:ns.length+1<=sizeLine:=Zl (by omega:_<=1000) (by decide)
  have ev:jY (ns++[b])=ns.map (λn=>n.fdiv c)++[b.fdiv c]:=by
   unfold jY;rw[Fx,<-hg];have:((c.natAbs:Nat):Int)=c:=by omega
   rw[this];simp
  rw[ev];simp[hb0,z1,bW,el,ed,z2,aD]
  try rfl
def bx(gs:List Int):D:=.tup (gs.map .int)
def inG(gs:List Int)(k:Int):Bool:=gs.any λg=>g==k
theorem MT:oIn neg (.int k) (bx gs) μ=some (.bl (if neg then !inG gs k else inG gs k),μ):=by
 have e:inF (.int k) (gs.map D.int)=inG gs k:=by
  unfold inF inG;rw[List.any_map];rfl
 unfold oIn bx;simp[vV,e]
def uA:D->List (Int×Int)
 | .tup ds=>ds.map bL
 |_=>[]
def zL:D->Nat
 | .tup ds=>ds.length
 |_=>0
def kh(d1:Nat)(ps:List (List Int))(gs sp:List Int)(row:D):Bool:=
 fj ps.length row&&((uA row).all (λx=>inG gs x.1)&&(jY (jD d1 (bR ps (uA row)) ((uA row).map (·.2)))==sp))
theorem qW(h:fj many row=true):∃sh:List (Int×Int),row= .tup (sh.map cA)/\uA row=sh/\sh≠[]/\∀x∈sh,0<=x.1/\x.1<many/\1<=x.2:=by
 cases row with
 |tup ds=>
  have h:(!ds.isEmpty&&(ds.all (dh many)&&wQ (ds.map bL)))=true:=h;rw[Zo,Zo]at h;refine⟨ds.map bL,congrArg D.tup (wk h.2.1),rfl,λz=>?_,λx hx=>?_⟩
  .have:ds=[]:=by simpa using z
   rw[this]at h;simp at h
  .obtain⟨d,hd,rfl⟩:=Zq.mp hx;have:=(List.all_eq_true.mp h.2.1) d hd;unfold dh at this;rw[Zo]at this;exact of_decide_eq_true this.2
 |_=>cases h
theorem Tn{n k:Nat}{sh:List (Int×Int)}(h:okD k (.tup (sh.map cA)))(h2:∀x∈sh,0<=x.1/\x.1<n/\1<=x.2):LC n sh:=λx hx=>by
 refine⟨(h2 x hx).1,(h2 x hx).2.1,(h2 x hx).2.2,?_⟩;cases k with
 |zero=>simp[okD]at h
 |succ k=>
  have h:∀d∈sh.map cA,okD k d:=h;have:=h (cA x) (Zq.mpr ⟨x,hx,rfl⟩);cases k with
  |zero=>simp[okD,cA]at this
  |succ k=>
   have this:∀d∈[D.int x.1,D.int x.2],okD k d:=this;have:=this (.int x.2) (by simp)
   simpa[okD]using this
structure Geo(d:Nat)(ps:List (List Int)):Prop where
 d1:1<=d
 d2:d<=3
 rows:∀p∈ps,jj (d+1) p
 len:ps.length<=60
 ne:ps≠[]
def Jo(φ:FF):Prop:=∀(d:Nat)(ps:List (List Int))(gs sp:List Int)(row:D)(μ:Mu),Geo d ps->okD 60 row->zL row<=60->φ [.lst (ps.map aD),bx gs,aD sp,row] μ=some (.bl (kh (d+1) ps gs sp row),μ)
def TY(φ:FF):Prop:=∀(ps:List (List Int))(gs:List Int)(row:D)(μ:Mu),okD 60 row->φ [.lst (ps.map aD),bx gs,row] μ=some (.bl (fj ps.length row&&(uA row).all (λx=>inG gs x.1)),μ)
theorem Us(h1:xX φ1):TY (trunc (aH 3 (dC φ1))):=λps gs row μ ho=>by
 apply bK;have hn:=(lG ho).2.2;have e1:=h1 ps.length row μ hn;cases hs:fj ps.length row with
 |false=>
  rw[hs]at e1;simp[dC,e1]
 |true=>
  rw[hs]at e1;obtain⟨sh,rfl,hsh,hne,hx⟩:=qW hs;rw[hsh];have ea:=jU (th:=thG (eQ 2 (aN (aC 0) (aN (aC 1) eO))) (M2 (aq 0) (aq 2) (oIn false)) (bW ["k","share"] [some (.lst (ps.map aD)),some (bx gs),some (.tup (sh.map cA))] [1])) (p:=λd=>inG gs (bL d).1) (μ:=μ) (sh.map cA) λx hx=>by
   obtain⟨⟨k,s⟩,_,rfl⟩:=Zq.mp hx;simp[thG,bW,cA,MT,bL]
  have ev:(sh.map cA).all (λd=>inG gs (bL d).1)=sh.all (λx=>inG gs x.1):=by rw[List.all_map];rfl
  rw[ev]at ea;generalize sh.map cA=sD at *
  simp[dC,e1,ea]
theorem JX{φ1 φ2:FF}(h1:TY φ1)(h2:zj φ2):Jo (trunc (aH 4 (iY φ1 φ2))):=λd ps gs sp row μ G ho hl=>by
 apply bK;have e1:=h1 ps gs row μ ho;have eL:kh (d+1) ps gs sp row=(fj ps.length row&&((uA row).all (λx=>inG gs x.1)&&(jY (jD (d+1) (bR ps (uA row)) ((uA row).map (·.2)))==sp))):=rfl;rw[<-Bool.and_assoc]at eL;cases hs:(fj ps.length row&&(uA row).all (λx=>inG gs x.1))with
 |false=>
  rw[hs]at e1 eL;rw[eL];simp[iY,e1]
 |true=>
  rw[hs]at e1 eL;rw[Zo]at hs;obtain⟨sh,rfl,hsh,hne,hx⟩:=qW hs.1;rw[eL,hsh];have hok:=Tn ho hx;have hlen:sh.length<=60:=by simpa[zL]using hl
  have em:=h2 (d+1) ps sh μ (by lia) (by have:=G.d2;lia) G.rows hne hlen hok
  have eq:=Rx (jY (jD (d+1) (bR ps sh) (sh.map (·.2)))) sp μ;generalize jY (jD (d+1) (bR ps sh) (sh.map (·.2)))=V at *
  generalize sh.map cA=sD at *
  simp[iY,e1,em,eq]
def wF(ps:List (List Int)):D:=.lst (ps.map aD)
def spI:D->List Int
 | .tup ds=>ds.map oH
 |_=>[]
def fZ(d1:Nat)(ps gss:List (List Int)):D->Bool
 | .tup [sp,.tup rows]=>mG sp&&(rows.length==gss.length&&(gss.zip rows).all λp=>kh d1 ps p.1 (spI sp) p.2)
 |_=>false
def uy(n:Int):D->Bool
 | .tup ds=>((ds.length:Int)==n)
 |_=>false
theorem CZ(n:Int)(d:D)(μ:Mu)(h:nc d):trunc (aH 2 jO) [.int n,d] μ=some (.bl (uy n d),μ):=by
 apply bK;cases d with
 |cell n=>simp[nc,cLt]at h
 |ro ds=>simp[jO,gF,wO,uy]
 |_=>simp[jO,uy]
def Ea(φ:FF):Prop:=∀(n:Int)(d:D)(μ:Mu),nc d->φ [.int n,d] μ=some (.bl (uy n d),μ)
def okP:D->Prop
 | .tup [_,.tup rows]=>∀r∈rows,zL r<=60
 |_=>True
def okT(t:D):Prop:=nc t/\(∀ds,t≠ .ro ds)/\∀a b,t= .tup [a,b]->((∀es,a≠ .ro es)/\∀es,a= .tup es->∀x∈es,okD 58 x)/\(∀es,b≠ .ro es)/\∀rs,b= .tup rs->∀r∈rs,okD 58 r
def sy(φ:FF):Prop:=∀(d:Nat)(ps gss:List (List Int))(t:D)(μ:Mu),Geo d ps->gss≠[]->gss.length<=60->jG μ->okT t->okP t->φ [wF ps,.lst (gss.map bx),t] μ=some (.bl (fZ (d+1) ps gss t),μ)
theorem HD(h1:Ea φ1)(h2:Hd φ2)(h3:Jo φ3):sy (trunc (aH 5 (cL φ1 φ2 φ3))):=λd ps gss t μ G gne gl hm ho hp=>by
 apply bK;have hn:=ho.1;have e1:=h1 2 t μ hn;cases t with
 |tup ds=>
  by_cases hl:ds.length=2
  .match ds,hl with
   | [sp,rows],_=>
    have hns:=cB.mp hn sp (by simp)
    have hnr:=cB.mp hn rows (by simp)
    have e2:=h2 sp μ hns;have e3:=h1 gss.length rows μ hnr;have e1':φ1 [.int 2,.tup [sp,rows]] μ=some (.bl true,μ):=e1;cases hs:mG sp with
    |false=>
     rw[hs]at e2;have eV:fZ (d+1) ps gss (.tup [sp,rows])=false:=by
      cases rows<;>simp[fZ,hs]
     rw[eV];simp[cL,e1',e2]
    |true=>
     rw[hs]at e2;obtain⟨sl,rfl,_⟩:=NQ hs;cases rows with
     |tup rs=>
      have eV:fZ (d+1) ps gss (.tup [.tup (sl.map .int),.tup rs])=(rs.length==gss.length&&(gss.zip rs).all λp=>kh (d+1) ps p.1 sl p.2):=by
       show(mG (.tup (sl.map .int))&&(rs.length==gss.length&&(gss.zip rs).all λp=>kh (d+1) ps p.1 (spI (.tup (sl.map .int))) p.2))=_;rw[hs,show spI (.tup (sl.map .int))=sl from oR sl];rfl
      rw[eV];by_cases hrl:rs.length=gss.length
      .have hrb:((rs.length:Int)==(gss.length:Int))=true:=by simp[hrl]
       have e3':φ1 [.int gss.length,.tup rs] μ=some (.bl true,μ):=by rw[e3];simp[uy,hrb]
       have ho3:∀r∈rs,okD 58 r:=(ho.2.2 _ _ rfl).2.2 rs rfl;have hp2:∀r∈rs,zL r<=60:=hp;have ez:=iB (F:=bx) (G:=id) gss rs;rw[List.map_id]at ez;have ea:=jU (th:=thG (eQ 2 (aN (aC 0) (aN (aC 1) eO))) (MC (ao (aq 2) (ao (aq 0) (ao (aq 3) (ao (aq 1) (az))))) φ3) (bW ["group","row"] [some (wF ps),some (.lst (gss.map bx)),some (.tup [aD sl,.tup rs]),some (aD sl),some (.tup rs)] [0,3])) (p:=λx=>match x with| .tup [g,r]=>kh (d+1) ps (spI g) sl r|_=>false) (μ:=μ) (jZ (gss.map bx) rs) λx hx=>by
        rw[ez]at hx;obtain⟨⟨g,r⟩,hgr,rfl⟩:=Zq.mp hx;have hm:=List.of_mem_zip hgr;have hor:okD 60 r:=Ep (k:=2) (ho3 r hm.2);have el:=h3 d ps g sl r μ G hor (hp2 r hm.2);have eg:spI (bx g)=g:=oR g;simp only[id]at *
        rw[eg];simp[thG,bW,wF,el]
       have ev:(jZ (gss.map bx) rs).all (λx=>match x with| .tup [g,r]=>kh (d+1) ps (spI g) sl r|_=>false)=(gss.zip rs).all λp=>kh (d+1) ps p.1 sl p.2:=by
        rw[ez,List.all_map];congr 1
        funext p
        show kh (d+1) ps (spI (bx p.1)) sl p.2=_;rw[show spI (bx p.1)=p.1 from oR p.1]
       rw[ev]at ea;have hrs:D.tup (sl.map .int)=aD sl:=rfl;rw[hrs]at e1' e2 ⊢;have hbb:(rs.length==gss.length)=true:=by simp[hrl]
       rw[hbb,Bool.true_and];have elen:bU (.lst (gss.map bx)) μ=some (.int gss.length,μ):=by simp
       generalize (gss.zip rs).all (λp=>kh (d+1) ps p.1 sl p.2)=VV at *
       generalize gss.map bx=gD at *
       simp[cL,e1',e2,e3',elen,ea]
      .have hrb:((rs.length:Int)==(gss.length:Int))=false:=by
        have:(rs.length:Int)≠gss.length:=by lia
        simpa using this
       have e3':φ1 [.int gss.length,.tup rs] μ=some (.bl false,μ):=by rw[e3];simp[uy,hrb]
       have hbb:(rs.length==gss.length)=false:=by simpa using hrl
       rw[hbb,Bool.false_and];have elen:bU (.lst (gss.map bx)) μ=some (.int gss.length,μ):=by simp
       generalize gss.map bx=gD at *
       simp[cL,e1',e2,e3',elen]
     |_=>
      have elen:bU (.lst (gss.map bx)) μ=some (.int gss.length,μ):=by simp
      generalize gss.map bx=gD at *
      simp[cL,e1',e2,e3,elen,fZ,uy]
  .have hlb:((ds.length:Int)==2)=false:=by
    have:(ds.length:Int)≠2:=by lia
    simpa using this
   have e1':φ1 [.int 2,.tup ds] μ=some (.bl false,μ):=by rw[e1];simp[uy,hlb]
   have eV:fZ (d+1) ps gss (.tup ds)=false:=by
    match ds,hl with
    | [],_=>rfl
    | [a],_=>rfl
    |a::b::c::e,_=>cases b<;>rfl
    | [a,b],hl=>exact absurd rfl hl
   rw[eV];simp[cL,e1']
 |_=>simp[cL,e1,fZ,uy]
theorem Kz:(jY v).length=v.length:=by unfold jY;simp
theorem Mq(h:kh d1 ps gs sp row=true):sp.length=d1:=by
 unfold kh at h;rw[Zo,Zo]at h;have e:=eq_of_beq h.2.2;rw[<-e,Kz];unfold jD;simp
theorem Jb(hne:v≠[])(h1:1<=v.getLastD 0):(jY v==v)=decide (bO 0 v=1):=by
 have hmem:v.getLastD 0∈v:=by
  rw[List.getLastD_eq_getLast?,List.getLast?_eq_some_getLast hne];exact List.getLast_mem hne
 have hg0:bO 0 v≠0:=mO (.inr ⟨_,hmem,by lia⟩)
 by_cases hg:bO 0 v=1
 .have:jY v=v:=by
   unfold jY;rw[hg];have:(λn:Int=>n.fdiv ((1:Nat):Int))=id:=by
    funext n
    show n.fdiv 1=n;exact Int.fdiv_one n
   rw[this,List.map_id]
  rw[this,hg];simp
 .have:¬jY v=v:=λe=>by
   have e1:(jY v).getLastD 0=v.getLastD 0:=by rw[e]
   unfold jY at e1;rw[List.getLastD_eq_getLast?,List.getLast?_map,List.getLast?_eq_some_getLast hne]at e1;simp only[Option.map_some,Option.getD_some]at e1;have e2:v.getLast hne=v.getLastD 0:=by rw[List.getLastD_eq_getLast?,List.getLast?_eq_some_getLast hne];rfl
   rw[e2]at e1;generalize v.getLastD 0=l at *
   rw[Int.fdiv_eq_ediv_of_nonneg l (by lia)]at e1
   have:l / (bO 0 v:Nat)<l:=Int.ediv_lt_self_of_pos_of_ne_one (by lia) (by lia)
   lia
  rw[decide_eq_false hg];simpa using this
theorem An(h:fZ d1 ps gss (.tup [sp,rows])=true)(hg:gss≠[]):mG sp=true/\(spI sp).length=d1:=by
 cases rows with
 |tup rs=>
  have h:(mG sp&&(rs.length==gss.length&&(gss.zip rs).all λp=>kh d1 ps p.1 (spI sp) p.2))=true:=h;rw[Zo,Zo]at h;have hl:rs.length=gss.length:=eq_of_beq h.2.1;refine⟨h.1,?_⟩;cases gss with
  |nil=>exact absurd rfl hg
  |cons g gss=>
   cases rs with
   |nil=>simp at hl
   |cons r rs=>
    rw[List.zip_cons_cons,List.all_cons,Zo]at h;exact Mq h.2.2.1
 |_=>cases h
theorem Ra(ds:List D)(p:D->Bool):vM ((ds.map λd=>D.bl (p d)).map thE) μ=some (ds.all p,μ):=by
 have:=jU (th:=thE) (p:=λd=>match d with| .bl b=>b|_=>false) (μ:=μ) (ds.map λd=>D.bl (p d)) λx hx=>by
  obtain⟨d,_,rfl⟩:=Zq.mp hx;rfl
 rw[this,List.all_map];rfl
def ye(φ:FF):Prop:=∀(many:Int)(d:D)(μ:Mu),okD 60 d->φ [.int many,d] μ=some (.bl (fj many d),μ)
def WX(φ:FF):Prop:=∀(d:Nat)(ps:List (List Int))(sh:List (Int×Int))(μ:Mu),jG μ->1<=d->d<=9->(∀p∈ps,jj (d+1) p)->sh≠[]->sh.length<=60->LC ps.length sh->φ [.lst (ps.map aD),.tup (sh.map cA)] μ=some (aD (jY (jD (d+1) (bR ps sh) (sh.map (·.2)))),μ)
theorem wC{φ1 φ2 φ3 φ4:FF}(h1:ug φ1)(h2:Lp φ2)(h3:ye φ3)(h4:WX φ4):sy (trunc (aH 7 (bQ φ1 φ2 φ3 φ4))):=λd ps gss t μ G gne gl hm ho hp=>by
 apply bK;have hn:=ho.1;have hd1:=G.d1;have hd2:=G.d2;cases t with
 |cell n=>simp[nc,cLt]at hn
 |ro ds=>exact absurd rfl (ho.2.1 ds)
 |tup ds=>
  by_cases hl:ds.length=2
  .match ds,hl with
   | [a,rows],_=>
    have hna:=cB.mp hn a (by simp)
    have hnr:=cB.mp hn rows (by simp)
    have at0:atI [a,rows] 0=some a:=rfl;cases a with
    |tup es=>
     obtain⟨r0,a0,hr0⟩:∃r0,atI (ps.map aD) 0=some (aD r0)/\r0∈ps:=by
      obtain⟨x,y⟩:=ji (F:=aD) (l:=ps) (k:=0) (z:=[]) (by decide) (by have:=List.length_pos_iff.mpr G.ne;lia)
      exact⟨_,x,y⟩
     have hr0l:=(G.rows r0 hr0).len;by_cases hel:es.length=d+1
     .have hlb:((es.length:Int)==(r0.length:Int))=true:=by simp[hel,hr0l]
      have hz:es.length<=1000:=by lia
      have nospot:mG (.tup es)=false->fZ (d+1) ps gss (.tup [.tup es,rows])=false:=λhx=>by
       cases rows<;>simp[fZ,hx]
      have ew:=rW (all:=es) (h:=aC 0) (fe:=MC (ao (aq 0) az) φ1) (δb:=[none]) (f:=λx=>.bl (isInt x)) (μ:=μ) es λx hx=>⟨_,rfl,by simp[h1 x μ (cB.mp hna x hx)]⟩
      have eall:=Ra (μ:=μ) es isInt;generalize es.map (λx=>D.bl (isInt x))=bD at ew eall;cases hi:es.all isInt with
      |false=>
       rw[hi]at eall;rw[nospot (by rw[qG,hi];rfl)]
       simp[bQ,at0,wF,a0,hlb,hz,bW,ew,eall]
      |true=>
       rw[hi]at eall;have hd:=qI hi;generalize es.map oH=sl at hd;subst hd;simp only[Zu]at hlb hz;have hsl:sl.length=d+1:=by simpa using hel
       have hsne:sl≠[]:=λz=>by rw[z]at hsl;simp at hsl
       have hsne':sl.map D.int≠[]:=by simpa using hsne
       have elast:=oM hsne;have einit:=yS (μ:=μ) hsne';have hdl:(sl.map D.int).dropLast=sl.dropLast.map D.int:=by rw[List.map_dropLast]
       rw[hdl]at einit;have hjoin:sl.dropLast++[sl.getLastD 0]=sl:=by
        rw[List.getLastD_eq_getLast?,List.getLast?_eq_some_getLast hsne];exact List.dropLast_concat_getLast hsne
       have hspI:spI (.tup (sl.map .int))=sl:=oR sl;have ho2':∀x∈sl.map D.int,okD 58 x:=(ho.2.2 _ _ rfl).1.2 _ rfl;have hlsm:Sm 2000 (sl.getLastD 0):=by
        have hmem:sl.getLastD 0∈sl:=by
         rw[List.getLastD_eq_getLast?,List.getLast?_eq_some_getLast hsne];exact List.getLast_mem hsne
        have:=ho2' (.int (sl.getLastD 0)) (Zq.mpr ⟨_,hmem,rfl⟩);simpa[okD]using this
       by_cases hb:sl.getLastD 0<1
       .rw[nospot (by
         rw[oY];unfold oK;rw[decide_eq_false_iff_not];rintro⟨_,_,z,_⟩
         lia)]
        generalize sl.getLastD 0=l at *
        simp[bQ,at0,wF,a0,hlb,hz,bW,ew,eall,elast,hb]
       .have elow:=h2 sl.dropLast (sl.getLastD 0) μ (by lia) (bu hlsm (by decide)) (by simp;lia)
        rw[hjoin]at elow;have ene:=Gw (jY sl) sl μ;rw[Jb hsne (by lia)]at ene
        have hrw:D.tup (sl.map .int)=aD sl:=rfl;by_cases hg:bO 0 sl=1
        .rw[decide_eq_true hg]at ene;have hspot:mG (.tup (sl.map .int))=true:=by
          rw[oY];unfold oK;exact decide_eq_true ⟨by lia,by lia,by lia,hg⟩
         have elen:bU (.lst (gss.map bx)) μ=some (.int gss.length,μ):=by simp
         have hgl:(gss.map bx).length=gss.length:=by simp
         have ezz:=λrs:List D=>iB (F:=bx) (G:=id) gss rs;cases rows with
         |tup rs=>
          have eV:fZ (d+1) ps gss (.tup [.tup (sl.map .int),.tup rs])=(rs.length==gss.length&&(gss.zip rs).all λp=>kh (d+1) ps p.1 sl p.2):=by
           show(mG (.tup (sl.map .int))&&(rs.length==gss.length&&(gss.zip rs).all λp=>kh (d+1) ps p.1 (spI (.tup (sl.map .int))) p.2))=_;rw[hspot,hspI];rfl
          rw[eV];by_cases hrl:rs.length=gss.length
          .have hrb:((rs.length:Int)==(gss.length:Int))=true:=by simp[hrl]
           have hbb:(rs.length==gss.length)=true:=by simp[hrl]
           rw[hbb,Bool.true_and];have ho3:∀r∈rs,okD 58 r:=(ho.2.2 _ _ rfl).2.2 rs rfl;have hp2:∀r∈rs,zL r<=60:=hp;have ez:=ezz rs;rw[List.map_id]at ez;generalize hVV:(gss.zip rs).all (λp=>kh (d+1) ps p.1 sl p.2)=VV;generalize hgD:gss.map bx=gD at *
           generalize sl.getLastD 0=l at *
           generalize sl.dropLast.map D.int=iD at *
           simp[bQ,at0,wF,a0,hlb,hz,bW,ew,eall,elast,hb,einit];rw[show D.tup (List.map D.int sl)=aD sl from rfl];simp[elow,ene,elen,hgl,hrb,ez];refine gP (λits δ μ'=>∃(prs:List (List Int×D))(o5 o6:Option D),its=prs.map (λp=>.tup [bx p.1,p.2])/\μ'=μ/\prs.all (λp=>kh (d+1) ps p.1 sl p.2)=VV/\(∀p∈prs,okD 60 p.2/\zL p.2<=60)/\δ=[some (.lst (ps.map aD)),some (.lst gD),some (.tup [aD sl,.tup rs]),some (aD sl),some (.tup rs),o5,o6]) ?_ ?_ _ _ _ ⟨gss.zip rs,none,none,rfl,rfl,hVV,λp hp'=>by
            have hm:=List.of_mem_zip (show(p.1,p.2)∈gss.zip rs from hp');exact⟨Ep (k:=2) (ho3 _ hm.2),hp2 _ hm.2⟩,rfl⟩
           .rintro it rest δ μ' ⟨prs,o5,o6,hi,rfl,hv,hpr,rfl⟩;cases prs with
            |nil=>cases hi
            |cons p prs=>
             obtain⟨g,row⟩:=p;cases hi;obtain⟨hro,hrl'⟩:=hpr (g,row) (List.mem_cons_self ..);have es:=h3 ps.length row μ' hro;rw[List.all_cons]at hv;have eL:kh (d+1) ps g sl row=(fj ps.length row&&((uA row).all (λx=>inG g x.1)&&(jY (jD (d+1) (bR ps (uA row)) ((uA row).map (·.2)))==sl))):=rfl;simp only at hv;rw[eL]at hv;cases hsB:fj ps.length row with
             |false=>
              rw[hsB]at es hv;have hv:VV=false:=by rw[<-hv];rfl
              subst hv;simp[es]
             |true=>
              rw[hsB]at es hv;obtain⟨sh,rfl,hsh,hne,hx⟩:=qW hsB;rw[hsh]at hv;have hok:=Tn hro hx;have hlen:sh.length<=60:=by simpa[zL]using hrl'
              have em:=h4 d ps sh μ' hm hd1 (by lia) G.rows hne hlen hok
              have ef:=vL (all:=sh.map cA) (h:=eQ 2 (aN (aC 0) (aN (aC 1) eO))) (tt:=toB (M2 (aq 0) (aq 2) (oIn true))) (fe:=aq 0) (δb:=[none,none,some (bx g)]) (p:=λd=>!inG g (bL d).1) (f:=λd=>.int (bL d).1) (μ:=μ') (sh.map cA) λx hx=>by
               obtain⟨⟨k,v⟩,_,rfl⟩:=Zq.mp hx;refine⟨[some (.int k),some (.int v),some (bx g)],by simp[cA],?_,λ_=>by simp[bL,cA]⟩
               simp[MT,bL,cA]
              have eemp:(((sh.map cA).filter λd=>!inG g (bL d).1).map λd=>D.int (bL d).1).isEmpty=sh.all (λx=>inG g x.1):=by
               have:=wz (p:=λd=>inG g (bL d).1) (q:=λd=>!inG g (bL d).1) (sh.map cA) (λ_ _=>rfl);rw[List.all_map]at this;rw[List.isEmpty_map,this];rfl
              have enr:=Gw (jY (jD (d+1) (bR ps sh) (sh.map (·.2)))) sl μ';have hz2:sh.length<=1000:=by lia
              generalize jY (jD (d+1) (bR ps sh) (sh.map (·.2)))=W at *
              generalize (((sh.map cA).filter λd=>!inG g (bL d).1).map λd=>D.int (bL d).1)=fD at *
              have hsz:(sh.map cA).length<=1000:=by simpa using hz2
              generalize sh.map cA=sD at *
              cases hin:sh.all (λx=>inG g x.1)with
              |false=>
               rw[hin]at eemp hv;have hv:VV=false:=by rw[<-hv];rfl
               subst hv;simp[es,hsz,bW,ef,eemp]
              |true=>
               rw[hin]at eemp hv;cases hw:W==sl with
               |false=>
                rw[hw]at enr hv;have hv:VV=false:=by rw[<-hv];rfl
                subst hv;simp[es,hsz,bW,ef,eemp,em,enr]
               |true=>
                rw[hw]at enr hv;simp[es,hsz,bW,ef,eemp,em,enr];refine⟨prs,rfl,by simpa using hv,λa b h=>?_⟩
                exact hpr (a,b) (ZE _ h)
           .rintro δ μ' ⟨prs,o5,o6,hi,rfl,hv,hpr,rfl⟩;cases prs with
            |cons p prs=>cases hi
            |nil=>
             have hv:true=VV:=hv;subst hv;simp
          .have hrb:((rs.length:Int)==(gss.length:Int))=false:=by
            have:(rs.length:Int)≠gss.length:=by lia
            simpa using this
           have hbb:(rs.length==gss.length)=false:=by simpa using hrl
           rw[hbb,Bool.false_and];generalize gss.map bx=gD at *
           generalize sl.getLastD 0=l at *
           generalize sl.dropLast.map D.int=iD at *
           simp[bQ,at0,wF,a0,hlb,hz,bW,ew,eall,elast,hb,einit];rw[show D.tup (List.map D.int sl)=aD sl from rfl];simp[elow,ene,elen,hgl,hrb]
         |cell n=>simp[nc,cLt]at hnr
         |ro es=>
          exact absurd rfl ((ho.2.2 _ _ rfl).2.1 es)
         |_=>
          generalize gss.map bx=gD at *
          generalize sl.getLastD 0=l at *
          generalize sl.dropLast.map D.int=iD at *
          simp[bQ,at0,wF,a0,hlb,hz,bW,ew,eall,elast,hb,einit,fZ];rw[show D.tup (List.map D.int sl)=aD sl from rfl];simp[elow,ene]
        .rw[decide_eq_false hg]at ene;rw[nospot (by
          rw[oY];unfold oK;rw[decide_eq_false_iff_not];rintro⟨_,_,_,z⟩;exact hg z)]
         generalize sl.getLastD 0=l at *
         generalize sl.dropLast.map D.int=iD at *
         simp[bQ,at0,wF,a0,hlb,hz,bW,ew,eall,elast,hb,einit];rw[show D.tup (List.map D.int sl)=aD sl from rfl];simp[elow,ene]
     .have eV:fZ (d+1) ps gss (.tup [.tup es,rows])=false:=by
       cases hV:fZ (d+1) ps gss (.tup [.tup es,rows])with
       |false=>rfl
       |true=>
        have:=(An hV gne).2;simp[spI]at this;exact absurd this hel
      have hlb:((es.length:Int)==(r0.length:Int))=false:=by
       have:(es.length:Int)≠r0.length:=by lia
       simpa using this
      rw[eV];simp[bQ,at0,wF,a0,hlb]
    |cell n=>simp[nc,cLt]at hna
    |ro es=>
     exact absurd rfl ((ho.2.2 _ _ rfl).1.1 es)
    |_=>
     have eV:∀x:D,mG x=false->fZ (d+1) ps gss (.tup [x,rows])=false:=λx hx=>by
      cases rows<;>simp[fZ,hx]
     rw[eV _ rfl];simp[bQ,at0]
  .have hlb:((ds.length:Int)==2)=false:=by
    have:(ds.length:Int)≠2:=by lia
    simpa using this
   have eV:fZ (d+1) ps gss (.tup ds)=false:=by
    match ds,hl with
    | [],_=>rfl
    | [a],_=>rfl
    |a::b::c::e,_=>cases b<;>rfl
    | [a,b],hl=>exact absurd rfl hl
   rw[eV];simp[bQ,hlb]
 |_=>simp[bQ,fZ]
theorem any_ints(μ:Mu):∀ns:List Int,rC ((ns.map D.int).map thE) μ=some (ns.any (λn=>n != 0),μ)
 | []=>rfl
 |n::ns=>by
  have ih:=any_ints μ ns;rw[Zj,Zj];unfold rC;show((uX (D.int n)).bind λk=>if k=true then some (true,μ)else rC ((ns.map D.int).map thE) μ)=_;cases h:(n != 0)with
  |true=>simp[uX,h]
  |false=>
   rw[List.map_map]at ih;simp[uX,h,ih]
theorem lF(μ:Mu):∀(ns:List Int)(a:Int),sX a ((ns.map D.int).map thE) μ=some (a+ns.sum,μ)
 | [],a=>by simp[sX]
 |n::ns,a=>by
  have ih:=lF μ ns (a+n);rw[Zj,Zj];unfold sX;show sX (a+n) ((ns.map D.int).map thE) μ=_;rw[ih,List.sum_cons,Int.add_assoc]
theorem szl(h:n<=1000):n<=sizeLine:=Zl h (by decide)
theorem Bx{α:Type}{c:Nat}{all:List D}{h:GF}{fe:EF}{δb:En}{F:α->D}{f:α->D}{μ:Mu}(hc:μ[c]? =some (some all)):∀(l:List α),(∀x∈l,∃δ1,h (F x) δb μ=some δ1/\fe δ1 μ=some (f x,μ))->lcL ⟨all,some c⟩ h aW fe δb (l.map F) μ=some (l.map f,μ)
 | [],_=>by
  have ok:Src.ok ⟨all,some c⟩ μ:=λn e=>by cases e;exact hc
  simp only[List.map_nil];unfold lcL;simp[ok]
 |d::r,hd=>by
  have ok:Src.ok ⟨all,some c⟩ μ:=λn e=>by cases e;exact hc
  obtain⟨δ1,h1,h2⟩:=hd d (by simp)
  have h3:=Bx hc r λx hx=>hd x (by simp[hx])
  rw[Zj];unfold lcL;simp[ok,h1,aW,h2,h3]
theorem Fd:∀(l:List Int),(∀z∈l,Sm b z)->l.sum.natAbs<=l.length*2 ^ b
 | [],_=>by simp
 |z::l,h=>by
  have ih:=Fd l λy hy=>h y (by simp[hy])
  have hz:z.natAbs<2 ^ b:=h z (by simp)
  rw[List.sum_cons,ZH,Nat.succ_mul];have:=Int.natAbs_add_le z l.sum;omega
theorem NT(hw:∀w∈ws,Sm a w)(hc:∀c∈cs,Sm b c)(hl:ws.length<=60):Sm (a+b+10) (dot ws cs):=by
 have h:=Fd (b:=a+b) ((ws.zip cs).map λp=>p.1*p.2) λz hz=>by
  obtain⟨⟨w,c⟩,hp,rfl⟩:=Zq.mp hz;have hm:=List.of_mem_zip hp;exact kI (hw w hm.1) (hc c hm.2)
 unfold dot;generalize ((ws.zip cs).map λp=>p.1*p.2).sum=z at *
 rw[Zu,List.length_zip]at h;unfold Sm;have:min ws.length cs.length*2 ^ (a+b)<2 ^ 10*2 ^ (a+b):=Nat.mul_lt_mul_of_pos_right (by lia) (Nat.two_pow_pos _)
 rw[<-Nat.pow_add]at this;rw[Nat.add_comm (a+b) 10]
 lia
theorem xf:∀qs:List (List Int),gG (qs.map aD)=true/\jV (qs.map aD)<=1
 | []=>⟨by simp[gG],by simp[jV]⟩
 |q::qs=>by
  obtain⟨a,b⟩:=xf qs;refine⟨?_,?_⟩
  .rw[Zj,gG,a];unfold aD;rw[dq,nR];rfl
  .rw[Zj,jV];unfold aD at *;rw[iQ,qt];lia
def LK(φ:FF):Prop:=∀(ws cs:List Int)(μ:Mu),(∀w∈ws,Sm 9000 w)->(∀c∈cs,Sm 9000 c)->φ [aD ws,aD cs] μ=some (.int (dot ws cs),μ)
theorem Qa:LK (trunc (aH 2 cG)):=λws cs μ hw hc=>by
 apply bK;have e:=vg (th:=thG (eQ 2 (aN (aC 0) (aN (aC 1) eO))) (M2 (aq 0) (aq 1) di) (bW ["one","other"] [some (aD ws),some (aD cs)] [])) (F:=λp:Int×Int=>.tup [D.int p.1,.int p.2]) (g:=λp=>p.1*p.2) (μ:=μ) (ws.zip cs) 0 λp hp=>by
  obtain⟨p1,p2⟩:=p;have hm:=List.of_mem_zip hp;have:=cX (x:=p1) (y:=p2) μ (hw _ hm.1) (hc _ hm.2) (by decide)
  simp[thG,bW,this]
 have ez:=iB (F:=D.int) (G:=D.int) ws cs;unfold dot aD;unfold aD at e;simp[cG,ez];rw[List.map_map]at e;rw[e];simp
structure SpR(d:Nat)(r:List Int):Prop where
 len:r.length=d+1
 sm:∀x∈r,Sm 9000 x
theorem SpR.ne{d:Nat}{r:List Int}(h:SpR d r):r≠[]:=λz=>by
 have:=h.len;rw[z]at this;simp at this
theorem SpR.last{d:Nat}{r:List Int}(h:SpR d r):atI (r.map D.int) (-1)=some (.int (aP r)):=oM h.ne
theorem SpR.LQ{d:Nat}{r:List Int}(h:SpR d r):Sm 9000 (aP r):=by
 apply h.sm;unfold aP;cases r with
 |nil=>exact absurd rfl h.ne
 |cons a b=>simp[List.getLastD]
def bey(ns:List Int)(m:Int)(r:List Int):Bool:=decide (m*aP r<dot ns r.dropLast)
theorem Ao:∀(ns r:List Int),r.length=ns.length+1->dot ns r=dot ns r.dropLast
 | [],r,_=>by simp[dot]
 |n::ns,[],h=>by simp at h
 |n::ns,[x],h=>by simp at h
 |n::ns,x::y::r,h=>by
  have:=Ao ns (y::r) (by simpa using h)
  rw[nU,List.dropLast_cons₂,nU,this]
def Bc(φ:FF):Prop:=∀(d:Nat)(ns:List Int)(m:Int)(r:List Int)(μ:Mu),ns.length=d->(∀n∈ns,Sm 2000 n)->Sm 2000 m->SpR d r->φ [.tup [aD ns,.int m],aD r] μ=some (.bl (bey ns m r),μ)
theorem Jf{φ:FF}(hφ:LK φ):Bc (trunc (aH 4 (jJ φ))):=λd ns m r μ hl hn hm hr=>by
 apply bK;have e1:=hφ ns r.dropLast μ (λw h=>bu (hn w h) (by decide)) λc h=>hr.sm c ((List.dropLast_sublist _).mem h)
 have e2:oSl (aD r) none (some (-1)) μ=some (aD r.dropLast,μ):=by
  have:=yS (ds:=r.map D.int) (μ:=μ) (λz=>hr.ne (by simpa using z))
  rw[<-List.map_dropLast]at this;exact this
 have e3:oIx (aD r) (.int (-1)) μ=some (.int (aP r),μ):=by
  unfold aD;rw[wJ];simp[hr.last]
 have e4:=cX (x:=m) (y:=aP r) μ hm hr.LQ (by decide)
 unfold bey;generalize aD r.dropLast=RD at *
 generalize aD r=R at *
 generalize aD ns=N at *
 generalize aP r=b at *
 generalize dot ns r.dropLast=S at *
 simp[jJ,e1,e2,e3,e4,-wJ]
def wallB(d:Nat):D->Bool
 | .tup [.tup ds,.int _]=>ds.all isInt&&(ds.length==d&&(ds.map oH).any (λn=>n != 0))
 |_=>false
def ThW(t:D):Prop:=nc t/\∀ds m,t= .tup [.tup ds,.int m]->(∀i,D.int i∈ds->Sm 2000 i)/\Sm 2000 m
def gA(d:Nat):D->Bool
 | .tup [.tup ds,.int _]=>ds.all isInt&&ds.length==d
 |_=>false
theorem zJ{d:Nat}{t:D}(h:¬ ∃a b,t= .tup [a,b]):gA d t=false:=by
 unfold gA;split
 .exact absurd ⟨_,_,rfl⟩ h
 .rfl
theorem Rr{d:Nat}{t:D}(h:gA d t=true):∃(ns:List Int)(m:Int),t= .tup [aD ns,.int m]/\ns.length=d:=by
 unfold gA at h;split at h
 .rename_i ds m;simp only[Zo,beq_iff_eq]at h;refine⟨ds.map oH,m,?_,by simpa using h.2⟩
  unfold aD;rw[<-qI h.1]
 .cases h
theorem QC{φ1 φ2 φ3:FF}(h1:Ea φ1)(h2:yF φ2)(h3:ug φ3)(d:Nat)(t:D)(μ:Mu)(hn:nc t):trunc (aH 4 (mq φ1 φ2 φ3)) [.int d,t] μ=some (.bl (gA d t),μ):=by
 apply bK;unfold mq;have e1:=h1 2 t μ hn;by_cases hp:∃a b,t= .tup [a,b]
 .obtain⟨a,b,rfl⟩:=hp;have na:nc a:=cB.mp hn a (by simp)
  have nb:nc b:=cB.mp hn b (by simp)
  have e2:=h2 a μ na;have e3:=h3 b μ nb;have e1:φ1 [.int 2,.tup [a,b]] μ=some (.bl true,μ):=e1;cases a with
  |tup ds=>
   have ei:qg (.tup ds)=ds.all isInt:=rfl;rw[ei]at e2;have el:((ds.length:Int)==(d:Int))=(ds.length==d):=by
    by_cases h:ds.length=d
    .simp[h]
    .have:¬(ds.length:Int)=d:=by omega +splitMinMax
     rw[ZM.mpr this,ZM.mpr h]
   have ev:gA d (.tup [.tup ds,b])=(ds.all isInt&&((ds.length==d)&&isInt b)):=by
    cases (b)<;>simp[gA,isInt]
   rw[ev];generalize (ds.length==d)=B at *
   generalize hl:(ds.length:Int)=l at *
   generalize ds.all isInt=A at *
   generalize isInt b=C at *
   cases (A)<;>cases (B)<;>simp[e1,e2,e3,hl,el]
  |_=>
   have e2:φ2 [_] μ=some (.bl false,μ):=e2;simp[e1,e2,gA]
 .have e1:φ1 [.int 2,t] μ=some (.bl false,μ):=by
   rw[e1];congr 3
   cases t with
   |tup ds=>
    match ds,hp with
    | [],_=>rfl
    | [a],_=>rfl
    | [a,b],hp=>exact absurd ⟨a,b,rfl⟩ hp
    |a::b::c::r,_=>
     unfold uy;simp;omega +splitMinMax
   |_=>rfl
  rw[zJ hp];simp[e1]
def yC(φ:FF):Prop:=∀(d:Nat)(ns r:List Int)(μ:Mu),d<=9->ns.length=d->(∀n∈ns,Sm 2000 n)->SpR d r->φ [aD ns,aD r] μ=some (.tup [.int (dot ns r.dropLast),.int (aP r)],μ)
theorem QK:yC (trunc (aH 2 tH)):=λd ns r μ d9 hl hn hr=>by
 apply bK;have ez:=iB (F:=D.int) (G:=D.int) ns r;have ec:=cj (all:=jZ (ns.map D.int) (r.map D.int)) (h:=eQ 2 (aN (aC 0) (aN (aC 1) (eO)))) (fe:=M2 (aq 0) (aq 1) di) (δb:=[none,none]) (F:=λp:Int×Int=>D.tup [.int p.1,.int p.2]) (f:=λp=>D.int (p.1*p.2)) (μ:=μ) (ns.zip r) λp hp=>by
  obtain⟨p1,p2⟩:=p;have hm:=List.of_mem_zip hp;have:=cX (x:=p1) (y:=p2) μ (hn _ hm.1) (hr.sm _ hm.2) (by decide)
  exact⟨[some (.int p1),some (.int p2)],by simp,by simp[this]⟩
 rw[<-ez]at ec;have es:=lF μ ((ns.zip r).map λp=>p.1*p.2) 0;have ed:((ns.zip r).map λp=>p.1*p.2).sum=dot ns r.dropLast:=Ao ns r (by rw[hr.len,hl])
 rw[ed,Int.zero_add]at es;have e3:oIx (aD r) (.int (-1)) μ=some (.int (aP r),μ):=by
  unfold aD;rw[wJ];simp[hr.last]
 have f1:fJ (aD ns)=some (ns.map D.int):=rfl;have f2:fJ (aD r)=some (r.map D.int):=rfl;have fm:(ns.zip r).map (λp=>D.int (p.1*p.2))=((ns.zip r).map λp=>p.1*p.2).map D.int:=by simp
 rw[fm]at ec;have zz:(jZ (ns.map D.int) (r.map D.int)).length<=1000:=by rw[ez];simp;lia
 generalize ((ns.zip r).map λp=>p.1*p.2).map D.int=M at *
 generalize aD ns=N at *
 generalize aD r=R at *
 generalize dot ns r.dropLast=S at *
 generalize aP r=b at *
 unfold tH;simp[f1,f2,zz,bW,ec,es,e3,-wJ]
def Fi(φ:FF):Prop:=∀(m S b:Int)(μ:Mu),Sm 2000 m->Sm 9000 b->Sm 20000 S->φ [.tup [.int m,.int 1],.tup [.int S,.int b]] μ=some (.bl (decide (m*b<S)),μ)
theorem My:Fi (trunc (aH 2 nT)):=λm S b μ hm hb hS=>by
 apply bK;have e1:=cX (x:=m) (y:=b) μ hm hb (by decide)
 have e2:=cX (x:=S) (y:=1) (b:=1) μ hS (by unfold Sm;decide) (by decide)
 rw[Int.mul_one]at e2;have a0:∀x y:D,atI [x,y] 0=some x:=λ_ _=>rfl;have a1:∀x y:D,atI [x,y] 1=some y:=λ_ _=>rfl;unfold nT;simp[e1,e2,a0,a1]
theorem yq:∀(ns:List Int)(k:Nat),(∀n∈ns,Sm k n)->Sm (k+ns.length) ns.sum
 | [],k,_=>by unfold Sm;exact Nat.pos_of_ne_zero (by simp)
 |n::ns,k,h=>by
  have h1:=yq ns k λx hx=>h x (by simp[hx])
  rw[List.sum_cons,ZH];exact Dy (bu (h n (by simp)) (Nat.le_add_right _ _)) h1
theorem Rv{ns r:List Int}{d:Nat}(hl:ns.length=d)(hn:∀n∈ns,Sm 2000 n)(hr:SpR d r)(hd:d<=9):Sm 20000 (dot ns r.dropLast):=by
 unfold dot;have:=yq ((ns.zip r.dropLast).map λp=>p.1*p.2) 11000 λx hx=>by
  obtain⟨p,hp,rfl⟩:=Zq.mp hx;have hm:=List.of_mem_zip (a:=p.1) (b:=p.2) hp;exact kI (a:=2000) (b:=9000) (hn _ hm.1) (hr.sm _ ((List.dropLast_sublist _).mem hm.2))
 refine bu this ?_;simp
 lia
def vY(φ:FF):Prop:=∀(d:Nat)(ns:List Int)(m:Int)(ps:List (List Int))(μ:Mu),d<=9->ns.length=d->(∀n∈ns,Sm 2000 n)->Sm 2000 m->(∀p∈ps,SpR d p)->ps.length<=60->φ [.tup [aD ns,.int m],.lst (ps.map aD)] μ=some (.bl (!ps.any (bey ns m)),μ)
theorem behind_of{φ1 φ2:FF}(h1:yC φ1)(h2:Fi φ2):vY (trunc (aH 2 (oG φ1 φ2))):=λd ns m ps μ d9 hl hn hm hp hpl=>by
 apply bK;have a0:∀x y:D,atI [x,y] 0=some x:=λ_ _=>rfl;have a1:∀x y:D,atI [x,y] 1=some y:=λ_ _=>rfl;have ec:=cj (all:=ps.map aD) (h:=aC 0) (fe:=MC (ao (MC (ao (M2 (aq 1) (mC (.int 1)) oIx) (ao (mC (.int 1)) (az))) bz) (ao (MC (ao (M2 (aq 1) (mC (.int 0)) oIx) (ao (aq 0) (az))) φ1) (az))) φ2) (δb:=[none,some (.tup [aD ns,.int m])]) (F:=aD) (f:=λp=>D.bl (bey ns m p)) (μ:=μ) ps λp hpm=>by
  have hr:=hp p hpm;have e1:=h1 d ns p μ d9 hl hn hr;have e2:=h2 m (dot ns p.dropLast) (aP p) μ hm hr.LQ (Rv hl hn hr d9);refine⟨[some (aD p),some (.tup [aD ns,.int m])],by simp,?_⟩
  unfold bey;generalize aD p=P at *
  generalize aD ns=N at *
  simp[e1,e2,a0,a1]
 have ea:rC ((ps.map λp=>D.bl (bey ns m p)).map thE) μ=some (ps.any (bey ns m),μ):=by
  have:=Cj (th:=thE) (p:=λd=>match d with| .bl k=>k|_=>false) (μ:=μ) (ps.map λp=>D.bl (bey ns m p)) λd hd=>by
   obtain⟨q,hq,rfl⟩:=Zq.mp hd;rfl
  rw[this,List.any_map];rfl
 have zz:(ps.map aD).length<=1000:=by simp;lia
 generalize ps.any (bey ns m)=A at *
 generalize (ps.map λp=>D.bl (bey ns m p))=M at *
 generalize D.tup [aD ns,.int m]=W at *
 generalize ps.map aD=PD at *
 unfold oG;simp[zz,bW,ec,ea]
theorem Nz{μ:Mu}(ds:List D)(f:D->Bool):vM ((ds.map λd=>D.bl (f d)).map thE) μ=some (ds.all f,μ):=by
 have:=jU (th:=thE) (p:=λd=>match d with| .bl k=>k|_=>false) (μ:=μ) (ds.map λp=>D.bl (f p)) λd hd=>by
  obtain⟨q,hq,rfl⟩:=Zq.mp hd;rfl
 rw[this,List.all_map];rfl
theorem PL{φ:FF}(hφ:ug φ)(d:Nat)(t:D)(μ:Mu)(hn:nc t)(hl:∀a b,t= .tup [.tup a,b]->a.length<=1000):trunc (aH 2 (my φ)) [.int d,t] μ=some (.bl (gA d t),μ):=by
 apply bK;unfold my;by_cases hp:∃a b,t= .tup [a,b]
 .obtain⟨a,b,rfl⟩:=hp;have na:nc a:=cB.mp hn a (by simp)
  have nb:nc b:=cB.mp hn b (by simp)
  have e3:=hφ b μ nb;have a0:∀x y:D,atI [x,y] 0=some x:=λ_ _=>rfl;have a1:∀x y:D,atI [x,y] 1=some y:=λ_ _=>rfl;have ev:gA d (.tup [a,b])=(isInt b&&gA d (.tup [a,.int 0])):=by
   cases b<;>simp[gA,isInt];cases a<;>simp[gA]
  rw[ev];generalize isInt b=C at *
  cases C with
  |false=>simp[e3,a0,a1]
  |true=>
   cases a with
   |tup ds=>
    have ea:=Nz (μ:=μ) ds isInt;have ec:=rW (all:=ds) (h:=aC 0) (fe:=MC (ao (aq 0) (az)) φ) (δb:=[none]) (f:=λd=>D.bl (isInt d)) (μ:=μ) ds λx hx=>⟨[some x],by simp,by simp[hφ x μ (cB.mp na x hx)]⟩
    have zz:=hl ds b rfl;have el:((ds.length:Int)==(d:Int))=(ds.length==d):=by
     by_cases h:ds.length=d
     .simp[h]
     .have:¬(ds.length:Int)=d:=by lia
      rw[ZM.mpr this,ZM.mpr h]
    have ev:gA d (.tup [.tup ds,.int 0])=(ds.all isInt&&(ds.length==d)):=rfl;rw[ev];generalize (ds.length==d)=B at *
    generalize hlen:(ds.length:Int)=l at *
    generalize ds.all isInt=A at *
    generalize (ds.map λd=>D.bl (isInt d))=BM at *
    cases B with
    |false=>simp[e3,a0,a1,hlen,el]
    |true=>simp[e3,a0,a1,hlen,el,zz,bW,ec,ea]
   |cell n=>exact absurd na (by simp[nc,cLt])
   |ro ds=>simp[e3,a0,a1,gA,gF,wO]
   |_=>simp[e3,a0,a1,gA]
 .rw[zJ hp];cases t with
  |tup ds=>
   have hl2:¬(ds.length:Int)=2:=λz=>by
    match ds,hp,z with
    | [a,b],hp,_=>exact hp ⟨a,b,rfl⟩
    | [],_,z=>simp at z
    | [a],_,z=>simp at z
    |a::b::c::r,_,z=>simp at z;lia
   have hl3:((ds.length:Int)==2)=false:=ZM.mpr hl2;generalize hlen:(ds.length:Int)=l at *
   simp[hlen,hl3]
  |cell n=>exact absurd hn (by simp[nc,cLt])
  |ro ds=>simp[gF,wO]
  |_=>simp
theorem Aa{d:Nat}:∀(ps0:List D),(∀p∈ps0,uz d p)->∃ps:List (List Int),ps0=ps.map aD/\∀p∈ps,jj (d+1) p
 | [],_=>⟨[],rfl,by simp⟩
 |p::ps0,h=>by
  obtain⟨ps,e,hp⟩:=Aa ps0 λq hq=>h q (by simp[hq])
  obtain⟨ns,b,rfl,h1,h2⟩:=h p (by simp)
  refine⟨(ns++[b])::ps,by rw[e];rfl,λq hq=>?_⟩
  rcases Zi.mp hq with z|z
  .rw[z];exact PtL.row h1
  .exact hp q z
def ThV(t:D):Prop:=ThW t/\∀a b,t= .tup [.tup a,b]->a.length<=1000
theorem thvN(h:nc t)(k:∀a b,t≠ .tup [.tup a,b]):ThV t:=⟨⟨h,λds m e=>absurd e (k _ _)⟩,λa b e=>absurd e (k _ _)⟩
theorem XD(ns:List Int)(hs:∀n∈ns,Sm 21 n)(all:List D)(μ:Mu):lcL ⟨all,none⟩ (aC 0) aW (M2 (aq 0) (aq 0) di) [none] (ns.map D.int) μ=some ((ns.map λn=>n*n).map D.int,μ):=by
 rw[List.map_map];refine cj (F:=D.int) ns λn hn=>?_;have em:=cX (x:=n) (y:=n) (a:=21) (b:=21) μ (hs n hn) (hs n hn) (by decide)
 exact⟨[some (.int n)],by simp,by simp[em]⟩
theorem Ey:∀(ns:List Int),0<=(ns.map λn=>n*n).sum
 | []=>by simp
 |n::ns=>by
  have:=Ey ns;have h2:0<=n*n:=by
   rcases Int.le_total 0 n with h|h
   .exact Int.mul_nonneg h h
   .exact Int.mul_nonneg_of_nonpos_of_nonpos h h
  simp only[Zj,List.sum_cons]
  lia
theorem pX:∀(l:List Int),l≠[]->nW l∈l
 | [],h=>absurd rfl h
 | [a],_=>by simp[nW]
 |a::b::l,_=>by
  unfold nW;have:=pX (b::l) (by simp)
  by_cases hab:a<=nW (b::l)
  .rw[Int.max_eq_right hab];exact ZE _ this
  .rw[Int.max_eq_left (by lia)];simp
def tr1F(r:List D×Mu):Option (D×Mu):=match r.1 with
 | [.int j]=>if -(2 ^ 62)<=j/\j<2 ^ 62/\j.toNat<=sizeLine then some (.tup (cW 0 j.toNat),r.2)else none
 |_=>none
def Xq(r:List D×Mu):Option (D×Mu):=match r.1 with
 | [.int i,.int j]=>if(-(2 ^ 62)<=i/\i<2 ^ 62/\ -(2 ^ 62)<=j/\j<2 ^ 62)/\(j-i).toNat<=sizeLine then some (.tup (cW i (j-i).toNat),r.2)else none
 |_=>none
theorem QZ:vP fs δ μ=(fs δ μ).bind Xq:=rfl
def wI(i:Int)(n:Nat):List Int:=(List.range n).map λ(k:Nat)=>i+(k:Int)
theorem Wo(h0:0<=i)(h1:i<=j)(h2:j<=1000):Xq ([.int i,.int j],μ)=some (bx (wI i (j-i).toNat),μ):=by
 show(if(-(2 ^ 62)<=i/\i<2 ^ 62/\ -(2 ^ 62)<=j/\j<2 ^ 62)/\(j-i).toNat<=sizeLine then some (D.tup (cW i (j-i).toNat),μ)else none)=_;rw[if_pos ⟨⟨by lia,by lia,by lia,by lia⟩,szl (by lia)⟩]
 unfold bx cW wI;rw[List.map_map];rfl
theorem wW{α:Type}{th:D->gH}{F:α->D}{p:α->Bool}{μ:Mu}:∀(l:List α),(∀x∈l,th (F x) μ=some (.bl (p x),μ))->vM ((l.map F).map th) μ=some (l.all p,μ)
 | [],_=>rfl
 |d::ds,h=>by
  rw[Zj,Zj];unfold vM;rw[h d (by simp)]
  have ih:=wW ds λx hx=>h x (by simp[hx])
  rw[List.map_map]at ih;cases hp:p d<;>simp[hp,uX,ih]
theorem xm{α:Type}{F:α->D}{P:α->Bool}{μ:Mu}{h:GF}{fe:EF}{δ1:En}:∀(l:List α),(∀x∈l,∃δ2,h (F x) δ1 μ=some δ2/\fe δ2 μ=some (.bl (P x),μ))->∃ts,oN μ h aW fe δ1 (l.map F)=some ts/\∀us,rC (ts++us) μ=if l.any P=true then some (true,μ)else rC us μ
 | [],_=>⟨[],rfl,λus=>by simp⟩
 |x::l,hx=>by
  obtain⟨δ2,e1,e2⟩:=hx x (by simp)
  obtain⟨ts,e3,h3⟩:=xm l λy hy=>hx y (by simp[hy])
  refine⟨thP μ fe δ2::ts,?_,λus=>?_⟩
  .rw[Zj];unfold oN;rw[e1];simp[aW,e3]
  .have et:thP μ fe δ2 μ=some (.bl (P x),μ):=by
    unfold thP;simp[e2]
   rw[List.cons_append]
   conv=>lhs;unfold rC
   rw[et];cases hp:P x with
   |true=>simp[uX,hp]
   |false=>simp[uX,hp,h3]
theorem yc{α β:Type}{G:β->D}{F:α->D}{xs:β->List α}{P:β->α->Bool}{μ:Mu}{h1 h2:GF}{fi2:IF}{fe:EF}{δb:En}:∀(l:List β),(∀y∈l,∃δ1,h1 (G y) δb μ=some δ1/\fi2 δ1 μ=some (⟨(xs y).map F,none⟩,μ)/\∀x∈xs y,∃δ2,h2 (F x) δ1 μ=some δ2/\fe δ2 μ=some (.bl (P y x),μ))->∃ts,lw μ h1 aW fi2 h2 aW fe δb (l.map G)=some ts/\rC ts μ=some (l.any λy=>(xs y).any (P y),μ)
 | [],_=>⟨[],rfl,rfl⟩
 |y::l,hy=>by
  obtain⟨δ1,e1,e2,e3⟩:=hy y (by simp)
  obtain⟨ts,e4,h4⟩:=xm (xs y) e3;obtain⟨us,e5,h5⟩:=yc l λz hz=>hy z (by simp[hz])
  refine⟨ts++us,?_,?_⟩
  .rw[Zj];unfold lw;rw[e1];simp[aW,e2,e4,e5]
  .rw[h4,h5,List.any_cons];cases (xs y).any (P y)<;>simp
def cV(w:List Int×Int):D:=.tup [aD w.1,.int w.2]
def fG:D->List Int×Int
 | .tup [.tup ds,.int m]=>(ds.map oH,m)
 |_=>([],0)
def Hy(d:Nat)(w:List Int×Int):Prop:=w.1.length=d/\(∀n∈w.1,Sm 2000 n)/\Sm 2000 w.2
def Vv(t:D):Prop:=nc t/\∀ds,t= .tup ds->ds.length<=60/\∀d∈ds,ThV d
def qM(ws:List (List Int×Int))(k:Nat):Int:=(ws.map λw=>w.1.getD k 0).sum
def iK(ws:List (List Int×Int)):Int:=(ws.map λw=>w.2).sum
def czB(d:Nat)(ws:List (List Int×Int)):Bool:=(List.range d).all λk=>qM ws k==0
def atP(ps:List (List Int))(g:List Int):List (List Int):=g.map λk=>ps.getD k.toNat []
def sI(ps:List (List Int))(p:List Int×(List Int×Int)):Bool:=!(atP ps p.1).any (bey p.2.1 p.2.2)
def apB(d:Nat)(ps gs:List (List Int)):D->Bool
 | .tup ds=>ds.length==gs.length&&(ds.all (gA d)&&(czB d (ds.map fG)&&(decide (iK (ds.map fG)<0)&&(gs.zip (ds.map fG)).all (sI ps))))
 |_=>false
structure Nt(d:Nat)(ps gs:List (List Int)):Prop where
 d1:1<=d
 d9:d<=9
 ne:ps≠[]
 rows:∀p∈ps,SpR d p
 gne:gs≠[]
 gl:gs.length<=60
 grp:∀g∈gs,g.length<=60/\∀k∈g,0<=k/\k<ps.length
theorem xK{d:Nat}{ds:List D}(h:ds.all (gA d)=true)(hv:∀t∈ds,ThV t):ds=(ds.map fG).map cV/\∀w∈ds.map fG,Hy d w:=by
 have key:∀t∈ds,cV (fG t)=t/\Hy d (fG t):=λt ht=>by
  obtain⟨ns,m,rfl,hl⟩:=Rr (List.all_eq_true.mp h t ht);obtain⟨q1,q2⟩:=(hv _ ht).1.2 _ _ rfl;have e:fG (.tup [aD ns,.int m])=(ns,m):=by
   show((ns.map D.int).map oH,m)=_;rw[oR]
  rw[e];exact⟨rfl,hl,λn hn=>q1 n (Zq.mpr ⟨n,hn,rfl⟩),q2⟩
 refine⟨?_,λw hw=>?_⟩
 .rw[List.map_map]
  conv=>lhs;rw[<-List.map_id ds]
  exact List.map_congr_left λt ht=>((key t ht).1).symm
 .obtain⟨t,ht,rfl⟩:=Zq.mp hw;exact(key t ht).2
theorem Py(h:∀r∈rs,SpR d r)(hi:i<d+1):∀c∈col rs i,Sm 9000 c:=λc hc=>by
 unfold col at hc;obtain⟨r,hr,rfl⟩:=Zq.mp hc;apply (h r hr).sm;have:=(h r hr).len;rw[List.getD_eq_getElem?_getD,List.getElem?_eq_getElem (by lia)]
 exact List.getElem_mem _
def Cy(φ:FF):Prop:=∀(d:Nat)(rs:List (List Int))(ws:List Int)(μ:Mu),d<=9->rs≠[]->rs.length<=60->(∀r∈rs,SpR d r)->(∀w∈ws,Sm 9000 w)->φ [.lst (rs.map aD),.lst (ws.map .int)] μ=some (.lst (((List.range (d+1)).map λi=>dot ws (col rs i)).map .int),μ)
theorem Ay(hφ:Cg φ)(hr:∀r∈rs,SpR d r)(hz1:rs.length<=1000)(hw:∀w∈ws,Sm 9000 w)(i:Nat)(hi:i<d+1):
  MC (ao (aq 1) (ao (mFz (lLC ["row"] [0] (cR (aq 2)) (aC 0) (aW) (M2 (aq 0) (aq 1) oIx))) (az))) φ [some (.int (0+(i:Int))),some (.lst (ws.map .int)),some (.lst (rs.map aD))] μ=some (.int (dot ws (col rs i)),μ):=by
 have e1:=cj (all:=rs.map aD) (h:=aC 0) (fe:=M2 (aq 0) (aq 1) oIx) (δb:=[none,some (.int (0+(i:Int)))]) (F:=aD) (f:=λr=>.int (r.getD i 0)) (μ:=μ) rs λr h=>⟨_,rfl,by
  have hk:((0:Int)+i)<r.length:=by have:=(hr r h).len;lia
  obtain⟨a1,_⟩:=fH (ys:=r) (k:=0+(i:Int)) (by lia) hk
  have:(0+(i:Int)).toNat=i:=by lia
  rw[this]at a1;generalize r.getD i 0=z at *
  generalize (0+(i:Int))=j at *
  simp[a1]⟩
 have e1':rs.map (λr=>D.int (r.getD i 0))=(col rs i).map D.int:=by unfold col;simp
 rw[e1']at e1;have e2:=hφ ws (col rs i) μ hw (Py hr hi);generalize (col rs i).map D.int=cD at *
 generalize dot ws (col rs i)=z at *
 generalize (0+(i:Int))=j at *
 simp[hz1,bW,e1,e2]
theorem HY(hφ:Cg φ):Cy (trunc (aH 2 (je φ))):=λd rs ws μ hd hne hl hr hw=>by
 apply bK;have hz1:rs.length<=1000:=by omega +splitMinMax
 have e3:=cj (all:=cW 0 (d+1)) (h:=aC 0) (fe:=MC (ao (aq 1) (ao (mFz (lLC ["row"] [0] (cR (aq 2)) (aC 0) (aW) (M2 (aq 0) (aq 1) oIx))) (az))) φ) (δb:=bW ["at"] [some (.lst (rs.map aD)),some (.lst (ws.map .int))] [1,0]) (F:=λi:Nat=>D.int (0+(i:Int))) (f:=λi=>.int (dot ws (col rs i))) (μ:=μ) (List.range (d+1)) λi hi=>
  ⟨[some (.int (0+(i:Int))),some (.lst (ws.map .int)),some (.lst (rs.map aD))],by simp[bW],Ay hφ hr hz1 hw i (List.mem_range.mp hi)⟩
 have e3':(List.range (d+1)).map (λi=>D.int (dot ws (col rs i)))=((List.range (d+1)).map λi=>dot ws (col rs i)).map D.int:=by simp
 rw[e3']at e3;have er:(List.range (d+1)).map (λi:Nat=>D.int (0+(i:Int)))=cW 0 (d+1):=rfl;rw[er]at e3;have h0:∃r0,atI (rs.map aD) 0=some (aD r0)/\r0∈rs:=by
  obtain⟨a,b⟩:=ji (F:=aD) (l:=rs) (k:=0) (z:=[]) (by decide) (by have:=List.length_pos_iff.mpr hne;omega +splitMinMax)
  exact⟨_,a,b⟩
 obtain⟨r0,a0,hr0⟩:=h0;have hlen0:=(hr r0 hr0).len;generalize ((List.range (d+1)).map λi=>dot ws (col rs i)).map D.int=wD at *
 have it:bY (ao (MC (ao (M2 (aq 0) (mC (.int 0)) oIx) (az)) (aO bU)) (az)) [some (.lst (rs.map aD)),some (.lst (ws.map .int))] μ=some (⟨cW 0 (d+1),none⟩,μ):=by
  have:=DN (k:=((d+1:Nat):Int)) (by omega +splitMinMax) (by omega +splitMinMax) (DQ (F:=M2 (aq 0) (mC (.int 0)) oIx) (δ:=[some (.lst (rs.map aD)),some (.lst (ws.map .int))]) (μ:=μ) hlen0 (by simp[a0]))
  rwa[show(((d+1:Nat):Int)).toNat=d+1 by omega +splitMinMax]at this
 have hz2:(cW 0 (d+1)).length<=sizeLine:=by rw[ir];exact Zl (by omega +splitMinMax:_<=1000) (by decide)
 unfold je;generalize bY (ao (MC (ao (M2 (aq 0) (mC (.int 0)) oIx) (az)) (aO bU)) (az))=IT at it ⊢;simp[it,hz2,e3]
def rY(w:List Int×Int):List Int:=w.1++[w.2]
theorem Cp:∀(xs:List Int),dot (List.replicate xs.length 1) xs=xs.sum
 | []=>rfl
 |x::xs=>by
  rw[ZH,List.replicate_succ,nU,Cp xs,List.sum_cons,Int.one_mul]
theorem VN(h:∀w∈ws,Hy d w):(List.range (d+1)).map (λi=>dot (List.replicate ws.length 1) (col (ws.map rY) i))=(List.range d).map (qM ws)++[iK ws]:=by
 have e:∀i,dot (List.replicate ws.length 1) (col (ws.map rY) i)=(col (ws.map rY) i).sum:=λi=>by
  have:=Cp (col (ws.map rY) i)
  rwa[show(col (ws.map rY) i).length=ws.length by unfold col;simp]at this
 rw[List.range_succ,List.map_append];congr 1
 .refine List.map_congr_left λi hi=>?_;rw[e];unfold qM col;rw[List.map_map];congr 1
  refine List.map_congr_left λw hw=>?_;have:=(h w hw).1;have hi:=List.mem_range.mp hi;show(w.1++[w.2]).getD i 0=_;rw[List.getD_eq_getElem?_getD,List.getD_eq_getElem?_getD,Zs (by lia)]
 .show [dot (List.replicate ws.length 1) (col (ws.map rY) d)]=_;rw[e];unfold iK col;rw[List.map_map];congr 2
  refine List.map_congr_left λw hw=>?_;have:=(h w hw).1;show(w.1++[w.2]).getD d 0=_;rw[List.getD_eq_getElem?_getD,List.getElem?_append_right (by lia),this]
  simp
theorem Oq(h:Hy d w):SpR d (rY w):=⟨by unfold rY;simp[h.1],λx hx=>by
 rcases Zm.mp hx with z|z
 .exact bu (h.2.1 x z) (by decide)
 .rw[ZI.mp z];exact bu h.2.2 (by decide)⟩
theorem Iw(h:ds≠[]):oSl (.lst ds) none (some (-1)) μ=some (.lst ds.dropLast,μ):=by
 have h:=yS (μ:=μ) h;have e:L3.rQ ds none (some (-1))=ds.dropLast:=by injection h with h;injection h with h _;injection h
 show some (D.lst (L3.rQ ds none (some (-1))),μ)=_;rw[e]
def Jy(φ:FF):Prop:=∀(d:Nat)(ws:List (List Int×Int))(μ:Mu),d<=9->ws≠[]->ws.length<=60->(∀w∈ws,Hy d w)->φ [.tup (ws.map cV)] μ=some (.bl (czB d ws&&decide (iK ws<0)),μ)
theorem part_of(hφ:Cy φ):Jy (trunc (aH 2 (kJ φ))):=λd ws μ hd hne hl hw=>by
 apply bK;have e1:=cj (all:=ws.map cV) (h:=eQ 2 (aN (aC 0) (aN (aC 1) (eO)))) (fe:=MC (Bm (aq 0) (ao (aq 1) (az))) bz) (δb:=[none,none]) (F:=cV) (f:=λw=>aD (rY w)) (μ:=μ) ws λw hwm=>by
  refine⟨[some (aD w.1),some (.int w.2)],by simp[cV],?_⟩
  have hz:w.1.length+1<=sizeLine:=szl (by have:=(hw w hwm).1;lia)
  unfold rY aD;simp[Bm,dB,hz]
 have e1':ws.map (λw=>aD (rY w))=(ws.map rY).map aD:=by simp
 rw[e1']at e1;obtain⟨wl,hwl⟩:∃z:Int,z=ws.length:=⟨_,rfl⟩;have e2:=mulL (ds:=[.int 1]) (k:=wl) (μ:=μ) (by lia) (by lia) (by
  show 1*wl.toNat<=1000
  lia)
 have e2':(List.replicate wl.toNat [D.int 1]).flatten=(List.replicate ws.length (1:Int)).map D.int:=by
  rw[show wl.toNat=ws.length by lia]
  simp
 rw[e2']at e2;have e3:=hφ d (ws.map rY) (List.replicate ws.length 1) μ hd (by simpa using hne) (by simpa using hl) (λr hr=>by
  obtain⟨w,hwm,rfl⟩:=Zq.mp hr;exact Oq (hw w hwm)) (λx hx=>by rw[List.eq_of_mem_replicate hx];unfold Sm;decide)
 rw[VN hw]at e3;have e4:oSl (.lst (((List.range d).map (qM ws)++[iK ws]).map D.int)) none (some (-1)) μ=some (.lst (((List.range d).map (qM ws)).map D.int),μ):=by
  have:=Iw (ds:=((List.range d).map (qM ws)++[iK ws]).map D.int) (μ:=μ) (by simp)
  rw[this,<-List.map_dropLast,List.dropLast_concat]
 have e5:=any_ints μ ((List.range d).map (qM ws));have e5':((List.range d).map (qM ws)).any (λn=>n != 0)= !czB d ws:=by
  unfold czB;rw[List.any_map,List.not_all_eq_any_not];rfl
 rw[e5']at e5;have e6:atI (((List.range d).map (qM ws)++[iK ws]).map D.int) (-1)=some (.int (iK ws)):=by
  have:=oM (ns:=(List.range d).map (qM ws)++[iK ws]) (by simp)
  rw[this];simp
 have zz:(ws.map cV).length<=1000:=by simp;lia
 have elen:(((ws.map cV).length:Nat):Int)=wl:=by rw[Zu,hwl]
 generalize ((List.range d).map (qM ws)++[iK ws]).map D.int=TG at *
 generalize ((List.range d).map (qM ws)).map D.int=TI at *
 generalize (List.replicate ws.length (1:Int)).map D.int=ON at *
 generalize (ws.map rY).map aD=RW at *
 generalize ws.map cV=WD at *
 generalize iK ws=la at *
 generalize czB d ws=cz at *
 unfold kJ;cases cz<;>simp[zz,bW,e1,e2,elen,e3,e4,e5,e6]
theorem Vi:yD own capI fi1 h1 tt1 fi2 h2 tt2 fe δ μ=(fi1 δ μ).bind λr=>match r.1.cel with
 |none=>(lw r.2 h1 tt1 fi2 h2 tt2 fe (bW own δ capI) r.1.items).bind λts=>some (ts,r.2)
 |some _=>none:=rfl
def uG(φ:FF):Prop:=∀(d:Nat)(ps gs:List (List Int))(t:D)(μ:Mu),Nt d ps gs->Vv t->φ [.lst (ps.map aD),.lst (gs.map bx),t] μ=some (.bl (apB d ps gs t),μ)
def Ro(φ:FF):Prop:=∀(d:Nat)(t:D)(μ:Mu),nc t->φ [.int d,t] μ=some (.bl (gA d t),μ)
def FQ(φ:FF):Prop:=∀(d:Nat)(t:D)(μ:Mu),nc t->(∀a b,t= .tup [.tup a,b]->a.length<=1000)->φ [.int d,t] μ=some (.bl (gA d t),μ)
theorem HQ(ps:List (List Int))(l:List (List Int×(List Int×Int))):(!l.any λp=>p.1.any λk=>bey p.2.1 p.2.2 (ps.getD k.toNat []))=l.all (sI ps):=by
 rw[List.not_any_eq_all_not];congr 1
 funext p
 unfold sI atP;rw[List.any_map];rfl
theorem Cr(G:Nt d ps gs):∃p0,atI (ps.map aD) 0=some (aD p0)/\∀μ,bU (aD p0) μ=some (.int ((d:Int)+1),μ):=by
 obtain⟨a,b⟩:=ji (F:=aD) (l:=ps) (k:=0) (z:=[]) (by decide) (by have:=List.length_pos_iff.mpr G.ne;lia)
 refine⟨_,a,λμ=>?_⟩;have h:=(G.rows _ b).len;generalize ps.getD (0:Int).toNat []=r at *
 show some (D.int ((r.map D.int).length:Int),μ)=_;rw[show((r.map D.int).length:Int)=(d:Int)+1 by rw[Zu,h];lia]
theorem Kl{φ1 φ2 φ3 φ4:FF}(h1:Ea φ1)(h2:Ro φ2)(h3:Jy φ3)(h4:Bc φ4):uG (trunc (aH 4 (iI φ1 φ2 φ3 φ4))):=λd ps gs t μ G ht=>by
 apply bK;obtain⟨gl,hgl⟩:∃z:Int,z=gs.length:=⟨_,rfl⟩;have e1:=h1 gl t μ ht.1;obtain⟨p0,a0,el0⟩:=Cr G;have eg:(((gs.map bx).length:Nat):Int)=gl:=by rw[Zu,hgl]
 have hpl:(((ps.map aD).length:Nat))=ps.length:=Zu _;obtain⟨dd,hdd⟩:∃z:Int,z=d:=⟨_,rfl⟩;rw[<-hdd]at el0;have ez:=λws:List (List Int×Int)=>iB (F:=bx) (G:=cV) gs ws;have e5:=λ(ws:List (List Int×Int))(hw:∀w∈ws,Hy d w)=>yc (G:=λp:List Int×(List Int×Int)=>D.tup [bx p.1,cV p.2]) (F:=D.int) (xs:=λp=>p.1) (P:=λp k=>bey p.2.1 p.2.2 (ps.getD k.toNat [])) (μ:=μ) (h1:=eQ 2 (aN (aC 0) (aN (aC 1) (eO)))) (h2:=aC 2) (fi2:=cR (aq 0)) (fe:=MC (ao (aq 1) (ao (M2 (aq 3) (aq 2) oIx) (az))) φ4) (δb:=[none,none,none,some (.lst (ps.map aD))]) (gs.zip ws) λp hp=>by
  obtain⟨g,w⟩:=p;have hm:=List.of_mem_zip hp;have src:lQ (bx g) μ=some ⟨g.map .int,none⟩:=rfl;refine⟨[some (bx g),some (cV w),none,some (.lst (ps.map aD))],by simp,by simp[src],λk hk=>⟨[some (bx g),some (cV w),some (.int k),some (.lst (ps.map aD))],by simp,?_⟩⟩
  obtain⟨k0,k1⟩:=(G.grp g hm.1).2 k hk;obtain⟨ak,mk⟩:=ji (F:=aD) (l:=ps) (k:=k) (z:=[]) k0 k1;have hw':=hw w hm.2;have e4:=h4 d w.1 w.2 (ps.getD k.toNat []) μ hw'.1 hw'.2.1 hw'.2.2 (G.rows _ mk);have e4:φ4 [cV w,aD (ps.getD k.toNat [])] μ=_:=e4;generalize aD (ps.getD k.toNat [])=R at *
  generalize bey w.1 w.2 (ps.getD k.toNat [])=B at *
  generalize cV w=WD at *
  generalize bx g=GD at *
  generalize ps.map aD=PD at *
  simp[ak,e4]
 unfold iI;cases t with
 |tup ds=>
  have eV:apB d ps gs (.tup ds)=(ds.length==gs.length&&(ds.all (gA d)&&(czB d (ds.map fG)&&(decide (iK (ds.map fG)<0)&&(gs.zip (ds.map fG)).all (sI ps))))):=rfl;obtain⟨hl60,hv⟩:=ht.2 ds rfl;by_cases hl:ds.length=gs.length
  .have e1':φ1 [.int gl,.tup ds] μ=some (.bl true,μ):=by
    rw[e1];simp[uy,hl,hgl]
   have e2:=jU (th:=thG (aC 0) (MC (ao (aq 1) (ao (aq 0) (az))) φ2) [none,some (.int dd)]) (p:=gA d) (μ:=μ) ds λt htm=>by
    have:=h2 d t μ (hv t htm).1.1;rw[<-hdd]at this;simp[thG,this]
   cases hs:ds.all (gA d)with
   |false=>
    rw[eV,hs];rw[hs]at e2;generalize hTH:ds.map (thG (aC 0) (MC (ao (aq 1) (ao (aq 0) (az))) φ2) [none,some (.int dd)])=TH at *
    generalize gs.map bx=GD at *
    generalize ps.map aD=PD at *
    simp[a0,el0,eg,e1',bW,hTH,e2]
   |true=>
    rw[hs]at e2;obtain⟨hds,hw⟩:=xK hs hv;have eV:apB d ps gs (.tup ds)=(czB d (ds.map fG)&&(decide (iK (ds.map fG)<0)&&(gs.zip (ds.map fG)).all (sI ps))):=by
     rw[eV,hs,beq_iff_eq.mpr hl];rfl
    rw[eV];have hwl:(ds.map fG).length=ds.length:=Zu _;generalize ds.map fG=ws at *
    have hwne:ws≠[]:=λz=>G.gne (List.eq_nil_of_length_eq_zero (by rw[z]at hwl;simp at hwl;lia))
    have e3:=h3 d ws μ G.d9 hwne (by lia) hw
    rw[<-hds]at e3;obtain⟨ts,q1,q2⟩:=e5 ws hw;have ez:=ez ws;rw[<-hds]at ez;rw[<-ez]at q1;have q3:=HQ ps (gs.zip ws);generalize ((gs.zip ws).any λp=>p.1.any λk=>bey p.2.1 p.2.2 (ps.getD k.toNat []))=A at *
    rw[<-q3];clear q3;have f1:fJ (.lst (gs.map bx))=some (gs.map bx):=rfl;have f2:fJ (.tup ds)=some ds:=rfl;generalize hTH:ds.map (thG (aC 0) (MC (ao (aq 1) (ao (aq 0) (az))) φ2) [none,some (.int dd)])=TH at *
    generalize gs.map bx=GD at *
    generalize ps.map aD=PD at *
    generalize iK ws=la at *
    generalize czB d ws=cz at *
    by_cases hla:la<0
    .cases cz<;>simp[a0,el0,eg,e1',bW,hTH,e2,e3,hla,Vi,f1,f2,q1,q2]
    .cases cz<;>simp[a0,el0,eg,e1',bW,hTH,e2,e3,hla]
  .have e1':φ1 [.int gl,.tup ds] μ=some (.bl false,μ):=by
    rw[e1];have:¬(ds.length:Int)=gl:=by lia
    simp[uy,this]
   rw[eV,ZM.mpr hl];generalize gs.map bx=GD at *
   generalize ps.map aD=PD at *
   simp[a0,el0,eg,e1']
 |_=>
  have e1':φ1 [.int gl,_] μ=some (.bl false,μ):=e1;have eV:∀t,(∀ds,t≠ .tup ds)->apB d ps gs t=false:=λt h=>by
   unfold apB;split
   .exact absurd rfl (h _)
   .rfl
  rw[eV _ (λds z=>by cases z)]
  generalize gs.map bx=GD at *
  generalize ps.map aD=PD at *
  simp[a0,el0,eg,e1']
theorem Lb{φ1 φ2:FF}(h1:FQ φ1)(h2:vY φ2):uG (trunc (aH 5 (pZ φ1 φ2))):=λd ps gs t μ G ht=>by
 apply bK;obtain⟨gl,hgl⟩:∃z:Int,z=gs.length:=⟨_,rfl⟩;obtain⟨p0,a0,el0⟩:=Cr G;have eg:(((gs.map bx).length:Nat):Int)=gl:=by rw[Zu,hgl]
 obtain⟨dd,hdd⟩:∃z:Int,z=d:=⟨_,rfl⟩;rw[<-hdd]at el0;have d1:=G.d1;have d9:=G.d9;have rd:=tG (j:=dd) (μ:=μ) (by lia) (by lia)
 unfold pZ;cases t with
 |tup ds=>
  have eV:apB d ps gs (.tup ds)=(ds.length==gs.length&&(ds.all (gA d)&&(czB d (ds.map fG)&&(decide (iK (ds.map fG)<0)&&(gs.zip (ds.map fG)).all (sI ps))))):=rfl;obtain⟨hl60,hv⟩:=ht.2 ds rfl;by_cases hl:ds.length=gs.length
  .have hlen:((ds.length:Nat):Int)=gl:=by lia
   have ec:=rW (all:=ds) (h:=aC 0) (fe:=MC (ao (aq 1) (ao (aq 0) (az))) φ1) (δb:=[none,some (.int dd)]) (f:=λt=>D.bl (gA d t)) (μ:=μ) ds λt htm=>by
    have:=h1 d t μ (hv t htm).1.1 (λa b e=>(hv t htm).2 a b e);rw[<-hdd]at this;exact⟨[some t,some (.int dd)],by simp,by simp[this]⟩
   have ea:=Nz (μ:=μ) ds (gA d);have zz:ds.length<=1000:=by lia
   cases hs:ds.all (gA d)with
   |false=>
    rw[eV,hs];rw[hs]at ea;generalize (ds.map λt=>D.bl (gA d t))=BM at *
    generalize gs.map bx=GD at *
    generalize ps.map aD=PD at *
    simp[a0,el0,eg,hlen,zz,bW,ec,ea]
   |true=>
    rw[hs]at ea;obtain⟨hds,hw⟩:=xK hs hv;have eV:apB d ps gs (.tup ds)=(czB d (ds.map fG)&&(decide (iK (ds.map fG)<0)&&(gs.zip (ds.map fG)).all (sI ps))):=by
     rw[eV,hs,beq_iff_eq.mpr hl];rfl
    rw[eV];have hwl:(ds.map fG).length=ds.length:=Zu _;generalize ds.map fG=ws at *
    have e2:=cj (all:=ds) (h:=aC 0) (fe:=M2 (aq 0) (mC (.int 1)) oIx) (δb:=[none]) (F:=cV) (f:=λw=>.int w.2) (μ:=μ) ws λw hwm=>by
     have a1:atI [aD w.1,D.int w.2] 1=some (.int w.2):=rfl;exact⟨[some (cV w)],by simp,by simp[cV,a1]⟩
    rw[<-hds]at e2;have e2':ws.map (λw=>D.int w.2)=(ws.map λw=>w.2).map D.int:=by simp
    rw[e2']at e2;have e3:=lF μ (ws.map λw=>w.2) 0;rw[Int.zero_add]at e3;have e3:_=some (iK ws,μ):=e3;have e4:=λ(k:Nat)(hk:k<d)=>cj (all:=ds) (h:=aC 0) (fe:=M2 (M2 (aq 0) (mC (.int 0)) oIx) (aq 1) oIx) (δb:=[none,some (.int (0+(k:Int)))]) (F:=cV) (f:=λw=>.int (w.1.getD k 0)) (μ:=μ) ws λw hwm=>by
     have a1:atI [aD w.1,D.int w.2] 0=some (aD w.1):=rfl;obtain⟨a2,_⟩:=fH (ys:=w.1) (k:=0+(k:Int)) (by lia) (by have:=(hw w hwm).1;lia)
     rw[show(0+(k:Int)).toNat=k by lia]at a2
     generalize w.1.getD k 0=z at *
     generalize (0+(k:Int))=j at *
     have a2:atI (w.1.map D.int) j=some (.int z):=a2;exact⟨[some (cV w),some (.int j)],by simp,by
      unfold cV;simp[a1];exact a2⟩
    have e4':∀k:Nat,ws.map (λw=>D.int (w.1.getD k 0))=(ws.map λw=>w.1.getD k 0).map D.int:=λk=>by simp
    have e5:=λk:Nat=>lF μ (ws.map λw=>w.1.getD k 0) 0;simp only[Int.zero_add]at e5;have e5:∀k:Nat,sX 0 (((ws.map λw=>w.1.getD k 0).map D.int).map thE) μ=some (qM ws k,μ):=e5;have e6:=cj (all:=jZ (gs.map bx) ds) (h:=eQ 2 (aN (aC 0) (aN (aC 1) (eO)))) (fe:=MC (ao (aq 1) (ao (mFz (lLC ["_law_k"] [2] (cR (aq 0)) (aC 0) (aW) (M2 (aq 1) (aq 0) oIx))) (az))) φ2) (δb:=[none,none,some (.lst (ps.map aD))]) (F:=λp:List Int×(List Int×Int)=>D.tup [bx p.1,cV p.2]) (f:=λp=>D.bl (sI ps p)) (μ:=μ) (gs.zip ws) λp hp=>by
     obtain⟨g,w⟩:=p;have hm:=List.of_mem_zip hp;obtain⟨hgl2,hg⟩:=G.grp g hm.1;have hw':=hw w hm.2;refine⟨[some (bx g),some (cV w),some (.lst (ps.map aD))],by simp,?_⟩
     have src:lQ (bx g) μ=some ⟨g.map .int,none⟩:=rfl;have q1:=cj (all:=g.map D.int) (h:=aC 0) (fe:=M2 (aq 1) (aq 0) oIx) (δb:=[none,some (.lst (ps.map aD))]) (F:=D.int) (f:=λk=>aD (ps.getD k.toNat [])) (μ:=μ) g λk hk=>by
      obtain⟨k0,k1⟩:=hg k hk;obtain⟨ak,mk⟩:=ji (F:=aD) (l:=ps) (k:=k) (z:=[]) k0 k1;generalize aD (ps.getD k.toNat [])=R at *
      generalize ps.map aD=PD at *
      exact⟨[some (.int k),some (.lst PD)],by simp,by simp[ak]⟩
     have q1':g.map (λk=>aD (ps.getD k.toNat []))=(atP ps g).map aD:=by unfold atP;simp
     rw[q1']at q1;have q2:=h2 d w.1 w.2 (atP ps g) μ d9 hw'.1 hw'.2.1 hw'.2.2 (λp hp=>by
      obtain⟨k,hk,rfl⟩:=Zq.mp hp;obtain⟨k0,k1⟩:=hg k hk;exact G.rows _ (ji (F:=aD) (l:=ps) (k:=k) (z:=[]) k0 k1).2) (by unfold atP;simp;lia)
     have q2:φ2 [cV w,.lst ((atP ps g).map aD)] μ=some (.bl (sI ps (g,w)),μ):=q2;have z2:(g.map D.int).length<=1000:=by simp;lia
     generalize sI ps (g,w)=B at *
     generalize (atP ps g).map aD=AD at *
     generalize cV w=WD at *
     generalize g.map D.int=GI at *
     generalize bx g=GD at *
     generalize ps.map aD=PD at *
     simp[src,z2,bW,q1,q2]
    rw[<-iB,<-hds]at e6;have e7:=wW (th:=thE) (F:=λp=>D.bl (sI ps p)) (p:=sI ps) (μ:=μ) (gs.zip ws) λp hp=>rfl;have f1:fJ (.lst (gs.map bx))=some (gs.map bx):=rfl;have f2:fJ (.tup ds)=some ds:=rfl;have z3:(jZ (gs.map bx) ds).length<=1000:=by
     rw[hds,iB];simp
     lia
    have hcz:(List.range d).all (λk=>qM ws k==0)=czB d ws:=rfl;have hrd:cW 0 dd.toNat=(List.range d).map λk:Nat=>D.int (0+(k:Int)):=by
     rw[show dd.toNat=d by lia]
     rfl
    rw[hrd]at rd;generalize (gs.zip ws).map (λp=>D.bl (sI ps p))=BM2 at *
    generalize (gs.zip ws).all (sI ps)=A at *
    generalize (ds.map λt=>D.bl (gA d t))=BM at *
    generalize gs.map bx=GD at *
    generalize ps.map aD=PD at *
    generalize iK ws=la at *
    generalize (ws.map λw=>w.2).map D.int=LD at *
    by_cases hla:la<0
    .have hla':¬0<=la:=by lia
     generalize czB d ws=cz at *
     simp[a0,el0,eg,hlen,zz,bW,ec,ea,e2,e3,hla',rd];refine gP (λits δ μ'=>∃(ks:List Nat)(o:Option D),its=ks.map (λk:Nat=>D.int (0+(k:Int)))/\(∀k∈ks,k<d)/\ks.all (λk=>qM ws k==0)=cz/\μ'=μ/\δ=[some (.lst PD),some (.lst GD),some (.tup ds),some (.int dd),o]) ?_ ?_ _ _ _ ⟨List.range d,none,by simp,λk hk=>List.mem_range.mp hk,hcz,rfl,rfl⟩
     .rintro x rest δ μ' ⟨ks,o,hi,hk,hc,rfl,rfl⟩;cases ks with
      |nil=>cases hi
      |cons k ks=>
       rw[Zj]at hi;injection hi with hi1 hi2
       subst hi1 hi2;have q4:=e4 k (hk k (by simp))
       rw[<-hds,e4']at q4;have q5:=e5 k;generalize (ws.map λw=>w.1.getD k 0).map D.int=CD at *
       rw[List.all_cons]at hc;generalize qM ws k=ck at *
       generalize hj:(0+(k:Int))=j at *
       by_cases h0:ck=0
       .rw[h0]at hc q5;simp[zz,bW,q4,q5];exact⟨ks,rfl,λx hx=>hk x (by simp[hx]),by simpa using hc⟩
       .have hcf:cz=false:=by
         rw[<-hc,ZM.mpr h0];rfl
        have h0':(ck==0)=false:=ZM.mpr h0;simp[zz,bW,q4,q5,h0',hcf]
     .rintro δ μ' ⟨ks,o,hi,hk,hc,rfl,rfl⟩;cases ks with
      |cons k ks=>cases hi
      |nil=>
       have hct:cz=true:=hc.symm;simp[f1,f2,z3,bW,e6,e7,hct,hla]
    .have hla':0<=la:=by lia
     simp[a0,el0,eg,hlen,zz,bW,ec,ea,e2,e3,hla',hla]
  .have hlen:((ds.length:Nat):Int)≠gl:=by lia
   rw[eV,ZM.mpr hl];have hl3:(((ds.length:Nat):Int)==gl)=false:=ZM.mpr hlen;generalize gs.map bx=GD at *
   generalize ps.map aD=PD at *
   simp[a0,el0,eg,hl3,hlen]
 |cell n=>exact absurd ht.1 (by simp[nc,cLt])
 |ro ds=>
  have eV:apB d ps gs (.ro ds)=false:=rfl;rw[eV];generalize gs.map bx=GD at *
  generalize ps.map aD=PD at *
  simp[a0,el0,eg,gF,wO]
 |_=>
  have eV:∀t,(∀ds,t≠ .tup ds)->apB d ps gs t=false:=λt h=>by
   unfold apB;split
   .exact absurd rfl (h _)
   .rfl
  rw[eV _ (λds z=>by cases z)]
  generalize gs.map bx=GD at *
  generalize ps.map aD=PD at *
  simp[a0,el0,eg]
def jb(ns:List Int)(ps:List (List Int)):Int:=nW (ps.map λp=>-((-(dot ns p.dropLast)).fdiv (aP p)))
def sqV(ns:List Int):Int:=(ns.map λn=>n*n).sum
structure PtB(d b:Nat)(p:List Int):Prop where
 len:p.length=d+1
 sm:∀n∈p,Sm b n
 b1:1<=aP p
 b2:aP p<64
theorem PtB.sp(h:PtB d b p)(hb:b<=9000):SpR d p:=⟨h.len,λx hx=>bu (h.sm x hx) hb⟩
def mvQ(d:Nat)(far:Int)(row p:List Int):List Int:=(List.range d).map λk=>p.getD k 0-far*row.getD k 0*aP p
def mvG(d:Nat)(far:Int)(row p:List Int):Nat:=bO (aP p).natAbs (mvQ d far row p)
def mv(d:Nat)(far:Int)(row p:List Int):List Int:=(mvQ d far row p++[aP p]).map λn=>n.fdiv (mvG d far row p:Nat)
theorem Js:(mv d far row p).length=d+1:=by unfold mv mvQ;simp
theorem Gb:aP (mv d far row p)=(aP p).fdiv (mvG d far row p:Nat):=by
 unfold mv aP;rw[List.map_append];simp
theorem Ia{n:Int}{g:Nat}(h:g ∣ n.natAbs):(g:Int)*n.fdiv (g:Nat)=n:=by
 rw[Int.fdiv_eq_ediv_of_nonneg n (by omega)]
 exact Int.mul_ediv_cancel' (Int.ofNat_dvd_left.mpr h)
theorem yo(hb:1<=aP p):0<mvG d far row p:=Nat.pos_of_ne_zero (mO (.inl (by lia)))
theorem zp{d:Nat}{far:Int}{row p:List Int}:(mvG d far row p:Int)*aP (mv d far row p)=aP p:=by
 rw[Gb];exact Ia (lD (mvQ d far row p) (aP p).natAbs).2
theorem Bo(hb:1<=aP p):1<=aP (mv d far row p):=by
 have e:=zp (d:=d) (far:=far) (row:=row) (p:=p);have g0:=yo (d:=d) (far:=far) (row:=row) hb;apply Classical.byContradiction;intro h;have:(mvG d far row p:Int)*aP (mv d far row p)<=0:=Int.mul_nonpos_of_nonneg_of_nonpos (by lia) (by lia)
 lia
theorem Fy:∀(l:List Int)(x:Int),x∈l->x<=nW l
 | [],x,h=>by cases h
 | [a],x,h=>by rw[ZI.mp h];exact Int.le_refl _
 |a::b::l,x,h=>by
  unfold nW
  rcases Zi.mp h with z|z
  .omega
  .have:=Fy (b::l) x z
   lia
def nJ:Nat->List (List (List Int))->List (List Int)
 |_,[]=>[]
 |a,l::ls=>wI (a:Int) l.length::nJ (a+l.length) ls
theorem xZ:∀(ls:List (List (List Int)))(a:Nat)(l:List (List Int)),nJ a (ls++[l])=nJ a ls++[wI ((a+ls.flatten.length:Nat):Int) l.length]
 | [],a,l=>by simp[nJ]
 |x::ls,a,l=>by
  rw[List.cons_append];unfold nJ;rw[xZ ls];simp[Nat.add_assoc]
theorem sS:∀(ls:List (List (List Int)))(a:Nat),(nJ a ls).length=ls.length
 | [],_=>rfl
 |x::ls,a=>by
  unfold nJ;rw[ZH,ZH,sS ls]
theorem Cu:∀(ls:List (List (List Int)))(a:Nat)(g:List Int),g∈nJ a ls->(∃l∈ls,g.length=l.length)/\∀k∈g,(a:Int)<=k/\k<((a+ls.flatten.length:Nat):Int)
 | [],a,g,h=>by cases h
 |l::ls,a,g,h=>by
  unfold nJ at h
  rcases Zi.mp h with z|z
  .rw[z];refine⟨⟨l,by simp,by unfold wI;simp⟩,λk hk=>?_⟩
   unfold wI at hk;obtain⟨i,hi,rfl⟩:=Zq.mp hk;have:=List.mem_range.mp hi;simp only[List.flatten_cons,ZG]
   lia
  .obtain⟨⟨x,hx,e⟩,h2⟩:=Cu ls (a+l.length) g z;refine⟨⟨x,by simp[hx],e⟩,λk hk=>?_⟩
   have:=h2 k hk;simp only[List.flatten_cons,ZG]
   lia
abbrev RL:=List Int×List (List Int)
def lC(d:Nat)(far:Int)(x:RL):List (List Int):=x.2.map (mv d far x.1)
def Fo(d:Nat)(far:Int)(x:RL):List Int×Int:=(x.1,jb x.1 (lC d far x))
theorem Su{least square δ far:Int}(hs:1<=square)(hδ:0<=δ)(hf:far=(max 0 least).fdiv square+1+δ):least-far*square<0:=by
 rw[Int.fdiv_eq_ediv_of_nonneg _ (by lia)]at hf
 have h1:=Int.lt_ediv_add_one_mul_self (max 0 least) (show 0<square by lia)
 have h2:((max 0 least) / square+1)*square<=far*square:=Int.mul_le_mul_of_nonneg_right (by lia) (by lia)
 lia
theorem Hc(hφ:lZ φ)(all:List D)(rest:Mu):∀(its:List D)(L:List Int),DlD L->∃(ns L':List Int),lcL ⟨all,none⟩ (aC 0) aW (M2 (M2 (MC (ao (aq 1) (az)) φ) (mC (.int 5)) fU) (mC (.int 2)) gO) [none,some (.cell 0)] its (some (L.map .int)::rest)=some (ns.map .int,some (L'.map .int)::rest)/\DlD L'/\ns.length=its.length/\∀n∈ns,n.natAbs<=2
 | [],L,hL=>⟨[],L,by unfold lcL;simp[bZ],hL,rfl,λn h=>by cases h⟩
 |i::its,L,hL=>by
  obtain⟨x,L1,e1,hx,hL1⟩:=jq hφ hL rest;obtain⟨ns,L2,e2,hL2,hl,hs⟩:=Hc hφ all rest its L1 hL1;obtain⟨m0,m1⟩:=bV (x:=x) (m:=5) (by decide)
  generalize hq:x.fmod 5=q at *
  refine⟨(q-2)::ns,L2,?_,hL2,by simp[hl],λn hn=>?_⟩
  .unfold lcL;simp[bZ,aW,e1,hq,e2]
  .rcases Zi.mp hn with z|z
   .rw[z];omega
   .exact hs n z
def rJ(rs:List (List Int))(d:Nat):List Int:=(List.range d).map λk=>0-(col rs k).sum
theorem SX{c d:Nat}{rs:List (List Int)}{μ:Mu}(hc:μ[c]? =some (some (rs.map aD)))(hl:rs.length<=1000)(hr:∀r∈rs,r.length=d)(all:List D):
  lcL ⟨all,none⟩ (aC 0) aW (M2 (mC (.int 0)) (pN (gZ (mFz (lLC ["_law_row"] [0] (cR (aq 1)) (aC 0) (aW) (M2 (aq 0) (aq 1) oIx))))) gO) [none,some (.cell c)] ((List.range d).map λk:Nat=>D.int (0+(k:Int))) μ=some ((rJ rs d).map .int,μ):=by
 have e:=cj (all:=all) (h:=aC 0) (fe:=M2 (mC (.int 0)) (pN (gZ (mFz (lLC ["_law_row"] [0] (cR (aq 1)) (aC 0) (aW) (M2 (aq 0) (aq 1) oIx))))) gO) (δb:=[none,some (.cell c)]) (F:=λk:Nat=>D.int (0+(k:Int))) (f:=λk=>.int (0-(col rs k).sum)) (μ:=μ) (List.range d) λk hk=>by
  have hk:=List.mem_range.mp hk;refine⟨[some (.int (0+(k:Int))),some (.cell c)],by simp,?_⟩
  have q1:=Bx (h:=aC 0) (fe:=M2 (aq 0) (aq 1) oIx) (δb:=[none,some (.int (0+(k:Int)))]) (F:=aD) (f:=λr=>.int (r.getD k 0)) hc rs λr hrm=>by
   obtain⟨a2,_⟩:=fH (ys:=r) (k:=0+(k:Int)) (by lia) (by have:=hr r hrm;lia)
   rw[show(0+(k:Int)).toNat=k by lia]at a2
   generalize r.getD k 0=z at *
   generalize (0+(k:Int))=j at *
   have a2:atI (r.map D.int) j=some (.int z):=a2;exact⟨[some (aD r),some (.int j)],by simp,by simp[a2]⟩
  have q1':rs.map (λr=>D.int (r.getD k 0))=(col rs k).map D.int:=by unfold col;simp
  rw[q1']at q1;have q2:=lF μ (col rs k) 0;rw[Int.zero_add]at q2;have src:lQ (.cell c) μ=some ⟨rs.map aD,some c⟩:=by
   unfold lQ;simp only[hc]
  have zz:(rs.map aD).length<=1000:=by simpa using hl
  generalize (col rs k).map D.int=CD at *
  generalize (col rs k).sum=cs at *
  generalize rs.map aD=RD at *
  generalize (0+(k:Int))=j at *
  simp[src,zz,bW,q1,q2]
 rw[e];unfold rJ;simp
def Af(φ:FF):Prop:=∀(x d:Int)(μ:Mu),jG μ->Dr x->1<=d->d<=3->∃(ns:List Int)(b:Int),φ [.int x,.int d,.int 2,.int 0] μ=some (aD (ns++[b]),μ)/\ns.length=d.toNat/\(∀n∈ns,n.natAbs<=5)/\1<=b/\b<=3/\bO b.natAbs ns=1
def zV(φ:FF):Prop:=∀(x b:Int)(μ:Mu),∃t u:Int,φ [.int x,.int 2,.int b] μ=some (.tup [.int t,.int u],μ)/\t.natAbs<=5/\1<=u/\u<=3
theorem Ie:zV (trunc (aH 3 iG)):=λx b μ=>by
 have q4:=bV (x:=x) (m:=11) (by decide)
 have q5:=bV (x:=x.fdiv 11) (m:=3) (by decide)
 have d2:=vh (i:=x) (j:=11) (μ:=μ) (by decide) (by decide)
 refine⟨x.fmod 11-5,1+(x.fdiv 11).fmod 3,bK ?_,by lia,by lia,by lia⟩
 simp[iG,d2]
theorem Rm{φ:FF}(h:pI φ){d:Nat}{ns:List Int}{b:Int}(μ:Mu)(hd:1<=d)(hd3:d<=3)(hl:ns.length=d)(hn:∀n∈ns,n.natAbs<=5)(b0:1<=b)(b1:b<=3):∃ms c,φ [.lst (ns.map .int),.int b] μ=some (aD (ms++[c]),μ)/\ms.length=d/\(∀n∈ms,n.natAbs<=5)/\1<=c/\c<=3/\bO c.natAbs ms=1:=by
 have e:=h ns b μ (by omega) (by unfold Sm;have:(2:Nat) ^ 4000>=2 ^ 7:=Nat.pow_le_pow_right (by decide) (by decide);omega) (by omega) (λz=>by rw[z]at hl;simp at hl;omega)
 have e1:sgn b=1:=if_pos (by omega)
 rw[e1,Int.one_mul]at e;have g0:bO b.natAbs ns≠0:=mO (.inl (by omega))
 have gd:=(lD ns b.natAbs).2;have gle:=Nat.le_of_dvd (by omega) gd
 refine⟨ns.map (λn=>n.fdiv (bO b.natAbs ns:Nat)),b.fdiv (bO b.natAbs ns:Nat),by rw[e];simp[aD,List.map_append],by simp[hl],λm hm=>?_,?_,?_,GJ (by omega)⟩
 .obtain⟨n,hn',rfl⟩:=Zq.mp hm;have:=fO (x:=n) (y:=(bO b.natAbs ns:Nat)) (by omega)
  have:=hn n hn';omega
 .rw[Int.fdiv_eq_ediv_of_nonneg b (by omega)]
  exact(Int.le_ediv_iff_mul_le (by omega)).mpr (by omega)
 .have:=fO (x:=b) (y:=(bO b.natAbs ns:Nat)) (by omega)
  omega
theorem Uo{φ1 φ2 φ3:FF}(h1:oO φ1)(h2:zV φ2)(h3:pI φ3):Af (trunc (aH 9 (jt φ1 φ2 φ3))):=λx d μ hm hx d1 d3=>by
 suffices key:∃p,trunc (aH 9 (jt φ1 φ2 φ3)) [.int x,.int d,.int 2,.int 0] μ=some (p,μ)/\(∃(ns:List Int)(b:Int),p=aD (ns++[b])/\ns.length=d.toNat/\(∀n∈ns,n.natAbs<=5)/\1<=b/\b<=3/\bO b.natAbs ns=1) by
  obtain⟨p,e,ns,b,rfl,r⟩:=key;exact⟨ns,b,e,r⟩
 apply Hf hm;apply pQ;unfold jt;simp[tG (j:=d) (by omega) (by omega)]
 refine gP (λits δ μ'=>∃(acc:List Int)(bot:Int)(o6 o7 o8:Option D),μ'=μ++[some (acc.map .int)]/\acc.length+its.length=d.toNat/\(∀n∈acc,n.natAbs<=5)/\(1<=bot/\bot<=3)/\(∀i∈its,∃k:Int,i= .int k/\0<=k/\k<3)/\
  δ=[some (.int x),some (.int d),some (.int 2),some (.int 0),some (.cell μ.length),some (.int bot),o6,o7,o8]) ?_ ?_ _ _ _ ⟨[],1,none,none,none,rfl,by simp[ir],by simp,by omega,λi hi=>by
   obtain⟨k,rfl,h0,h1⟩:=rR hi;exact⟨k,rfl,by omega,by omega⟩,rfl⟩
 .rintro i rest δ μ' ⟨acc,bot,o6,o7,o8,rfl,hl,ha,hb,hi,rfl⟩;obtain⟨j,rfl,j0,j1⟩:=hi i (by simp)
  obtain⟨y,ey,hy⟩:=h1 x (j+1) (μ++[some (acc.map .int)]) (by omega) (by omega)
  obtain⟨t,u,et,ht,u0,u1⟩:=h2 y (0+j) (μ++[some (acc.map .int)]);have hz:acc.length<sizeLine:=Zc (by omega:acc.length<1000) (by decide)
  have fin:∀bot',1<=bot'->bot'<=3->∃(acc':List Int)(bot:Int)(o6 o7 o8:Option D),μ++[some (acc.map D.int++[.int t])]=μ++[some (acc'.map .int)]/\acc'.length+rest.length=d.toNat/\(∀n∈acc',n.natAbs<=5)/\(1<=bot/\bot<=3)/\(∀i∈rest,∃k:Int,i= .int k/\0<=k/\k<3)/\
    ([some (.int x),some (.int d),some (.int 2),some (.int 0),some (.cell μ.length),some (.int bot'),some (.int j),some (.int t),some (.int u)]:En)=[some (.int x),some (.int d),some (.int 2),some (.int 0),some (.cell μ.length),some (.int bot),o6,o7,o8]:=λbot' q1 q2=>
   ⟨acc++[t],bot',_,_,_,by simp,by simp at hl ⊢;omega,λn hn=>by
    rcases Zm.mp hn with z|z
    .exact ha n z
    .rw[ZI.mp z];exact ht,⟨q1,q2⟩,λi h=>hi i (by simp[h]),rfl⟩
  by_cases hj:j=0
  .subst hj;rw[show(0:Int)+1=1 from rfl]at ey;rw[show(0:Int)+(0:Int)=0 by omega]at et
   simp[ey,et,gM,jc,hz];simpa using fin u u0 u1
  .have hjb:(j==0)=false:=by simpa using hj
   rw[Int.zero_add]at et;simp[ey,et,hjb,gM,jc,hz];simpa using fin bot hb.1 hb.2
 .rintro δ μ' ⟨acc,bot,o6,o7,o8,rfl,hl,ha,hb,hi,rfl⟩;obtain⟨ms,c,ep,hp⟩:=Rm h3 (d:=d.toNat) (ns:=acc) (b:=bot) (μ++[none]) (by omega) (by omega) (by simpa using hl) ha hb.1 hb.2
  generalize hR:aD (ms++[c])=R at *
  simp[ep];exact⟨by rw[<-hR];exact cB.mpr jg,ms,c,hR.symm,hp⟩
theorem La:trunc (aH 2 rE)=trunc (aH 2 tH):=rfl
theorem Az(φ1 φ2:FF):trunc (aH 2 (nF φ1 φ2))=trunc (aH 2 (oG φ1 φ2)):=rfl
def yM(φ:FF):Prop:=∀(d:Nat)(ns:List Int)(ps:List (List Int))(μ:Mu),d<=3->ns.length=d->(∀n∈ns,Sm 21 n)->ps≠[]->ps.length<=40->(∀p∈ps,PtB d 400 p)->φ [aD ns,.lst (ps.map aD)] μ=some (.int (jb ns ps),μ)
theorem Ls(h1:yC φ):yM (trunc (aH 3 (jR φ))):=λd ns ps μ d3 hl hs hne hpl hp=>by
 have e1:=cj (all:=ps.map aD) (h:=aC 0) (fe:=MC (ao (aq 1) (ao (aq 0) (az))) φ) (δb:=[none,some (aD ns)]) (F:=aD) (f:=λp=>D.tup [.int (dot ns p.dropLast),.int (aP p)]) (μ:=μ) ps λp hpm=>by
  have:=h1 d ns p μ (by lia) hl (λn hn=>bu (hs n hn) (by decide)) ((hp p hpm).sp (by decide))
  generalize aD p=P at *
  generalize aD ns=N at *
  exact⟨[some P,some N],by simp,by simp[this]⟩
 have e2:=cj (all:=ps.map λp=>D.tup [.int (dot ns p.dropLast),.int (aP p)]) (h:=eQ 2 (aN (aC 0) (aN (aC 1) (eO)))) (fe:=M2 (mC (.int 0)) (M2 (M2 (mC (.int 0)) (aq 0) gO) (aq 1) jy) gO) (δb:=[none,none]) (F:=λp:List Int=>D.tup [.int (dot ns p.dropLast),.int (aP p)]) (f:=λp=>D.int (-((-(dot ns p.dropLast)).fdiv (aP p)))) (μ:=μ) ps λp hpm=>by
  have hb1:=(hp p hpm).b1;have hb2:=(hp p hpm).b2;generalize dot ns p.dropLast=S at *
  generalize aP p=b at *
  have:=iC (x:=-S) (y:=b) (b:=6) μ (by lia) (jX 64 (by lia) (by decide)) (by decide)
  exact⟨[some (.int S),some (.int b)],by simp,by simp[this]⟩
 have hm:ps.map (λp=>D.int (-((-(dot ns p.dropLast)).fdiv (aP p))))=(ps.map λp=>-((-(dot ns p.dropLast)).fdiv (aP p))).map D.int:=by simp
 rw[hm]at e2;have hne2:(ps.map λp=>-((-(dot ns p.dropLast)).fdiv (aP p)))≠[]:=by simpa using hne
 have e3:=Ad (μ:=μ) hne2;apply bK;have z1:(ps.map aD).length<=1000:=by simp;lia
 have z2:(ps.map λp=>D.tup [.int (dot ns p.dropLast),.int (aP p)]).length<=1000:=by simp;lia
 unfold jb;generalize nW (ps.map λp=>-((-(dot ns p.dropLast)).fdiv (aP p)))=M at *
 generalize (ps.map λp=>-((-(dot ns p.dropLast)).fdiv (aP p))).map D.int=QD at *
 generalize (ps.map λp=>D.tup [.int (dot ns p.dropLast),.int (aP p)])=TD at *
 generalize ps.map aD=PD at *
 generalize aD ns=N at *
 unfold jR;simp[z1,bW,e1,z2,e2,e3]
theorem Qd(d3:d<=3)(hl:ns.length=d)(hs:∀n∈ns,Sm 21 n)(hne:ps≠[])(hp:∀p∈ps,PtB d 400 p):Sm 440 (jb ns ps):=by
 unfold jb;have hne2:(ps.map λp=>-((-(dot ns p.dropLast)).fdiv (aP p)))≠[]:=by simpa using hne
 obtain⟨p,hpm,e⟩:=Zq.mp (pX _ hne2);rw[<-e];have hb1:=(hp p hpm).b1;have sd:Sm 440 (dot ns p.dropLast):=bu (NT (a:=21) (b:=400) hs (λc hc=>(hp p hpm).sm c ((List.dropLast_sublist _).mem hc)) (by omega)) (by decide)
 have:=fO (x:=-(dot ns p.dropLast)) (y:=aP p) (by omega)
 unfold Sm at *
 rw[Int.natAbs_neg]at *
 omega
def Yz(p:List Int):Prop:=(∀n∈p,n.natAbs<=5)/\aP p<=3
theorem Lg(h1:oO φ1)(h2:Af φ2)(d1:1<=d)(d3:d<=3)(all:List D)(hm:jG μ):∀(its:List D),(∀i∈its,∃k:Int,i= .int k/\0<=k/\k<90)->∃ps:List (List Int),
  lcL ⟨all,none⟩ (aC 0) aW (MC (ao (MC (ao (aq 1) (ao (aq 0) (az))) φ1) (ao (aq 2) (ao (mC (.int 2)) (ao (mC (.int 0)) (az))))) φ2) [none,some (.int x),some (.int d)] its μ=some (ps.map aD,μ)/\ps.length=its.length/\(∀p∈ps,PtB d.toNat 14 p)/\∀p∈ps,Yz p
 | [],_=>⟨[],by unfold lcL;simp[bZ],rfl,(λn h=>by cases h),λn h=>by cases h⟩
 |i::its,h=>by
  obtain⟨k,rfl,k0,k1⟩:=h i (by simp)
  obtain⟨ps,e,hl,hs,ht⟩:=Lg h1 h2 d1 d3 all hm its λj hj=>h j (by simp[hj])
  obtain⟨y,ey,hy⟩:=h1 x k μ (by omega) (by omega)
  obtain⟨ns,b,ep,hnl,hns,b1,b3,_⟩:=h2 y d μ hm hy d1 d3;have hlast:aP (ns++[b])=b:=by unfold aP;simp
  have hall:∀n∈ns++[b],n.natAbs<=5:=λn hn=>by
   rcases Zm.mp hn with z|z
   .exact hns n z
   .rw[ZI.mp z];omega
  refine⟨(ns++[b])::ps,?_,by simp[hl],λq hq=>?_,λq hq=>?_⟩
  .rw[Zj];generalize aD (ns++[b])=R at *
   unfold lcL;simp[bZ,aW,ey,ep];rw[e];rfl
  .rcases Zi.mp hq with z|z
   .rw[z];exact⟨by simp[hnl],λn hn=>jX 10001 (by have:=hall n hn;omega) (by decide),by omega,by omega⟩
   .exact hs q z
  .rcases Zi.mp hq with z|z
   .rw[z];exact⟨hall,by omega⟩
   .exact ht q z
theorem YM(hr:row.length=d)(sr:∀n∈row,Sm 21 n)(hp:PtB d 14 p)(hf:Sm 100 far)(all:List D)(μ:Mu):
  lcL ⟨all,none⟩ (aC 0) aW (M2 (M2 (aq 1) (aq 0) oIx) (M2 (M2 (aq 2) (M2 (aq 3) (aq 0) oIx) di) (M2 (aq 1) (M1 (mC (.int 1)) iy) oIx) di) gO) [none,some (aD p),some (.int far),some (aD row)] ((List.range d).map λk:Nat=>D.int (0+(k:Int))) μ=some ((mvQ d far row p).map .int,μ):=by
 have e:=cj (all:=all) (h:=aC 0) (fe:=M2 (M2 (aq 1) (aq 0) oIx) (M2 (M2 (aq 2) (M2 (aq 3) (aq 0) oIx) di) (M2 (aq 1) (M1 (mC (.int 1)) iy) oIx) di) gO) (δb:=[none,some (aD p),some (.int far),some (aD row)]) (F:=λk:Nat=>D.int (0+(k:Int))) (f:=λk=>.int (p.getD k 0-far*row.getD k 0*aP p)) (μ:=μ) (List.range d) λk hk=>by
  have hk:=List.mem_range.mp hk;refine⟨[some (.int (0+(k:Int))),some (aD p),some (.int far),some (aD row)],by simp,?_⟩
  obtain⟨a1,m1⟩:=fH (ys:=p) (k:=0+(k:Int)) (by lia) (by have:=hp.len;lia)
  obtain⟨a2,m2⟩:=fH (ys:=row) (k:=0+(k:Int)) (by lia) (by lia)
  have a3:=(hp.sp (by decide)).last
  rw[show(0+(k:Int)).toNat=k by lia]at a1 a2 m1 m2
  have s2:=sr _ m2;have b1:=hp.b1;have b2:=hp.b2;generalize p.getD k 0=y at *
  generalize row.getD k 0=r at *
  generalize aP p=b at *
  generalize (0+(k:Int))=j at *
  have x1:oIx (aD p) (.int j) μ=some (.int y,μ):=by unfold aD;rw[wJ];simp[a1]
  have x2:oIx (aD row) (.int j) μ=some (.int r,μ):=by unfold aD;rw[wJ];simp[a2]
  have x3:oIx (aD p) (.int (-1)) μ=some (.int b,μ):=by unfold aD;rw[wJ];simp[a3]
  have k1:=cX (x:=far) (y:=r) μ hf s2 (by decide)
  have k2:=cX (x:=far*r) (y:=b) (b:=6) μ (kI hf s2) (jX 64 (by lia) (by decide)) (by decide)
  generalize aD p=PD at *
  generalize aD row=RD at *
  simp[x1,x2,x3,k1,k2,-wJ]
 rw[e];unfold mvQ;rw[List.map_map];rfl
theorem Es(hr:row.length=d)(sr:∀n∈row,Sm 21 n)(hp:PtB d 14 p)(hf:Sm 100 far):PtB d 400 (mv d far row p):=by
 have hb1:=hp.b1;have hb2:=hp.b2;have g0:=yo (d:=d) (far:=far) (row:=row) hb1;refine⟨Js,λn hn=>?_,Bo hb1,?_⟩
 .unfold mv at hn;obtain⟨m,hm,rfl⟩:=Zq.mp hn;refine sV ?_ (by omega)
  rcases Zm.mp hm with z|z
  .unfold mvQ at z;obtain⟨k,hk,rfl⟩:=Zq.mp z;have hk:=List.mem_range.mp hk;obtain⟨_,m1⟩:=fH (ys:=p) (k:=(k:Int)) (by omega) (by have:=hp.len;omega)
   obtain⟨_,m2⟩:=fH (ys:=row) (k:=(k:Int)) (by omega) (by omega)
   rw[show((k:Int)).toNat=k by omega]at m1 m2
   have s3:=kI (kI hf (sr _ m2)) (show Sm 6 (aP p)from jX 64 (by omega) (by decide))
   rw[Int.sub_eq_add_neg];have s4:Sm 300 (-(far*row.getD k 0*aP p)):=by
    have:=bu s3 (by decide:100+21+6<=300)
    unfold Sm at *
    rwa[Int.natAbs_neg]
   exact bu (Dy (bu (hp.sm _ m1) (by decide:14<=300)) s4) (by decide)
  .rw[ZI.mp z];exact bu (jX (b:=6) 64 (by omega) (by decide)) (by decide)
 .rw[Gb];have:=fO (x:=aP p) (y:=(mvG d far row p:Nat)) (by omega)
  omega
theorem Wa(h:pI φ)(d1:1<=d)(d3:d<=3)(hr:row.length=d)(sr:∀n∈row,Sm 21 n)(hp:PtB d 14 p)(hf:Sm 100 far)(μ:Mu):φ [.lst ((mvQ d far row p).map .int),.int (aP p)] μ=some (aD (mv d far row p),μ):=by
 have hb1:=hp.b1;have hb2:=hp.b2;have hq:(mvQ d far row p).length=d:=by unfold mvQ;simp
 have e:=h (mvQ d far row p) (aP p) μ (by lia) (bu (jX (b:=6) 64 (by lia) (by decide)) (by decide)) (by lia) (λz=>by rw[z]at hq;simp at hq;lia)
 have e1:sgn (aP p)=1:=if_pos (by lia)
 rw[e1,Int.one_mul]at e;rw[e];unfold mv aD mvG;rw[List.map_map];rfl
def R2(d:Nat)(r:List Int):Prop:=r.length=d/\∀n∈r,n.natAbs<=2
theorem st1(hφ:lZ φ)(d1:1<=d)(d3:d<=3)(m:Int)(tl:En)(all:List D):∀(n:Nat)(its:List D),its.length=n->n<=9->∀(L:List Int)(acc:List (List Int))(o4:Option D),DlD L->acc.length+n<=9->(∀r∈acc,R2 d.toNat r)->∃(rows:List (List Int))(L':List Int)(o:Option D),
  iT ⟨all,none⟩ (aC 4) (eY (gM (aq 3) (ao (MC (ao (mFz (lLC ["_law_k"] [0] (bY (ao (aq 1) (az))) (aC 0) (aW) (M2 (M2 (MC (ao (aq 1) (az)) φ) (mC (.int 5)) fU) (mC (.int 2)) gO))) (az)) lK) (az)))) its (some (.cell 0)::some (.int d)::some (.int m)::some (.cell 1)::o4::tl) [some (L.map .int),some (acc.map aD)]=some (.nx,some (.cell 0)::some (.int d)::some (.int m)::some (.cell 1)::o::tl,[some (L'.map .int),some (rows.map aD)])/\DlD L'/\rows.length=acc.length+n/\∀r∈rows,R2 d.toNat r
 |0,its,h,_,L,acc,o4,hL,ha,hr=>by
  have:=List.eq_nil_of_length_eq_zero h;subst this;exact⟨acc,L,o4,by unfold iT;rw[if_pos uc],hL,rfl,hr⟩
 |n+1,i::its,h,hn,L,acc,o4,hL,ha,hr=>by
  obtain⟨ns,L1,e1,hL1,hl,hs⟩:=Hc hφ (cW 0 d.toNat) [some (acc.map aD)] (cW 0 d.toNat) L hL;rw[ir]at hl;obtain⟨rows,L2,o,e2,hL2,hl2,hr2⟩:=st1 hφ d1 d3 m tl all n its (by simpa using h) (by lia) L1 (acc++[ns]) (some i) hL1 (by simp;lia) (λr hrm=>by
   rcases Zm.mp hrm with z|z
   .exact hr r z
   .rw[ZI.mp z];exact⟨hl,hs⟩)
  refine⟨rows,L2,o,?_,hL2,by rw[hl2];simp;lia,hr2⟩
  have rd:=tG (j:=d) (μ:=[some (L.map .int),some (acc.map aD)]) (by lia) (by lia)
  have zd:(cW 0 d.toNat).length<=1000:=by rw[ir];lia
  have za:(acc.map aD).length<sizeLine:=Zc (by simp;lia:_<1000) (by decide)
  have zns:(ns.map D.int).length<=1000:=by simp;lia
  rw[List.map_append,Zj,List.map_nil]at e2;have er:aD ns= .tup (ns.map .int):=rfl;rw[er]at e2;generalize ns.map D.int=ND at *
  generalize cW 0 d.toNat=RG at *
  generalize acc.map aD=AD at *
  unfold iT;rw[if_pos uc];simp[rd,zd,bW,e1,gM,jc,za,e2]
theorem Yp(h0:0<=k)(h1:k<=1000)(hl:ds.length*k.toNat<=1000):di (.tup ds) (.int k) μ=some (.tup (List.replicate k.toNat ds).flatten,μ):=if_pos ⟨by lia,by lia,Zl hl (by decide)⟩
theorem Sx(d1:0<=d)(d3:d<=100):di (.tup [.int 1]) (.int d) μ=some (aD (List.replicate d.toNat 1),μ):=by
 rw[Yp (ds:=[D.int 1]) d1 (by lia) (by show 1*d.toNat<=1000;lia)]
 unfold aD;simp
theorem NP(h:∃n∈r,n≠0):1<=sqV r:=by
 induction r with
 |nil=>obtain⟨n,hn,_⟩:=h;cases hn
 |cons a r ih=>
  have h0:=Ey r;have e:sqV (a::r)=a*a+sqV r:=by unfold sqV;simp
  have h0:0<=sqV r:=h0;rw[e];by_cases ha:a=0
  .have:=ih (by
    obtain⟨n,hn,hz⟩:=h
    rcases Zi.mp hn with z|z
    .exact absurd (z.trans ha) hz
    .exact⟨n,z,hz⟩)
   rw[ha];omega
  .have p:0<a.natAbs*a.natAbs:=Nat.mul_pos (by omega) (by omega)
   have q:((a.natAbs*a.natAbs:Nat):Int)=a*a:=Int.natAbs_mul_self;omega
theorem Ov{rows:List (List Int)}{r0:List Int}{rest:List (List Int)}(e:rows=r0::rest)(h:1<=sqV r0):1<=(rows.map sqV).sum:=by
 subst e;have:∀l:List (List Int),0<=(l.map sqV).sum:=λl=>by
  induction l with
  |nil=>simp
  |cons a l ih=>
   rw[Zj,List.sum_cons];have:0<=sqV a:=Ey a
   lia
 rw[Zj,List.sum_cons];have:=this rest
 lia
theorem Ud(ns:List Int)(all:List D)(μ:Mu):lcL ⟨all,none⟩ (aC 0) aW (MC (ao (aq 0) (az)) (aO pL)) [none] (ns.map D.int) μ=some ((ns.map λn=>(n.natAbs:Int)).map D.int,μ):=by
 rw[List.map_map];exact cj (F:=D.int) ns λn hn=>⟨[some (.int n)],by simp,by simp⟩
theorem st2{d m:Int}(d1:1<=d)(d3:d<=3){tl:En}{L:List Int}{r0:List Int}{rest:List (List Int)}(hr:∀r∈r0::rest,R2 d.toNat r):∃r1:List Int,(sIf (pR (toB (M2 (aq 3) (MC (az) gU) vH)) (toB (M2 (MC (ao (mFz (lLC ["_law_one"] [] (cR (M2 (aq 3) (mC (.int 0)) oIx)) (aC 0) (aW) (MC (ao (aq 0) (az)) (aO pL)))) (az)) (aO vO)) (mC (.int 0)) oEq))) (Be (M2 (MC (ao (mC (.int 1)) (az)) bz) (aq 1) di) (aq 3) (mC (.int 0))) (bH)) (some (.cell 0)::some (.int d)::some (.int m)::some (.cell 1)::tl) [some (L.map .int),some ((r0::rest).map aD)]=some (.nx,some (.cell 0)::some (.int d)::some (.int m)::some (.cell 1)::tl,[some (L.map .int),some ((r1::rest).map aD)])/\R2 d.toNat r1/\1<=sqV r1:=by
 obtain⟨h0l,h0s⟩:=hr r0 (by simp)
 have hne:(r0.map λn=>(n.natAbs:Int))≠[]:=λz=>by
  have:=congrArg List.length z;simp at this;rw[this]at h0l;simp at h0l;omega
 have e1:=λμ=>Ad (μ:=μ) hne;have ec:=λμ=>Ud r0 (r0.map D.int) μ;have src:∀μ,lQ (aD r0) μ=some ⟨r0.map .int,none⟩:=λ_=>rfl;have zz:(r0.map D.int).length<=1000:=by simp;omega
 have a0:atI (aD r0::rest.map aD) 0=some (aD r0):=by
  have:=(ji (F:=aD) (l:=r0::rest) (k:=0) (z:=[]) (by decide) (by rw[ZH];omega)).1
  exact this
 have en:vH (.cell 1) (.lst []) [some (L.map D.int),some (aD r0::rest.map aD)]=some (.bl true,[some (L.map D.int),some (aD r0::rest.map aD)]):=by
  obtain⟨p1,p2⟩:=xf (r0::rest);exact Uh (n:=1) (ps:=aD r0::rest.map aD) rfl p1 (Nat.lt_of_le_of_lt p2 (by decide))
 have it:∀l:List D,dB (.cell 1) [some (L.map D.int),some l]=some l:=λ_=>rfl;have ix0:ixN (rest.length+1) 0=some 0:=by
  unfold ixN;rw[if_pos (by decide),if_pos (by omega)]
  rfl
 obtain⟨M,hM⟩:∃M:Int,nW (r0.map λn=>(n.natAbs:Int))=M:=⟨_,rfl⟩;have hg:=Fy (r0.map λn=>(n.natAbs:Int));rw[hM]at e1 hg;have eo:=λμ=>Sx (d:=d) (μ:=μ) (by omega) (by omega)
 by_cases h0:M=0
 .refine⟨List.replicate d.toNat 1,?_,⟨by simp,λn hn=>by rw[List.eq_of_mem_replicate hn];decide⟩,NP ⟨1,by rw[List.mem_replicate];exact⟨by omega,rfl⟩,by decide⟩⟩
  subst h0;rw[Zj,Zj];generalize (r0.map λn=>(n.natAbs:Int)).map D.int=AD at *
  generalize r0.map D.int=ND at *
  generalize aD r0=R at *
  generalize aD (List.replicate d.toNat 1)=O at *
  have hlen:(rest.map aD).length=rest.length:=by simp
  generalize rest.map aD=RD at *
  apply yg;simp[a0,src,zz,bW,ec,e1,eo,L3.Hj,hlen,ix0,en,it]
 .refine⟨r0,?_,⟨h0l,h0s⟩,NP ?_⟩
  .have h0':(M==0)=false:=ZM.mpr h0;rw[Zj];generalize (r0.map λn=>(n.natAbs:Int)).map D.int=AD at *
   generalize r0.map D.int=ND at *
   generalize aD r0=R at *
   generalize rest.map aD=RD at *
   apply yg;simp[a0,src,zz,bW,ec,e1,h0',en,it]
  .have hm:=pX _ hne;rw[hM]at hm;obtain⟨n,hn,e⟩:=Zq.mp hm;exact⟨n,hn,λz=>h0 (by rw[<-e,z];rfl)⟩
def lL(l:List (List Int)):D:=.lst (l.map aD)
def KQ(d:Nat)(l:List (List Int)):Prop:=l≠[]/\l.length<=3/\(∀p∈l,PtB d 14 p)/\∀p∈l,Yz p
theorem WL(l:List (List Int)):nc (lL l):=rD.mpr λd hd=>by
 obtain⟨q,_,rfl⟩:=Zq.mp hd;exact cB.mpr jg
theorem DX(r:List Int):nc (aD r):=cB.mpr jg
theorem st4(h1:lZ φ1)(h2:oO φ2)(h3:Af φ3)(d1:1<=d)(d3:d<=3)(m:Int)(o4:Option D)(tl:En)(RS:List D)(hRS:∀t∈RS,nc t):∀(n:Nat)(its:List D),its.length=n->n<=9->∀(L:List Int)(acc:List (List (List Int)))(o6 o7:Option D),DlD L->acc.length+n<=9->∃(lots:List (List (List Int)))(L':List Int)(o6' o7':Option D),
  iT ⟨RS,some 1⟩ (aC 6) (aL (bw 7 (MC (ao (aq 0) (az)) φ1)) (eY (gM (aq 5) (ao (mFz (lLC ["_law_j"] [7,1] (bY (ao (M2 (mC (.int 1)) (M2 (aq 7) (mC (.int 3)) fU) dm) (az))) (aC 0) (aW) (MC (ao (MC (ao (aq 1) (ao (aq 0) (az))) φ2) (ao (aq 2) (ao (mC (.int 2)) (ao (mC (.int 0)) (az))))) φ3))) (az))))) its (some (.cell 0)::some (.int d)::some (.int m)::some (.cell 1)::o4::some (.cell 2)::o6::o7::tl) [some (L.map .int),some RS,some (acc.map lL)]=some (.nx,some (.cell 0)::some (.int d)::some (.int m)::some (.cell 1)::o4::some (.cell 2)::o6'::o7'::tl,[some (L'.map .int),some RS,some ((acc++lots).map lL)])/\DlD L'/\lots.length=n/\∀l∈lots,KQ d.toNat l
 |0,its,h,_,L,acc,o6,o7,hL,ha=>by
  have:=List.eq_nil_of_length_eq_zero h;subst this;have ok:Src.ok ⟨RS,some 1⟩ [some (L.map D.int),some RS,some (acc.map lL)]:=λn e=>by cases e;rfl
  exact⟨[],L,o6,o7,by unfold iT;rw[if_pos ok,List.append_nil],hL,rfl,λl hl=>by cases hl⟩
 |n+1,i::its,h,hn,L,acc,o6,o7,hL,ha=>by
  have ok:Src.ok ⟨RS,some 1⟩ [some (L.map D.int),some RS,some (acc.map lL)]:=λn e=>by cases e;rfl
  obtain⟨x,L1,e1,hx,hL1⟩:=jq h1 hL [some RS,some (acc.map lL)];obtain⟨m0,m1⟩:=bV (x:=x) (m:=3) (by decide)
  generalize hmo:x.fmod 3=mo at *
  obtain⟨q,hq⟩:∃q:Int,1+mo=q:=⟨_,rfl⟩;have hmu:jG [some (L1.map D.int),some RS,some (acc.map lL)]:=(jG.cons hRS (jG.cons (λt ht=>by
   obtain⟨l,_,rfl⟩:=Zq.mp ht;exact WL l) jG.nil)).dr
  obtain⟨lot,e2,hl,hp,ht⟩:=Lg h2 h3 (x:=x) d1 d3 (cW 0 q.toNat) hmu (cW 0 q.toNat) λi hi=>by
   obtain⟨k,e,k0,k1⟩:=rR hi;exact⟨k,e,k0,by lia⟩
  rw[ir]at hl;obtain⟨lots,L2,o6',o7',e3,hL2,hl2,hr2⟩:=st4 h1 h2 h3 d1 d3 m o4 tl RS hRS n its (by simpa using h) (by lia) L1 (acc++[lot]) (some i) (some (.int x)) hL1 (by simp;lia)
  refine⟨lot::lots,L2,o6',o7',?_,hL2,by simp[hl2],λl hlm=>?_⟩
  .have rd:=tG (j:=q) (μ:=[some (L1.map .int),some RS,some (acc.map lL)]) (by lia) (by lia)
   have zd:(cW 0 q.toNat).length<=1000:=by rw[ir];lia
   have za:(acc.map lL).length<sizeLine:=Zc (by simp;lia:_<1000) (by decide)
   have er:acc++[lot]++lots=acc++lot::lots:=by simp
   rw[er,List.map_append (l₁:=acc) (l₂:=[lot]),Zj,List.map_nil]at e3;have er2:lL lot= .lst (lot.map aD):=rfl;rw[er2]at e3;generalize lot.map aD=LT at *
   generalize cW 0 q.toNat=RG at *
   generalize (acc++lot::lots).map lL=FN at *
   generalize acc.map lL=AD at *
   unfold iT;rw[if_pos ok];apply yg;simp[e1,hmo,hq,rd,zd,bW,e2,gM,jc,za,e3]
  .rcases Zi.mp hlm with z|z
   .rw[z];exact⟨λw=>by rw[w]at hl;simp at hl;lia,by lia,hp,ht⟩
   .exact hr2 l z
theorem Tv(hφ:pI φ)(d1:1<=d)(d3:d<=3)(hr:row.length=d.toNat)(sr:∀n∈row,Sm 21 n)(hf:Sm 100 far)(all:List D)(δh:En)(c:Nat)(μ:Mu)(o0 o2 o3 o4 o5 o7 o8 o9 o11 o12 o13 o14:Option D)(hc:c=μ.length):∀(ps:List (List Int))(acc:List (List Int))(o16:Option D),(∀p∈ps,PtB d.toNat 14 p)->acc.length+ps.length<=100->∃o16',
  iT ⟨all,none⟩ (aC 16) (eY (gM (aq 15) (ao (MC (ao (mFz (lLC ["_law_k"] [16,10,6] (bY (ao (aq 1) (az))) (aC 0) (aW) (M2 (M2 (aq 1) (aq 0) oIx) (M2 (M2 (aq 2) (M2 (aq 3) (aq 0) oIx) di) (M2 (aq 1) (M1 (mC (.int 1)) iy) oIx) di) gO))) (ao (M2 (aq 16) (M1 (mC (.int 1)) iy) oIx) (az))) φ) (az)))) (ps.map aD) [o0,some (.int d),o2,o3,o4,o5,some (aD row),o7,o8,o9,some (.int far),o11,o12,o13,o14,some (.cell c),o16] (μ++[some (acc.map aD)])=some (.nx,[o0,some (.int d),o2,o3,o4,o5,some (aD row),o7,o8,o9,some (.int far),o11,o12,o13,o14,some (.cell c),o16'],μ++[some ((acc++ps.map (mv d.toNat far row)).map aD)])
 | [],acc,o16,_,_=>⟨o16,by
  rw[List.map_nil,List.map_nil,List.append_nil];unfold iT;rw[if_pos uc]⟩
 |p::ps,acc,o16,hp,hz=>by
  subst hc;have hpp:=hp p (by simp)
  obtain⟨o,e3⟩:=Tv hφ d1 d3 hr sr hf all δh μ.length μ o0 o2 o3 o4 o5 o7 o8 o9 o11 o12 o13 o14 rfl ps (acc++[mv d.toNat far row p]) (some (aD p)) (λq hq=>hp q (by simp[hq])) (by simp at hz ⊢;lia)
  have e1:=YM hr sr hpp hf ((List.range d.toNat).map λk:Nat=>D.int (0+(k:Int))) (μ++[some (acc.map aD)]);have e2:=Wa hφ (by lia) (by lia) hr sr hpp hf (μ++[some (acc.map aD)])
  have rd:=tG (j:=d) (μ:=μ++[some (acc.map aD)]) (by lia) (by lia)
  have hrd:cW 0 d.toNat=(List.range d.toNat).map λk:Nat=>D.int (0+(k:Int)):=rfl;rw[hrd]at rd;have zd:((List.range d.toNat).map λk:Nat=>D.int (0+(k:Int))).length<=1000:=by simp;lia
  have za:(acc.map aD).length<sizeLine:=Zc (by simp at hz ⊢;lia:_<1000) (by decide)
  have a3:=(hpp.sp (by decide)).last
  have x3:oIx (aD p) (.int (-1)) (μ++[some (acc.map aD)])=some (.int (aP p),μ++[some (acc.map aD)]):=by unfold aD;rw[wJ];simp[a3]
  refine⟨o,?_⟩;rw[Zj,Zj];have er:acc++[mv d.toNat far row p]++ps.map (mv d.toNat far row)=acc++mv d.toNat far row p::ps.map (mv d.toNat far row):=by simp
  rw[er,List.map_append (l₁:=acc) (l₂:=[mv d.toNat far row p]),Zj,List.map_nil]at e3;generalize (acc++mv d.toNat far row p::ps.map (mv d.toNat far row)).map aD=FN at *
  generalize aD (mv d.toNat far row p)=MV at *
  generalize (mvQ d.toNat far row p).map D.int=QD at *
  generalize aP p=b at *
  generalize aD p=PD at *
  generalize aD row=RD at *
  generalize (List.range d.toNat).map (λk:Nat=>D.int (0+(k:Int)))=RG at *
  generalize acc.map aD=AD at *
  generalize ps.map aD=PS at *
  unfold iT;rw[if_pos uc];simp[rd,zd,bW,e1,x3,e2,gM,jc,za,e3,-wJ]
def XOk(d:Nat)(x:RL):Prop:=x.1.length=d/\(∀n∈x.1,Sm 21 n)/\KQ d x.2
def zD(x:RL):D:=.tup [aD x.1,lL x.2]
def jn(d:Nat)(far:Int)(xs:List RL):List (List Int):=(xs.map (lC d far)).flatten
def nH(d:Nat)(far:Int)(xs:List RL):List (List Int):=nJ 0 (xs.map (lC d far))
def mj(d:Nat)(far:Int)(xs:List RL):List (List Int×Int):=xs.map (Fo d far)
theorem QX:jn d far (xs++[x])=jn d far xs++lC d far x:=by unfold jn;simp
theorem PX:nH d far (xs++[x])=nH d far xs++[wI ((jn d far xs).length:Int) (lC d far x).length]:=by
 unfold nH jn;rw[List.map_append,Zj,List.map_nil,xZ,Nat.zero_add]
theorem Rf:mj d far (xs++[x])=mj d far xs++[Fo d far x]:=by unfold mj;simp
theorem Eo:∀{xs:List RL},(∀x∈xs,XOk d x)->(jn d far xs).length<=3*xs.length
 | [],_=>by simp[jn]
 |x::xs,h=>by
  have ih:=Eo (far:=far) (xs:=xs) λy hy=>h y (by simp[hy])
  have:=(h x (by simp)).2.2.2.1
  have e:jn d far (x::xs)=lC d far x++jn d far xs:=by unfold jn;simp
  rw[e,ZG,ZH];unfold lC;rw[Zu]
  lia
theorem st7(h1:pI φ1)(h2:yM φ2)(d1:1<=d)(d3:d<=3)(hf:Sm 100 far)(all:List D)(L:List D)(o0 o2 o3 o4 o5 o7 o8 o9:Option D):∀(xs done:List RL)(J:Mu)(o6 o14 o15 o16:Option D),(∀x∈done,XOk d.toNat x)->(∀x∈xs,XOk d.toNat x)->done.length+xs.length<=9->∃(J':Mu)(o6' o14' o15' o16':Option D),
  iT ⟨all,none⟩ (eQ 2 (aN (aC 6) (aN (aC 14) (eO)))) (aL (bw 15 (pD (qx (az)))) (aL (ik (cR (aq 14)) (aC 16) (eY (gM (aq 15) (ao (MC (ao (mFz (lLC ["_law_k"] [16,10,6] (bY (ao (aq 1) (az))) (aC 0) (aW) (M2 (M2 (aq 1) (aq 0) oIx) (M2 (M2 (aq 2) (M2 (aq 3) (aq 0) oIx) di) (M2 (aq 1) (M1 (mC (.int 1)) iy) oIx) di) gO))) (ao (M2 (aq 16) (M1 (mC (.int 1)) iy) oIx) (az))) φ1) (az))))) (aL (eY (gM (aq 12) (ao (vP (ao (MC (ao (aq 11) (az)) (aO bU)) (ao (M2 (MC (ao (aq 11) (az)) (aO bU)) (MC (ao (aq 15) (az)) (aO bU)) dm) (az)))) (az)))) (aL (bw 11 (mFz (Jw (aq 11) (aq 15)))) (eY (gM (aq 13) (ao (MC (ao (aq 6) (ao (MC (ao (aq 6) (ao (tM (aq 15)) (az))) φ2) (az))) bz) (az)))))))) (xs.map zD) [o0,some (.int d),o2,o3,o4,o5,o6,o7,o8,o9,some (.int far),some (.lst ((jn d.toNat far done).map aD)),some (.cell 3),some (.cell 4),o14,o15,o16] (some L::none::none::some ((nH d.toNat far done).map bx)::some ((mj d.toNat far done).map cV)::J)=some (.nx,[o0,some (.int d),o2,o3,o4,o5,o6',o7,o8,o9,some (.int far),some (.lst ((jn d.toNat far (done++xs)).map aD)),some (.cell 3),some (.cell 4),o14',o15',o16'],(some L::none::none::some ((nH d.toNat far (done++xs)).map bx)::some ((mj d.toNat far (done++xs)).map cV)::J'))
 | [],done,J,o6,o14,o15,o16,_,_,_=>⟨J,o6,o14,o15,o16,by
  rw[List.map_nil,List.append_nil];unfold iT;rw[if_pos uc]⟩
 |x::xs,done,J,o6,o14,o15,o16,hd,hx,hl=>by
  obtain⟨xr,xl⟩:=x;obtain⟨hr,sr,lne,ll3,lp,_⟩:=hx (xr,xl) (by simp)
  have hr:xr.length=d.toNat:=hr;have sr:∀n∈xr,Sm 21 n:=sr;have elot:lC d.toNat far (xr,xl)=xl.map (mv d.toNat far xr):=rfl;obtain⟨q16,e2⟩:=Tv h1 d1 d3 hr sr hf (xl.map aD) [] (J.length+1+1+1+1+1) (some L::none::none::some ((nH d.toNat far done).map bx)::some ((mj d.toNat far done).map cV)::J) o0 o2 o3 o4 o5 o7 o8 o9 (some (.lst ((jn d.toNat far done).map aD))) (some (.cell 3)) (some (.cell 4)) (some (lL xl)) (by simp) xl [] o16 lp (by
   have:xl.length<=3:=ll3;simp
   lia)
  rw[List.nil_append,<-elot]at e2;obtain⟨J',p6,p14,p15,p16,e9⟩:=st7 h1 h2 d1 d3 hf all L o0 o2 o3 o4 o5 o7 o8 o9 xs (done++[(xr,xl)]) (J++[none]) (some (aD xr)) (some (lL xl)) (some (.cell (J.length+1+1+1+1+1))) q16 (λy hy=>by
   rcases Zm.mp hy with z|z
   .exact hd y z
   .rw[ZI.mp z];exact hx _ (by simp)) (λy hy=>hx y (by simp[hy])) (by simp at hl ⊢;lia)
  refine⟨J',p6,p14,p15,p16,?_⟩;have hpl:=Eo (d:=d.toNat) (far:=far) hd;have hlm:(lC d.toNat far (xr,xl)).length<=3:=by rw[elot,Zu];exact ll3
  have hcm:=h2 d.toNat xr (lC d.toNat far (xr,xl)) (some L::none::none::some ((nH d.toNat far done).map bx++[bx (wI ((jn d.toNat far done).length:Int) (lC d.toNat far (xr,xl)).length)])::some ((mj d.toNat far done).map cV)::(J++[none])) (by lia) hr sr (by
   rw[elot];simpa using lne) (by lia) (λp hp=>by
   rw[elot]at hp;obtain⟨q,hq,rfl⟩:=Zq.mp hp;exact Es hr sr (lp q hq) hf)
  have ew:Fo d.toNat far (xr,xl)=(xr,jb xr (lC d.toNat far (xr,xl))):=rfl;obtain⟨pl,hpl2⟩:∃z:Int,z=(jn d.toNat far done).length:=⟨_,rfl⟩;obtain⟨ml,hml⟩:∃z:Int,z=(lC d.toNat far (xr,xl)).length:=⟨_,rfl⟩;simp only[ZH,List.length_nil]at hl;have et:=λμ=>Wo (i:=pl) (j:=pl+ml) (μ:=μ) (by lia) (by lia) (by lia)
  rw[show(pl+ml-pl).toNat=(lC d.toNat far (xr,xl)).length by lia]at et
  rw[<-hpl2]at hcm;rw[show done++[(xr,xl)]++xs=done++(xr,xl)::xs by simp,QX,PX,Rf,List.map_append (l₂:=lC d.toNat far (xr,xl)),List.map_append (l₂:=[wI _ _]),List.map_append (l₂:=[Fo d.toNat far (xr,xl)]),Zj,Zj,List.map_nil,List.map_nil,ew,<-hpl2]at e9
  have zG:((nH d.toNat far done).map bx).length<sizeLine:=Zc (by unfold nH;rw[Zu,sS];simp;lia:_<1000) (by decide)
  have zW:((mj d.toNat far done).map cV).length<sizeLine:=Zc (by unfold mj;simp;lia:_<1000) (by decide)
  have zP:((jn d.toNat far done).map aD).length+((lC d.toNat far (xr,xl)).map aD).length<=sizeLine:=szl (by rw[Zu,Zu];lia)
  have lP:(((jn d.toNat far done).map aD).length:Int)=pl:=by rw[Zu,hpl2]
  have lM:(((lC d.toNat far (xr,xl)).map aD).length:Int)=ml:=by rw[Zu,hml]
  have src:∀μ,lQ (lL xl) μ=some ⟨xl.map aD,none⟩:=λ_=>rfl;have ez:zD (xr,xl)= .tup [aD xr,lL xl]:=rfl;rw[Zj,ez];have ewd:cV (xr,jb xr (lC d.toNat far (xr,xl)))= .tup [aD xr,.int (jb xr (lC d.toNat far (xr,xl)))]:=rfl;rw[ewd]at e9;rw[List.map_nil]at e2;simp only[List.cons_append]at e2;generalize jb xr (lC d.toNat far (xr,xl))=CV at *
  generalize (jn d.toNat far (done++(xr,xl)::xs)).map aD=FP at *
  generalize (nH d.toNat far (done++(xr,xl)::xs)).map bx=FG at *
  generalize (mj d.toNat far (done++(xr,xl)::xs)).map cV=FW at *
  generalize bx (wI pl (lC d.toNat far (xr,xl)).length)=GN at *
  generalize (nH d.toNat far done).map bx=GD at *
  generalize (mj d.toNat far done).map cV=WD at *
  generalize (jn d.toNat far done).map aD=PD at *
  generalize (lC d.toNat far (xr,xl)).map aD=LM at *
  generalize lL xl=LO at *
  generalize xl.map aD=XL at *
  generalize aD xr=RW at *
  generalize xs.map zD=ZS at *
  have eL:∀G W:List D,bU (.cell (J.length+1+1+1+1+1)) (some L::none::none::some G::some W::(J++[some LM]))=some (.int ml,some L::none::none::some G::some W::(J++[some LM])):=λG W=>by simp[bU,dB,lM]
  unfold iT;rw[if_pos uc];apply yg;simp[src,e2,eL,QZ,gM,jc,lP,lM,et,zG,vQ,zP,hcm,zW,e9]
abbrev Stp:=List Int×List (Int×Int)
theorem uJ{a:List Int}{i:Nat}(h:i<a.length):atI (a.map D.int) (0+(i:Int))=some (.int (a.getD i 0)):=by
 have:=(fH (ys:=a) (k:=0+(i:Int)) (by lia) (by lia)).1
 rw[this];congr 3
 lia
def LQ(xs:List Stp):Stp:=xs.getLastD ([],[])
theorem Fe{φ:FF}{as:List D}{L:List Int}{P:D->List Int->Prop}(h:Ok (φ as [some (L.map .int)]) (λr=>∃d L' junk,r=(d,some (List.map D.int L')::junk)/\nc d/\P d L')):∃d L',trunc φ as [some (L.map .int)]=some (d,[some (List.map D.int L')])/\P d L':=by
 obtain⟨r,e,d,L',junk,rfl,hn,hp⟩:=h;exact⟨d,L',vI (μ':=[some (L'.map .int)]) (junk:=junk) e rfl hn jG.nil.dr,hp⟩
set_option maxHeartbeats 2000000
def ApV(d:Nat)(far:Int)(xs:List RL):D:=.tup [.lst ((jn d far xs).map aD),.lst ((nH d far xs).map bx),.tup ((mj d far xs).map cV)]
def Dn(d:Nat)(far:Int)(xs:List RL):Prop:=((∀x∈xs,∀n∈x.1,n.natAbs<=2*(xs.length-1))/\0<=far/\far<=max 0 (xs.map λx=>jb x.1 x.2).sum+2)/\(∀x∈xs,XOk d x)/\Sm 100 far/\(∀k<d,(xs.map λx=>x.1.getD k 0).sum=0)/\(xs.map λx=>jb x.1 x.2).sum-far*(xs.map λx=>sqV x.1).sum<0
def zQ(φ:FF):Prop:=∀(L:List Int)(d m:Int),DlD L->1<=d->d<=3->2<=m->m<=5->∃(xs:List RL)(far:Int)(L':List Int),φ [.cell 0,.int d,.int m] [some (L.map .int)]=some (ApV d.toNat far xs,[some (L'.map .int)])/\DlD L'/\Dn d.toNat far xs/\(xs.length:Int)=m
theorem PtB.mono(h:PtB d a p)(hb:a<=b):PtB d b p:=⟨h.len,λn hn=>bu (h.sm n hn) hb,h.b1,h.b2⟩
theorem IK(d3:d<=3)(hl:ns.length=d)(hs:∀n∈ns,Sm 21 n)(hne:ps≠[])(hp:∀p∈ps,PtB d 14 p):Sm 46 (jb ns ps):=by
 unfold jb;have hne2:(ps.map λp=>-((-(dot ns p.dropLast)).fdiv (aP p)))≠[]:=by simpa using hne
 obtain⟨p,hpm,e⟩:=Zq.mp (pX _ hne2);rw[<-e];have hb1:=(hp p hpm).b1;have sd:Sm 46 (dot ns p.dropLast):=bu (NT (a:=21) (b:=14) hs (λc hc=>(hp p hpm).sm c ((List.dropLast_sublist _).mem hc)) (by omega)) (by decide)
 have:=fO (x:=-(dot ns p.dropLast)) (y:=aP p) (by omega)
 unfold Sm at *
 rw[Int.natAbs_neg]at *
 omega
theorem Mw(hk:k<d):(rJ rs d).getD k 0=0-(col rs k).sum:=by
 unfold rJ;rw[List.getD_eq_getElem?_getD,List.getElem?_map,List.getElem?_range hk];rfl
theorem xU(h:∀r∈rs,R2 d r)(hk:k<d):(col rs k).sum.natAbs<=2*rs.length:=by
 induction rs with
 |nil=>simp[col]
 |cons r rs ih=>
  have:=ih λx hx=>h x (by simp[hx])
  have e:(col (r::rs) k).sum=r.getD k 0+(col rs k).sum:=by unfold col;simp
  obtain⟨hl,hs⟩:=h r (by simp)
  obtain⟨_,m⟩:=fH (ys:=r) (k:=(k:Int)) (by omega) (by omega)
  rw[show((k:Int)).toNat=k by omega]at m
  have:=hs _ m;rw[e,ZH];omega
theorem Oi(h:∀r∈rs,R2 d r)(hl:rs.length<=9):∀r∈rs++[rJ rs d],r.length=d/\∀n∈r,Sm 21 n:=λr hr=>by
 rcases Zm.mp hr with z|z
 .exact⟨(h r z).1,λn hn=>jX (b:=5) 3 (by have:=(h r z).2 n hn;lia) (by decide) |> λs=>bu s (by decide)⟩
 .rw[ZI.mp z];refine⟨by unfold rJ;simp,λn hn=>?_⟩
  unfold rJ at hn;obtain⟨k,hk,rfl⟩:=Zq.mp hn;have:=xU h (List.mem_range.mp hk);exact bu (jX (b:=5) 19 (by lia) (by decide)) (by decide)
theorem KC(h:∀r∈rs,R2 d r)(h1:1<=rs.length):∀r∈rs++[rJ rs d],∀n∈r,n.natAbs<=2*rs.length:=λr hr n hn=>by
 rcases Zm.mp hr with z|z
 .have:=(h r z).2 n hn;omega
 .rw[ZI.mp z]at hn;unfold rJ at hn;obtain⟨k,hk,rfl⟩:=Zq.mp hn;have:=xU h (List.mem_range.mp hk);omega
theorem Iv(hk:k<d):((rs++[rJ rs d]).map λr=>r.getD k 0).sum=0:=by
 rw[List.map_append,List.sum_append,Zj,List.map_nil,List.sum_cons,List.sum_nil,Mw hk];show(col rs k).sum+_=0
 lia
theorem zm{α β γ:Type}(f:α->γ):∀(a:List α)(b:List β),a.length=b.length->(a.zip b).map (λx=>f x.1)=a.map f
 | [],b,h=>by simp
 |x::a,[],h=>by simp at h
 |x::a,y::b,h=>by
  rw[List.zip_cons_cons,Zj,Zj,zm f a b (by simpa using h)]
theorem FT:∀(l:List Int)(k:Nat),l.length<=9->(∀n∈l,Sm k n)->Sm (k+9) l.sum:=λl k hl h=>bu (yq l k h) (by lia)
theorem De:trunc (aH 1 pH)=trunc (aH 1 oE):=rfl
theorem JB(φ:FF):trunc (aH 4 (jN φ))=trunc (aH 4 (eG φ)):=rfl
theorem Je(φ:FF):trunc (aH 2 (mR φ))=trunc (aH 2 (my φ)):=rfl
theorem Dq(φ ψ:FF):trunc (aH 5 (pA φ ψ))=trunc (aH 5 (pZ φ ψ)):=rfl
theorem HN(a b c d:FF):trunc (aH 7 (jC a b c d))=trunc (aH 7 (bQ a b c d)):=rfl
theorem yX{a b x y:Nat}(h1:a<=x)(h2:b<=y):a*b<=x*y:=Nat.mul_le_mul h1 h2
theorem Gg{A B:Nat}:∀(ns xs:List Int),(∀n∈ns,n.natAbs<=A)->(∀x∈xs,x.natAbs<=B)->(dot ns xs).natAbs<=ns.length*(A*B)
 | [],xs,_,_=>by unfold dot;simp
 |n::ns,[],_,_=>by unfold dot;simp
 |n::ns,x::xs,h1,h2=>by
  have ih:=Gg ns xs (λy hy=>h1 y (by simp[hy])) λy hy=>h2 y (by simp[hy])
  have:(n*x).natAbs<=A*B:=by rw[Int.natAbs_mul];exact yX (h1 n (by simp)) (h2 x (by simp))
  rw[nU,ZH,Nat.add_mul,Nat.one_mul];have:=Int.natAbs_add_le (n*x) (dot ns xs);omega
theorem JM(hl:row.length=d)(d3:d<=3)(hA:∀n∈row,n.natAbs<=A)(hL:KQ d lot):(jb row lot).natAbs<=15*A:=by
 unfold jb;have hne2:(lot.map λp=>-((-(dot row p.dropLast)).fdiv (aP p)))≠[]:=by simpa using hL.1
 obtain⟨p,hpm,e⟩:=Zq.mp (pX _ hne2);rw[<-e];have hb1:=(hL.2.2.1 p hpm).b1;have h1:=fO (x:=-(dot row p.dropLast)) (y:=aP p) (by omega)
 have h2:=Gg (A:=A) (B:=5) row p.dropLast hA λx hx=>(hL.2.2.2 p hpm).1 x ((List.dropLast_sublist _).mem hx);rw[Int.natAbs_neg]at h1 ⊢;have h3:row.length*(A*5)<=3*(A*5):=Nat.mul_le_mul_right _ (by omega)
 omega
theorem Fp:∀(l:List Int),(∀n∈l,n.natAbs<=B)->l.sum.natAbs<=l.length*B
 | [],_=>by simp
 |n::l,h=>by
  have ih:=Fp l λy hy=>h y (by simp[hy])
  have:=h n (by simp)
  rw[List.sum_cons,ZH,Nat.add_mul,Nat.one_mul];have:=Int.natAbs_add_le n l.sum;omega
theorem Dv{d:Nat}{far:Int}{xs:List RL}(d3:d<=3)(h:Dn d far xs)(hl:xs.length<=4):∀p∈jn d far xs,jj (d+1) p:=λp hp=>by
 unfold jn at hp;obtain⟨l,hlm,hpl⟩:=List.mem_flatten.mp hp;obtain⟨x,hx,rfl⟩:=Zq.mp hlm;obtain⟨q,hq,rfl⟩:=Zq.mp hpl;obtain⟨a,b,c,c2,c3,c4⟩:=h.2.1 x hx;have pt:=Es a b (c3 q hq) h.2.2.1;have rows6:∀y∈xs,∀n∈y.1,n.natAbs<=6:=λy hy n hn=>by
  have:=h.1.1 y hy n hn;omega
 have hs:=Fp (B:=90) (xs.map λx=>jb x.1 x.2) λn hn=>by
  obtain⟨y,hy,rfl⟩:=Zq.mp hn;have:=JM (A:=6) (h.2.1 y hy).1 d3 (rows6 y hy) (h.2.1 y hy).2.2;omega
 rw[Zu]at hs;have hf:far.natAbs<=362:=by
  have h1:=h.1.2.1;have h2:=h.1.2.2;have:xs.length*90<=4*90:=Nat.mul_le_mul_right _ hl;omega
 have hb1:=(c3 q hq).b1;have hb3:=(c4 q hq).2;refine⟨Js,λn hn=>?_,pt.b1,pt.b2⟩;unfold mv at hn;obtain⟨m,hm,rfl⟩:=Zq.mp hn;have g0:=yo (d:=d) (far:=far) (row:=x.1) hb1;have hd:=fO (x:=m) (y:=(mvG d far x.1 q:Nat)) (by omega)
 suffices m.natAbs<=10000 by omega
 rcases Zm.mp hm with z|z
 .unfold mvQ at z;obtain⟨k,hk,rfl⟩:=Zq.mp z;have hk:=List.mem_range.mp hk;obtain⟨_,m1⟩:=fH (ys:=q) (k:=(k:Int)) (by omega) (by have:=(c3 q hq).len;omega)
  obtain⟨_,m2⟩:=fH (ys:=x.1) (k:=(k:Int)) (by omega) (by omega)
  rw[show((k:Int)).toNat=k by omega]at m1 m2
  have u1:=(c4 q hq).1 _ m1;have u2:=rows6 x hx _ m2;have u3:(far*x.1.getD k 0*aP q).natAbs<=362*6*3:=by
   rw[Int.natAbs_mul,Int.natAbs_mul];exact yX (yX hf u2) (by omega)
  omega
 .rw[ZI.mp z];omega
theorem xj(hφ:lZ φ)(all:List D)(rest:Mu):∀(its:List D)(L:List Int),DlD L->∃(ns L':List Int),lcL ⟨all,none⟩ (aC 0) aW (M2 (M2 (MC (ao (aq 1) (az)) φ) (mC (.int 21)) fU) (mC (.int 10)) gO) [none,some (.cell 0)] its (some (L.map .int)::rest)=some (ns.map .int,some (L'.map .int)::rest)/\DlD L'/\ns.length=its.length/\∀n∈ns,n.natAbs<=10
 | [],L,hL=>⟨[],L,by unfold lcL;simp[bZ],hL,rfl,λn h=>by cases h⟩
 |i::its,L,hL=>by
  obtain⟨x,L1,e1,hx,hL1⟩:=jq hφ hL rest;obtain⟨ns,L2,e2,hL2,hl,hs⟩:=xj hφ all rest its L1 hL1;obtain⟨m0,m1⟩:=bV (x:=x) (m:=21) (by decide)
  generalize hq:x.fmod 21=q at *
  refine⟨(q-10)::ns,L2,?_,hL2,by simp[hl],λn hn=>?_⟩
  .unfold lcL;simp[bZ,aW,e1,hq,e2]
  .rcases Zi.mp hn with z|z
   .rw[z];omega
   .exact hs n z
theorem JZ(hφ:oO φ)(x:Int)(all:List D)(μ:Mu):∀(its:List D),(∀i∈its,∃k:Int,i= .int k/\0<=k/\k<90)->∃ns:List Int,lcL ⟨all,none⟩ (aC 0) aW (M2 (M2 (MC (ao (aq 1) (ao (M2 (aq 0) (mC (.int 1)) dm) (az))) φ) (mC (.int 9)) fU) (mC (.int 4)) gO) [none,some (.int x)] its μ=some (ns.map .int,μ)/\ns.length=its.length/\∀n∈ns,n.natAbs<=4
 | [],_=>⟨[],by unfold lcL;simp[bZ],rfl,λn h=>by cases h⟩
 |i::its,h=>by
  obtain⟨k,rfl,k0,k1⟩:=h i (by simp)
  obtain⟨ns,e,hl,hs⟩:=JZ hφ x all μ its λj hj=>h j (by simp[hj])
  obtain⟨y,ey,hy⟩:=hφ x (k+1) μ (by omega) (by omega)
  obtain⟨m0,m1⟩:=bV (x:=y) (m:=9) (by decide)
  generalize hq:y.fmod 9=q at *
  refine⟨(q-4)::ns,?_,by simp[hl],λn hn=>?_⟩
  .unfold lcL;simp[bZ,aW,ey,hq,e]
  .rcases Zi.mp hn with z|z
   .rw[z];omega
   .exact hs n z
def Nf(d:Nat)(c:Int)(sp bs:List Int):List Int:=(List.range d).map λk=>sp.getD k 0+c*bs.getD k 0
def Np(d:Nat)(c:Int)(sp bs:List Int):List Int:=(List.range d).map λk=>sp.getD k 0-c*bs.getD k 0
theorem Sh(h1:sp.length=d)(h2:bs.length=d)(hc:c.natAbs<=3)(hb:∀n∈bs,n.natAbs<=4)(all:List D)(μ:Mu):
  lcL ⟨all,none⟩ (aC 0) aW (M2 (M2 (aq 1) (aq 0) oIx) (M2 (aq 2) (M2 (aq 3) (aq 0) oIx) di) dm) [none,some (.lst (sp.map .int)),some (.int c),some (.lst (bs.map .int))] ((List.range d).map λk:Nat=>D.int (0+(k:Int))) μ=some ((Nf d c sp bs).map .int,μ):=by
 have e:=cj (all:=all) (h:=aC 0) (fe:=M2 (M2 (aq 1) (aq 0) oIx) (M2 (aq 2) (M2 (aq 3) (aq 0) oIx) di) dm) (δb:=[none,some (.lst (sp.map .int)),some (.int c),some (.lst (bs.map .int))]) (F:=λk:Nat=>D.int (0+(k:Int))) (f:=λk=>.int (sp.getD k 0+c*bs.getD k 0)) (μ:=μ) (List.range d) λk hk=>by
  have hk:=List.mem_range.mp hk;refine⟨[some (.int (0+(k:Int))),some (.lst (sp.map .int)),some (.int c),some (.lst (bs.map .int))],by simp,?_⟩
  obtain⟨a1,m1⟩:=fH (ys:=sp) (k:=0+(k:Int)) (by omega) (by omega)
  obtain⟨a2,m2⟩:=fH (ys:=bs) (k:=0+(k:Int)) (by omega) (by omega)
  rw[show(0+(k:Int)).toNat=k by omega]at a1 a2 m1 m2
  have s2:=hb _ m2;generalize sp.getD k 0=y at *
  generalize bs.getD k 0=r at *
  generalize (0+(k:Int))=j at *
  have k1:=cX (x:=c) (y:=r) (a:=2) (b:=3) μ (jX 4 (by omega) (by decide)) (jX 5 (by omega) (by decide)) (by decide)
  generalize sp.map D.int=SD at *
  generalize bs.map D.int=BD at *
  simp[a1,a2,k1]
 rw[e];unfold Nf;rw[List.map_map];rfl
theorem SN(h1:sp.length=d)(h2:bs.length=d)(hc:c.natAbs<=3)(hb:∀n∈bs,n.natAbs<=4)(all:List D)(μ:Mu):
  lcL ⟨all,none⟩ (aC 0) aW (M2 (M2 (aq 1) (aq 0) oIx) (M2 (aq 2) (M2 (aq 3) (aq 0) oIx) di) gO) [none,some (.lst (sp.map .int)),some (.int c),some (.lst (bs.map .int))] ((List.range d).map λk:Nat=>D.int (0+(k:Int))) μ=some ((Np d c sp bs).map .int,μ):=by
 have e:=cj (all:=all) (h:=aC 0) (fe:=M2 (M2 (aq 1) (aq 0) oIx) (M2 (aq 2) (M2 (aq 3) (aq 0) oIx) di) gO) (δb:=[none,some (.lst (sp.map .int)),some (.int c),some (.lst (bs.map .int))]) (F:=λk:Nat=>D.int (0+(k:Int))) (f:=λk=>.int (sp.getD k 0-c*bs.getD k 0)) (μ:=μ) (List.range d) λk hk=>by
  have hk:=List.mem_range.mp hk;refine⟨[some (.int (0+(k:Int))),some (.lst (sp.map .int)),some (.int c),some (.lst (bs.map .int))],by simp,?_⟩
  obtain⟨a1,m1⟩:=fH (ys:=sp) (k:=0+(k:Int)) (by omega) (by omega)
  obtain⟨a2,m2⟩:=fH (ys:=bs) (k:=0+(k:Int)) (by omega) (by omega)
  rw[show(0+(k:Int)).toNat=k by omega]at a1 a2 m1 m2
  have s2:=hb _ m2;generalize sp.getD k 0=y at *
  generalize bs.getD k 0=r at *
  generalize (0+(k:Int))=j at *
  have k1:=cX (x:=c) (y:=r) (a:=2) (b:=3) μ (jX 4 (by omega) (by decide)) (jX 5 (by omega) (by decide)) (by decide)
  generalize sp.map D.int=SD at *
  generalize bs.map D.int=BD at *
  simp[a1,a2,k1]
 rw[e];unfold Np;rw[List.map_map];rfl
def shD(a f s:Int):D:=.tup [.tup [.int a,.int f],.tup [.int (a+1),.int s]]
structure qP(d:Nat)(c:Nat)(ps:List D)(gs:List (List Int))(ws:List D):Prop where
 pts:∀p∈ps,uz d p
 len:ps.length<=3*c
 gl:gs.length=c
 wl:ws.length=c
 grp:∀g∈gs,g.length<=3/\∀k∈g,0<=k/\k<ps.length
 wsh:∀w∈ws,∃a f s:Int,w=shD a f s/\a.natAbs<=100/\f.natAbs<=3/\s.natAbs<=3
 lo:2*c<=ps.length
theorem BW(h:qP d c ps gs ws)(hc:c<=9)(hq:∀q∈qs,uz d q)(h2:2<=qs.length)(h3:qs.length<=3)(he:ex.length<=1)(hk:∀k∈ex,0<=k/\k<((ps++qs).length:Int))(hf:f.natAbs<=3)(hs:s.natAbs<=3):qP d (c+1) (ps++qs) (gs++[[(ps.length:Int),ps.length+1]++ex]) (ws++[shD ps.length f s]):=by
 have hl:=h.len;have hlo:=h.lo;refine⟨λp hp=>?_,by simp;omega,by simp[h.gl],by simp[h.wl],λg hg=>?_,λw hw=>?_,by simp;omega⟩
 .rcases Zm.mp hp with z|z
  .exact h.pts p z
  .exact hq p z
 .rcases Zm.mp hg with z|z
  .obtain⟨a,b⟩:=h.grp g z;refine⟨a,λk hk=>?_⟩;have:=b k hk;rw[ZG];omega
  .rw[ZI.mp z];refine⟨by simp;omega,λk hkm=>?_⟩
   rcases Zm.mp hkm with z|z
   .rw[ZG];simp only[Zi,ZF,or_false]at z
    rcases z with rfl|rfl<;>omega
   .exact hk k z
 .rcases Zm.mp hw with z|z
  .exact h.wsh w z
  .exact⟨_,f,s,ZI.mp z,by omega,hf,hs⟩
def Tt(φ:FF):Prop:=∀(L:List Int)(d m:Int),DlD L->1<=d->d<=3->1<=m->m<=4->∃(ps:List D)(gs:List (List Int))(ws:List D)(sp:D)(L':List Int),φ [.cell 0,.int d,.int m] [some (L.map .int)]=some (.tup [.lst ps,.lst (gs.map bx),.tup [sp,.tup ws]],[some (L'.map .int)])/\DlD L'/\qP d.toNat m.toNat ps gs ws/\uz d.toNat sp
theorem WT(h1:lZ φ1)(h2:oO φ2)(h3:pI φ3)(h4:yJ φ4):Tt (trunc (aH 14 (fB φ1 φ2 φ3 φ4))):=λL d m hL d1 d3 m1 m4=>by
 suffices key:∃t L',trunc (aH 14 (fB φ1 φ2 φ3 φ4)) [.cell 0,.int d,.int m] [some (L.map .int)]=some (t,[some (L'.map .int)])/\(∃(ps:List D)(gs:List (List Int))(ws:List D)(sp:D),t= .tup [.lst ps,.lst (gs.map bx),.tup [sp,.tup ws]]/\DlD L'/\qP d.toNat m.toNat ps gs ws/\uz d.toNat sp) by
  obtain⟨t,L',e,ps,gs,ws,sp,rfl,r⟩:=key;exact⟨ps,gs,ws,sp,L',e,r⟩
 apply Fe (P:=λt L'=>∃(ps:List D)(gs:List (List Int))(ws:List D)(sp:D),t= .tup [.lst ps,.lst (gs.map bx),.tup [sp,.tup ws]]/\DlD L'/\qP d.toNat m.toNat ps gs ws/\uz d.toNat sp);obtain⟨sp,L1,e0,hL1,hsl,hss⟩:=xj h1 (cW 0 d.toNat) [] (cW 0 d.toNat) L hL;rw[ir]at hsl;have rd:=λμ=>tG (j:=d) (μ:=μ) (by omega) (by omega)
 have rm:=λμ=>tG (j:=m) (μ:=μ) (by omega) (by omega)
 have zd:(cW 0 d.toNat).length<=1000:=by rw[ir];omega
 have hrd:(List.range d.toNat).map (λk:Nat=>D.int (0+(k:Int)))=cW 0 d.toNat:=rfl;have rl:(cW 0 m.toNat).length=m.toNat:=ir;have eby:=λx μ=>JZ h2 x (cW 0 d.toNat) μ (cW 0 d.toNat) λi hi=>by
  obtain⟨k,e,k0,k1⟩:=rR hi;exact⟨k,e,k0,by omega⟩
 have eadd:=λ(c:Int)(bs:List Int)(hb:bs.length=d.toNat)(hc:c.natAbs<=3)(hs:∀n∈bs,n.natAbs<=4) μ=>Sh (c:=c) hsl hb hc hs (cW 0 d.toNat) μ;have esub:=λ(c:Int)(bs:List Int)(hb:bs.length=d.toNat)(hc:c.natAbs<=3)(hs:∀n∈bs,n.natAbs<=4) μ=>SN (c:=c) hsl hb hc hs (cW 0 d.toNat) μ;rw[hrd]at eadd esub;have small:∀(c:Int)(bs:List Int)(k:Nat),bs.length=d.toNat->c.natAbs<=3->(∀n∈bs,n.natAbs<=4)->k<d.toNat->(sp.getD k 0).natAbs<=10/\(c*bs.getD k 0).natAbs<=12:=λc bs k hb hc hs hk=>by
  obtain⟨_,n1⟩:=fH (ys:=sp) (k:=(k:Int)) (by omega) (by omega)
  obtain⟨_,n2⟩:=fH (ys:=bs) (k:=(k:Int)) (by omega) (by omega)
  rw[show((k:Int)).toNat=k by omega]at n1 n2
  exact⟨hss _ n1,by rw[Int.natAbs_mul];exact yX hc (hs _ n2)⟩
 have padd:∀(c:Int)(bs:List Int),bs.length=d.toNat->c.natAbs<=3->(∀n∈bs,n.natAbs<=4)->PtL d.toNat (Nf d.toNat c sp bs) 1:=λc bs hb hc hs=>⟨by unfold Nf;simp,λn hn=>by
  obtain⟨k,hk,rfl⟩:=Zq.mp hn;have:=small c bs k hb hc hs (List.mem_range.mp hk);omega,by decide,by decide⟩
 have psub:∀(c:Int)(bs:List Int),bs.length=d.toNat->c.natAbs<=3->(∀n∈bs,n.natAbs<=4)->PtL d.toNat (Np d.toNat c sp bs) 1:=λc bs hb hc hs=>⟨by unfold Np;simp,λn hn=>by
  obtain⟨k,hk,rfl⟩:=Zq.mp hn;have:=small c bs k hb hc hs (List.mem_range.mp hk);omega,by decide,by decide⟩
 generalize hRG:cW 0 d.toNat=RG at *
 generalize hSP:sp.map D.int=SP at *
 apply pQ;unfold fB;simp[rd,zd,bW,e0,rm];refine gP (λits δ μ=>∃(L:List Int)(c:Nat)(ps:List D)(gs:List (List Int))(ws:List D)(o7 o8 o9 o10 o11 o12 o13:Option D),c+its.length=m.toNat/\DlD L/\qP d.toNat c ps gs ws/\μ=[some (L.map .int),some ps,some (gs.map bx),some ws]/\δ=[some (.cell 0),some (.int d),some (.int m),some (.lst SP),some (.cell 1),some (.cell 2),some (.cell 3),o7,o8,o9,o10,o11,o12,o13]) ?_ ?_ _ _ _ ⟨L1,0,[],[],[],none,none,none,none,none,none,none,by rw[rl,Nat.zero_add],hL1,⟨λp hp=>(by cases hp),Nat.zero_le _,rfl,rfl,λg hg=>(by cases hg),λw hw=>(by cases hw),Zg _⟩,rfl,rfl⟩
 .rintro i rest δ μ ⟨L,c,ps,gs,ws,o7,o8,o9,o10,o11,o12,o13,hi,hL,R,rfl,rfl⟩;rw[ZH]at hi;have hlen:=R.len;obtain⟨x,L2,e1,hx,hL2⟩:=jq h1 hL [some ps,some (gs.map bx),some ws];obtain⟨bs,e2,hbl,hbs⟩:=eby x [some (L2.map .int),some ps,some (gs.map bx),some ws];rw[<-hRG,ir]at hbl;have v3:=λμ=>vh (i:=x) (j:=3) (μ:=μ) (by decide) (by decide)
  have v9:=λμ=>vh (i:=x) (j:=9) (μ:=μ) (by decide) (by decide)
  have v27:=λμ=>vh (i:=x) (j:=27) (μ:=μ) (by decide) (by decide)
  obtain⟨a0,a1⟩:=bV (x:=x) (m:=3) (by decide)
  obtain⟨b0,b1⟩:=bV (x:=x.fdiv 3) (m:=3) (by decide)
  obtain⟨f,hf⟩:∃f:Int,1+x.fmod 3=f:=⟨_,rfl⟩;obtain⟨s,hs⟩:∃s:Int,1+(x.fdiv 3).fmod 3=s:=⟨_,rfl⟩;have ea:=eadd s bs hbl (by omega) hbs [some (L2.map .int),some ps,some (gs.map bx),some ws]
  obtain⟨p1,ep1,hp1⟩:=yH h3 [some (L2.map .int),some ps,some (gs.map bx),some ws] (by omega) (by omega) (padd s bs hbl (by omega) hbs)
  have es:=esub f bs hbl (by omega) hbs [some (L2.map .int),some (ps++[p1]),some (gs.map bx),some ws]
  obtain⟨p2,ep2,hp2⟩:=yH h3 [some (L2.map .int),some (ps++[p1]),some (gs.map bx),some ws] (by omega) (by omega) (psub f bs hbl (by omega) hbs)
  obtain⟨nl,hnl⟩:∃z:Int,z=ps.length:=⟨_,rfl⟩;have big:∀k,k<1000->k<sizeLine:=λk hk=>Zc hk (by decide)
  have z1:ps.length<sizeLine:=big _ (by omega)
  have z2:ps.length+1<sizeLine:=big _ (by omega)
  have z3:ps.length+1+1<sizeLine:=big _ (by omega)
  have z3':ps.length+2<sizeLine:=big _ (by omega)
  have zg:(gs.map bx).length<sizeLine:=big _ (by rw[Zu,R.gl];omega)
  have zw:ws.length<sizeLine:=big _ (by rw[R.wl];omega)
  have elen:bU (.cell 1) [some (L2.map D.int),some ps,some (gs.map bx),some ws]=some (.int nl,[some (L2.map D.int),some ps,some (gs.map bx),some ws]):=by simp[bU,dB,hnl]
  have hmu:jG [some (L2.map .int),some (ps++[p1,p2]),some (gs.map bx),some ws]:=(jG.cons (λt ht=>by
   rcases Zm.mp ht with z|z
   .exact(R.pts t z).nc
   .simp only[Zi,ZF,or_false]at z
    rcases z with rfl|rfl
    .exact hp1.nc
    .exact hp2.nc) (jG.cons (λt ht=>by
   obtain⟨g,_,rfl⟩:=Zq.mp ht;exact cB.mpr jg) (jG.cons (λt ht=>by
   obtain⟨a,f,s,rfl,_⟩:=R.wsh t ht;exact cB.mpr λy hy=>by
    simp only[Zi,ZF,or_false]at hy
    rcases hy with rfl|rfl
    .exact cB.mpr (jg (ns:=[a,f]))
    .exact cB.mpr (jg (ns:=[a+1,s]))) jG.nil))).dr
  obtain⟨p3,ep3,hp3⟩:=h4 (x.fdiv 27) d 1 0 [some (L2.map .int),some (ps++[p1,p2]),some (gs.map bx),some ws] hmu (by unfold Dr at *;rw[Int.fdiv_eq_ediv_of_nonneg _ (by decide)];omega) d1 d3 (by decide) (by decide) (by decide) (by decide)
  have M1:=BW R (by omega) (qs:=[p1,p2]) (λq hq=>by
   simp only[Zi,ZF,or_false]at hq
   rcases hq with rfl|rfl<;>assumption) (by simp) (by simp) (ex:=[]) (by simp) (λk hk=>by cases hk) (f:=f) (s:=s) (by omega) (by omega)
  have M2:=BW R (by omega) (qs:=[p1,p2,p3]) (λq hq=>by
   simp only[Zi,ZF,or_false]at hq
   rcases hq with rfl|rfl|rfl<;>assumption) (by simp) (by simp) (ex:=[(ps.length:Int)+2]) (by simp) (λk hk=>by
   rw[ZI.mp hk,ZG];simp;omega) (f:=f) (s:=s) (by omega) (by omega)
  rw[<-hnl]at M1 M2;generalize bs.map D.int=BS at *
  generalize (Nf d.toNat s sp bs).map D.int=AK at *
  generalize (Np d.toNat f sp bs).map D.int=SK at *
  have y1:(1:Nat)<=sizeLine:=szl (by decide)
  have y2:(2:Nat)<=sizeLine:=szl (by decide)
  have y3:(3:Nat)<=sizeLine:=szl (by decide)
  have fin:∀(ps':List D)(g:List Int)(w:D)(o7 o8 o9 o10 o11 o12 o13:Option D),qP d.toNat (c+1) ps' (gs++[g]) (ws++[w])->∃(L:List Int)(c:Nat)(ps:List D)(gs':List (List Int))(ws':List D)(p7 p8 p9 p10 p11 p12 p13:Option D),c+rest.length=m.toNat/\DlD L/\qP d.toNat c ps gs' ws'/\([some (L2.map D.int),some ps',some (gs.map bx++[bx g]),some (ws++[w])]:Mu)=[some (L.map .int),some ps,some (gs'.map bx),some ws']/\([some (.cell 0),some (.int d),some (.int m),some (.lst SP),some (.cell 1),some (.cell 2),some (.cell 3),o7,o8,o9,o10,o11,o12,o13]:En)=[some (.cell 0),some (.int d),some (.int m),some (.lst SP),some (.cell 1),some (.cell 2),some (.cell 3),p7,p8,p9,p10,p11,p12,p13]:=λps' g w o7 o8 o9 o10 o11 o12 o13 h=>
   ⟨L2,c+1,ps',gs++[g],ws++[w],o7,o8,o9,o10,o11,o12,o13,by omega,hL2,h,by simp,rfl⟩
  by_cases h9:(x.fdiv 9).fmod 3=0
  .have F:=fin _ _ _ (some i) (some (.int x)) (some (.lst BS)) (some (.int f)) (some (.int s)) (some (.int nl)) (some (.tup [.int (nl+2)])) M2;rw[show bx ([nl,nl+1]++[nl+2])=D.tup [.int nl,.int (nl+1),.int (nl+2)]from rfl]at F;unfold shD at F;generalize gs.map bx=GS at *
   simp[e1,rd,zd,bW,e2,v3,hf,hs,elen,ea,ep1,gM,jc,z1,es,ep2,z2,v9,h9,v27,ep3,z3,z3',zg,zw,y1,y2,y3];simpa using F
  .have h9':((x.fdiv 9).fmod 3==0)=false:=ZM.mpr h9;have F:=fin _ _ _ (some i) (some (.int x)) (some (.lst BS)) (some (.int f)) (some (.int s)) (some (.int nl)) (some (.tup [])) M1;rw[show bx ([nl,nl+1]++[])=D.tup [.int nl,.int (nl+1)]from rfl]at F;unfold shD at F;generalize gs.map bx=GS at *
   simp[e1,rd,zd,bW,e2,v3,hf,hs,elen,ea,ep1,gM,jc,z1,es,ep2,z2,v9,h9',v27,z3,z3',zg,zw,y1,y2,y3];simpa using F
 .rintro δ μ ⟨L,c,ps,gs,ws,o7,o8,o9,o10,o11,o12,o13,hi,hL,R,rfl,rfl⟩;have hc:c=m.toNat:=by simpa using hi
  subst hc;obtain⟨q,eq,hq⟩:=yH h3 [some (L.map .int),none,none,some ws] (d:=d.toNat) (ns:=sp) (b:=1) (by omega) (by omega) ⟨hsl,λn hn=>by have:=hss n hn;omega,by decide,by decide⟩
  rw[hSP]at eq;have zw:ws.length<=1000:=by rw[R.wl];omega
  have hnc:nc (.tup [.lst ps,.lst (gs.map bx),.tup [q,.tup ws]]):=cB.mpr λt ht=>by
   simp only[Zi,ZF,or_false]at ht
   rcases ht with rfl|rfl|rfl
   .exact rD.mpr λp hp=>(R.pts p hp).nc
   .exact rD.mpr λt ht=>by
     obtain⟨g,_,rfl⟩:=Zq.mp ht;exact cB.mpr jg
   .refine cB.mpr λt ht=>?_;simp only[Zi,ZF,or_false]at ht
    rcases ht with rfl|rfl
    .exact hq.nc
    .exact cB.mpr λt ht=>by
      obtain⟨a,f,s,rfl,_⟩:=R.wsh t ht;exact cB.mpr λy hy=>by
       simp only[Zi,ZF,or_false]at hy
       rcases hy with rfl|rfl
       .exact cB.mpr (jg (ns:=[a,f]))
       .exact cB.mpr (jg (ns:=[a+1,s]))
  have fin:∃(ps':List D)(gs':List (List Int))(ws':List D)(sp':D),D.tup [.lst ps,.lst (gs.map bx),.tup [q,.tup ws]]= .tup [.lst ps',.lst (gs'.map bx),.tup [sp',.tup ws']]/\DlD L/\qP d.toNat m.toNat ps' gs' ws'/\uz d.toNat sp':=⟨ps,gs,ws,q,rfl,hL,R,hq⟩;generalize gs.map bx=GS at *
  simp[eq,zw];exact⟨_,L,⟨rfl,rfl⟩,hnc,fin⟩
theorem DW(h1:lZ φ1)(h2:oO φ2)(h3:Af φ3)(h4:yM φ4)(h5:pI φ5):zQ (trunc (aH 17 (mH φ1 φ2 φ3 φ4 φ5))):=λL d m hL d1 d3 m2 m5=>by
 suffices key:∃D L',trunc (aH 17 (mH φ1 φ2 φ3 φ4 φ5)) [.cell 0,.int d,.int m] [some (L.map .int)]=some (D,[some (L'.map .int)])/\(∃(xs:List RL)(far:Int),D=ApV d.toNat far xs/\DlD L'/\Dn d.toNat far xs/\(xs.length:Int)=m) by
  obtain⟨D,L',e,xs,far,rfl,a,b,c⟩:=key;exact⟨xs,far,L',e,a,b,c⟩
 apply Fe (P:=λD L'=>∃(xs:List RL)(far:Int),D=ApV d.toNat far xs/\DlD L'/\Dn d.toNat far xs/\(xs.length:Int)=m);obtain⟨rows,L1,o4,e1,hL1,hl1,hr1⟩:=st1 h1 d1 d3 m (List.replicate 12 none) (cW 0 (m-1).toNat) (m-1).toNat (cW 0 (m-1).toNat) (ir ..) (by omega) L [] none hL (by simp;omega) (λr hr=>by cases hr)
 rw[List.map_nil]at e1;rw[List.length_nil,Nat.zero_add]at hl1;cases rows with
 |nil=>simp at hl1;omega
 |cons r0 rest=>
 obtain⟨r1,e2,hR1,hq1⟩:=st2 (m:=m) (tl:=o4::List.replicate 12 none) (L:=L1) d1 d3 hr1;obtain⟨rows2,hrows2⟩:∃rows2,r1::rest=rows2:=⟨_,rfl⟩;have hr2:∀r∈rows2,R2 d.toNat r:=λr hr=>by
  rw[<-hrows2]at hr
  rcases Zi.mp hr with z|z
  .rw[z];exact hR1
  .exact hr1 r (by simp[z])
 have hl2:rows2.length=(m-1).toNat:=by rw[<-hrows2,<-hl1];simp
 rw[hrows2]at e2;have e3:=SX (c:=1) (d:=d.toNat) (rs:=rows2) (μ:=[some (L1.map .int),some (rows2.map aD)]) rfl (by omega) (λr hr=>(hr2 r hr).1) (cW 0 d.toNat)
 have hrd:(List.range d.toNat).map (λk:Nat=>D.int (0+(k:Int)))=cW 0 d.toNat:=rfl;rw[hrd]at e3;have hr3:=Oi hr2 (by omega)
 have hs3:=KC (d:=d.toNat) hr2 (by omega)
 obtain⟨rows3,hrows3⟩:∃rows3,rows2++[rJ rows2 d.toNat]=rows3:=⟨_,rfl⟩;have hl3:rows3.length=m.toNat:=by rw[<-hrows3];simp;omega
 have hcol:∀k<d.toNat,(rows3.map λr=>r.getD k 0).sum=0:=λk hk=>by rw[<-hrows3];exact Iv hk
 have hsq:1<=(rows3.map sqV).sum:=by rw[<-hrows3,<-hrows2];exact Ov (by rw[List.cons_append]) hq1
 rw[hrows3]at hr3 hs3;have hm3:rows2.map aD++[aD (rJ rows2 d.toNat)]=rows3.map aD:=by rw[<-hrows3];simp
 obtain⟨lots,L2,o6,o7,e4,hL2,hl4,hlots⟩:=st4 h1 h2 h3 d1 d3 m o4 (List.replicate 9 none) (rows3.map aD) (λt ht=>by
  obtain⟨r,_,rfl⟩:=Zq.mp ht;exact DX r) m.toNat (rows3.map aD) (by simp[hl3]) (by omega) L1 [] none none hL1 (by simp;omega)
 rw[List.map_nil,List.nil_append]at e4;obtain⟨xs,hxs⟩:∃xs:List RL,rows3.zip lots=xs:=⟨_,rfl⟩;have hxl:xs.length=m.toNat:=by rw[<-hxs,List.length_zip];omega
 have hX:∀x∈xs,XOk d.toNat x:=λx hx=>by
  rw[<-hxs]at hx;have hm:=List.of_mem_zip (a:=x.1) (b:=x.2) hx;exact⟨(hr3 _ hm.1).1,(hr3 _ hm.1).2,hlots _ hm.2⟩
 have ez:=iB (F:=aD) (G:=lL) rows3 lots;rw[hxs]at ez;have ez:jZ (rows3.map aD) (lots.map lL)=xs.map zD:=ez;have e5:=λμ=>cj (all:=xs.map zD) (h:=eQ 2 (aN (aC 0) (aN (aC 1) (eO)))) (fe:=MC (ao (aq 0) (ao (aq 1) (az))) φ4) (δb:=[none,none]) (F:=zD) (f:=λx=>.int (jb x.1 x.2)) (μ:=μ) xs λx hx=>by
  obtain⟨a,b,c,c2,c3,_⟩:=hX x hx;have:=h4 d.toNat x.1 x.2 μ (by omega) a b c (by omega) (λp hp=>(c3 p hp).mono (by decide))
  have:φ4 [aD x.1,lL x.2] μ=_:=this;have ezx:zD x= .tup [aD x.1,lL x.2]:=rfl;rw[ezx];generalize aD x.1=R at *
  generalize lL x.2=T at *
  exact⟨[some R,some T],by simp,by simp[this]⟩
 have e5':xs.map (λx=>D.int (jb x.1 x.2))=(xs.map λx=>jb x.1 x.2).map D.int:=by simp
 rw[e5']at e5;have e6:=λμ=>lF μ (xs.map λx=>jb x.1 x.2) 0;simp only[Int.zero_add]at e6;have sleast:Sm 55 (xs.map λx=>jb x.1 x.2).sum:=FT _ 46 (by simp;omega) λn hn=>by
  obtain⟨x,hx,rfl⟩:=Zq.mp hn;obtain⟨a,b,c,c2,c3,_⟩:=hX x hx;exact IK (by omega) a b c c3
 have e7:=λμ=>cj (all:=rows3.map aD) (h:=aC 0) (fe:=pN (gZ (mFz (lLC ["_law_one"] [] (cR (aq 0)) (aC 0) (aW) (M2 (aq 0) (aq 0) di))))) (δb:=[none]) (F:=aD) (f:=λr=>.int (sqV r)) (μ:=μ) rows3 λr hr=>by
  have q1:=XD r (hr3 r hr).2 (r.map D.int) μ;have q2:=lF μ (r.map λn=>n*n) 0;rw[Int.zero_add]at q2;have q2:_=some (sqV r,μ):=q2;have src:lQ (aD r) μ=some ⟨r.map .int,none⟩:=rfl;have zz:(r.map D.int).length<=1000:=by have:=(hr3 r hr).1;simp;omega
  generalize (r.map λn=>n*n).map D.int=QD at *
  generalize r.map D.int=ND at *
  generalize aD r=R at *
  exact⟨[some R],by simp,by simp[src,zz,bW,q1,q2]⟩
 have e7':rows3.map (λr=>D.int (sqV r))=(rows3.map sqV).map D.int:=by simp
 rw[e7']at e7;have e8:=λμ=>lF μ (rows3.map sqV) 0;simp only[Int.zero_add]at e8;have ssq:Sm 60 (rows3.map sqV).sum:=bu (FT _ 45 (by simp;omega) λn hn=>by
  obtain⟨r,hr,rfl⟩:=Zq.mp hn;have:=(hr3 r hr).1;refine bu (yq (r.map λn=>n*n) 42 λy hy=>?_) (by simp;omega)
  obtain⟨n,hn,rfl⟩:=Zq.mp hy;exact kI ((hr3 r hr).2 n hn) ((hr3 r hr).2 n hn)) (by decide)
 have hsum:(xs.map λx=>sqV x.1).sum=(rows3.map sqV).sum:=by rw[<-hxs,zm sqV rows3 lots (by omega)]
 have hcol2:∀k<d.toNat,(xs.map λx=>x.1.getD k 0).sum=0:=λk hk=>by
  have:=zm (λr=>r.getD k 0) rows3 lots (by omega)
  rw[hxs]at this;rw[this];exact hcol k hk
 obtain⟨least,hleast⟩:∃z,(xs.map λx=>jb x.1 x.2).sum=z:=⟨_,rfl⟩;obtain⟨square,hsquare⟩:∃z,(rows3.map sqV).sum=z:=⟨_,rfl⟩;rw[hleast]at e6 sleast;rw[hsquare]at e8 ssq hsq hsum;obtain⟨x,L3,ex,hx,hL3⟩:=jq h1 hL2 [none,none];obtain⟨f0,f1⟩:=bV (x:=x) (m:=2) (by decide)
 obtain⟨far,hfar⟩:∃z,(max 0 least).fdiv square+1+x.fmod 2=z:=⟨_,rfl⟩;have ediv:=λμ=>iC (x:=max 0 least) (y:=square) (b:=60) μ (by omega) ssq (by decide)
 have sfar:Sm 100 far:=by
  have:=fO (x:=max 0 least) (y:=square) (by omega)
  have hm:(max 0 least).natAbs<=least.natAbs:=by omega
  have s2:Sm 55 ((max 0 least).fdiv square):=by unfold Sm at *;omega
  have s3:Sm 55 (1+x.fmod 2):=bu (jX (b:=2) 4 (by omega) (by decide)) (by decide)
  rw[<-hfar,Int.add_assoc];exact bu (Dy s2 s3) (by decide)
 have hXs:∀x∈xs,∀n∈x.1,n.natAbs<=2*(xs.length-1):=λx hx n hn=>by
  rw[<-hxs]at hx;have:=hs3 _ (List.of_mem_zip (a:=x.1) (b:=x.2) hx).1 n hn;omega
 have hfd:0<=(max 0 least).fdiv square/\(max 0 least).fdiv square<=max 0 least:=by
  rw[Int.fdiv_eq_ediv_of_nonneg _ (by omega)]
  exact⟨Int.ediv_nonneg (by omega) (by omega),Int.ediv_le_self _ (by omega)⟩
 have hfar0:0<=far:=by omega
 have hfar1:far<=max 0 least+2:=by omega
 have hfit:=Su hsq f0 hfar.symm;obtain⟨J',p6,p14,p15,p16,e9⟩:=st7 h5 h4 d1 d3 sfar (xs.map zD) (L3.map .int) (some (.cell 0)) (some (.int m)) (some (.lst (rows3.map aD))) o4 (some (.lst (lots.map lL))) o7 (some (.int least)) (some (.int square)) xs [] [] o6 none none none (λy hy=>by cases hy) hX (by simp;omega)
 rw[List.nil_append]at e9;have n1:jn d.toNat far []=[]:=rfl;have n2:nH d.toNat far []=[]:=rfl;have n3:mj d.toNat far []=[]:=rfl;rw[n1,n2,n3]at e9;simp only[List.map_nil]at e9;have hP:ApV d.toNat far xs= .tup [.lst ((jn d.toNat far xs).map aD),.lst ((nH d.toNat far xs).map bx),.tup ((mj d.toNat far xs).map cV)]:=rfl;have fin:∃(xs':List RL)(far':Int),ApV d.toNat far xs=ApV d.toNat far' xs'/\DlD L3/\Dn d.toNat far' xs'/\(xs'.length:Int)=m:=⟨xs,far,rfl,hL3,⟨⟨hXs,hfar0,by rw[hleast];exact hfar1⟩,hX,sfar,hcol2,by rw[hleast,hsum];exact hfit⟩,by omega⟩
 have hnc:nc (ApV d.toNat far xs):=by
  rw[hP];refine cB.mpr λt ht=>?_;simp only[Zi,ZF,or_false]at ht
  rcases ht with rfl|rfl|rfl
  .exact rD.mpr λt ht=>by
    obtain⟨r,_,rfl⟩:=Zq.mp ht;exact DX r
  .exact rD.mpr λt ht=>by
    obtain⟨r,_,rfl⟩:=Zq.mp ht;exact cB.mpr jg
  .exact cB.mpr λt ht=>by
    obtain⟨w,_,rfl⟩:=Zq.mp ht;exact cB.mpr λt ht=>by
     simp only[Zi,ZF,or_false]at ht
     rcases ht with rfl|rfl
     .exact DX _
     .exact ym
 have zW:((mj d.toNat far xs).map cV).length<=sizeLine:=szl (by unfold mj;simp;omega)
 have rm:=tG (j:=m-1) (μ:=[some (L.map .int),some []]) (by omega) (by omega)
 have rdd:=λμ=>tG (j:=d) (μ:=μ) (by omega) (by omega)
 have zd:(cW 0 d.toNat).length<=1000:=by rw[ir];omega
 have z2:(rows2.map aD).length<sizeLine:=Zc (by simp;omega:_<1000) (by decide)
 have z3:(rows3.map aD).length<=1000:=by simp;omega
 have zx:(xs.map zD).length<=1000:=by simp;omega
 have src3:lQ (.cell 1) [some (L1.map D.int),some (rows3.map aD),some []]=some ⟨rows3.map aD,some 1⟩:=rfl;have ern:aD (rJ rows2 d.toNat)= .tup ((rJ rows2 d.toNat).map .int):=rfl;rw[ern]at hm3;rw[hP]at fin hnc;generalize (jn d.toNat far xs).map aD=FP at *
 generalize (nH d.toNat far xs).map bx=FG at *
 generalize (mj d.toNat far xs).map cV=FW at *
 generalize (rJ rows2 d.toNat).map D.int=NS at *
 generalize (xs.map λx=>jb x.1 x.2).map D.int=CS at *
 generalize (rows3.map sqV).map D.int=SQ at *
 generalize xs.map zD=ZD at *
 generalize rows3.map aD=RD3 at *
 generalize rows2.map aD=RD2 at *
 generalize (r0::rest).map aD=RD0 at *
 generalize lots.map lL=LD at *
 generalize cW 0 d.toNat=RG at *
 generalize cW 0 (m-1).toNat=RM at *
 simp only[List.replicate]at e1 e2 e4;apply pQ;unfold mH;have f1:fJ (.lst RD3)=some RD3:=rfl;have f2:fJ (.lst LD)=some LD:=rfl;simp[rm,e1,e2,rdd,zd,bW,e3,gM,jc,z2,hm3,src3,e4,f1,f2,ez,e5,zx,e6,z3,e7,e8,ex,ediv,hfar,e9,zW];exact⟨_,L3,⟨rfl,rfl⟩,hnc,fin⟩
set_option maxHeartbeats 1000000
theorem Qj(h:∀d∈ds,ThV d)(hl:ds.length<=60):Vv (.tup ds):=⟨cB.mpr λd hd=>(h d hd).1.1,λes e=>by cases e;exact⟨hl,h⟩⟩
def WS(w:List Int×Int):Prop:=w.1≠[]/\w.1.length<=9/\(∀n∈w.1,Sm 500 n)/\Sm 500 w.2
instance smDec (k : Nat) (i : Int) : Decidable (Sm k i) := inferInstanceAs (Decidable (i.natAbs < 2 ^ k))
def okN:Nat->D->Bool
 |_,.non=>true
 |_,.bl _=>true
 |_,.str _=>true
 |_,.int i=>decide (i.natAbs<2 ^ 100)||decide (Sm 500 i)
 |n+1,.tup ds=>decide (ds.length<=60)&&ds.all (okN n)
 |n+1,.lst ds=>ds.all (okN n)
 |0,.tup _=>false
 |0,.lst _=>false
 |_,.ro _=>false
 |_,.dic _=>false
 |_,.cell _=>false
theorem mY:okN (n+1) (.tup ds)=(decide (ds.length<=60)&&ds.all (okN n)):=by
 rw[okN]
theorem GQ:okN (n+1) (.lst ds)=ds.all (okN n):=by
 rw[okN]
theorem yL(h:okN n (.int i)=true):Sm 2000 i:=by
 have h:(decide (i.natAbs<2 ^ 100)||decide (Sm 500 i))=true:=by
  cases n<;>(rw[okN]at h;exact h)
 rw[Bool.or_eq_true]at h
 rcases h with h|h
 .exact bu (show Sm 100 i from(of_decide_eq_true h:i.natAbs<2 ^ 100)) (by decide)
 .exact bu (show Sm 500 i from of_decide_eq_true h) (by decide)
theorem Bp:∀{n:Nat}{d:D},okN n d=true->okD n d
 |n,.non,_=>by cases n<;>exact trivial
 |n,.bl _,_=>by cases n<;>exact trivial
 |n,.str _,_=>by cases n<;>exact trivial
 |n,.int i,h=>by
  have:=yL h;cases n<;>exact this
 |0,.tup ds,h=>by rw[okN]at h;cases h
 |n+1,.tup ds,h=>by
  rw[mY,Zo,List.all_eq_true]at h;intro d hd;exact Bp (h.2 d hd)
 |0,.lst ds,h=>by rw[okN]at h;cases h
 |n+1,.lst ds,h=>by
  rw[GQ,List.all_eq_true]at h;intro d hd;exact Bp (h d hd)
 |n,.ro ds,h=>by cases n<;>(rw[okN]at h;cases h)
 |n,.dic _,h=>by cases n<;>(rw[okN]at h;cases h)
 |n,.cell _,h=>by cases n<;>(rw[okN]at h;cases h)
theorem El:∀{n:Nat}{d:D},okN n d=true->okN (n+1) d=true
 |n,.non,_=>by cases n<;>rw[okN]
 |n,.bl _,_=>by cases n<;>rw[okN]
 |n,.str _,_=>by cases n<;>rw[okN]
 |n,.int i,h=>by cases n<;>(rw[okN]at h ⊢;exact h)
 |0,.tup ds,h=>by rw[okN]at h;cases h
 |n+1,.tup ds,h=>by
  rw[mY,Zo,List.all_eq_true]at h ⊢;exact⟨h.1,λd hd=>El (h.2 d hd)⟩
 |0,.lst ds,h=>by rw[okN]at h;cases h
 |n+1,.lst ds,h=>by
  rw[GQ,List.all_eq_true]at h ⊢
  exactλd hd=>El (h d hd)
 |n,.ro ds,h=>by cases n<;>(rw[okN]at h;cases h)
 |n,.dic _,h=>by cases n<;>(rw[okN]at h;cases h)
 |n,.cell _,h=>by cases n<;>(rw[okN]at h;cases h)
theorem yR(h:okN n (.tup ds)=true):ds.length<=60:=by
 cases n with
 |zero=>rw[okN]at h;cases h
 |succ n=>
  rw[mY,Zo]at h;exact of_decide_eq_true h.1
theorem uI(h:okN (n+1) (.tup ds)=true):∀d∈ds,okN n d=true:=by
 rw[mY,Zo,List.all_eq_true]at h;exact h.2
theorem Yo(h:okN (n+2) t=true):ThV t:=by
 have key:∀a b,t= .tup [.tup a,b]->(∀i,D.int i∈a->Sm 2000 i)/\okN (n+1) b=true/\a.length<=60:=λa b e=>by
  subst e;have hm:=uI h;have ha:=hm (.tup a) (by simp)
  exact⟨λi hi=>yL (uI ha _ hi),hm b (by simp),yR ha⟩
 refine⟨⟨(lG (Bp h)).2.2,λds m e=>⟨(key _ _ e).1,yL (key _ _ e).2.1⟩⟩,λa b e=>?_⟩;have:=(key a b e).2.2
 lia
def TQ(t:D):Prop:=Vv t/\okT t/\okP t
def OkE(e:D):Prop:=(∃kv,e= .dic kv/\nc e)∨okN 4 e=true
theorem OkE.nc(h:OkE e):nc e:=by
 rcases h with⟨_,_,h⟩|h
 .exact h
 .exact(lG (Bp h)).2.2
theorem OkE.V(h:OkE e):ThV e:=by
 rcases h with⟨kv,rfl,h⟩|h
 .exact thvN h λa b z=>by cases z
 .exact Yo h
theorem OkE.ro(h:OkE e):∀es,e≠ .ro es:=λes z=>by
 subst z
 rcases h with⟨kv,z,_⟩|h
 .cases z
 .rw[okN]at h;cases h
theorem OkE.mem(h:OkE e):∀es,e= .tup es->∀x∈es,okD 58 x/\zL x<=60:=λes z x hx=>by
 subst z
 rcases h with⟨kv,z,_⟩|h
 .cases z
 .have q:=uI h x hx;refine⟨Ep (k:=55) (Bp q),?_⟩;cases x with
  |tup ds=>exact yR q
  |_=>exact Nat.zero_le _
theorem qY(h:∀e∈ds,OkE e)(hl:ds.length<=60):TQ (.tup ds):=by
 refine⟨Qj (λe he=>(h e he).V) hl,⟨cB.mpr λe he=>(h e he).nc,λes z=>(by cases z),λa b z=>?_⟩,?_⟩
 .cases z;exact⟨⟨(h a (by simp)).ro,λes z x hx=>((h a (by simp)).mem es z x hx).1⟩,(h b (by simp)).ro,λes z x hx=>((h b (by simp)).mem es z x hx).1⟩
 .unfold okP;split
  .rename_i sp rows z;cases z
   exactλr hr=>((h (.tup rows) (by simp)).mem rows rfl r hr).2
  .trivial
theorem JV(h:nc t)(h1:∀ds,t≠ .tup ds)(h2:∀ds,t≠ .ro ds):TQ t:=by
 refine⟨⟨h,λds e=>absurd e (h1 ds)⟩,⟨h,h2,λa b e=>absurd e (h1 _)⟩,?_⟩;unfold okP;split
 .exact absurd rfl (h1 _)
 .trivial
theorem tq_e(h:OkE e):TQ e:=by
 cases e with
 |tup ds=>
  rcases h with⟨kv,z,_⟩|h
  .cases z
  .refine qY (λe he=>.inr ?_) (yR h);have:=uI h e he;exact El this
 |_=>exact JV h.nc (λds z=>by cases z) h.ro
theorem Xz(h:Sm 500 i):okN n (.int i)=true:=by
 cases n<;>(rw[okN,Bool.or_eq_true];exact .inr (decide_eq_true h))
theorem Gh{n:Nat}{ns:List Int}(h:∀i∈ns,Sm 500 i)(hl:ns.length<=60):okN (n+1) (.tup (ns.map .int))=true:=by
 rw[mY,Zo,List.all_eq_true];refine⟨decide_eq_true (by simpa using hl),λd hd=>?_⟩
 obtain⟨i,hi,rfl⟩:=Zq.mp hd;exact Xz (h i hi)
theorem ptE{d:Nat}{p:D}(h:uz d p)(hd:d<=3):OkE p:=by
 obtain⟨ns,b,rfl,⟨hl,hn,b1,b2⟩,_⟩:=h;refine .inr (Gh (λi hi=>?_) (by simp;lia))
 rcases Zm.mp hi with z|z
 .exact bu (jX (b:=14) 10001 (by have:=hn i z;lia) (by decide)) (by decide)
 .rw[ZI.mp z];exact bu (jX (b:=6) 61 (by lia) (by decide)) (by decide)
theorem Yh{w:List Int×Int}(h:WS w):OkE (cV w):=by
 refine .inr ?_;unfold cV aD;rw[mY,Zo,List.all_eq_true];refine⟨by simp,λd hd=>?_⟩
 simp only[Zi,ZF,or_false]at hd
 rcases hd with rfl|rfl
 .exact Gh h.2.2.1 (by have:=h.2.1;lia)
 .exact Xz h.2.2.2
theorem shE{ws:List D}(h:∀w∈ws,∃a f s:Int,w=shD a f s/\a.natAbs<=100/\f.natAbs<=3/\s.natAbs<=3)(hl:ws.length<=60):OkE (.tup ws):=by
 refine .inr ?_;rw[mY,Zo,List.all_eq_true];refine⟨decide_eq_true hl,λd hd=>?_⟩;obtain⟨a,f,s,rfl,ha,hf,hs⟩:=h d hd;have sm:∀i:Int,i.natAbs<=200->Sm 500 i:=λi hi=>bu (jX (b:=8) 201 (by omega) (by decide)) (by decide)
 unfold shD;rw[mY,Zo,List.all_eq_true];refine⟨by simp,λd hd=>?_⟩
 simp only[Zi,ZF,or_false]at hd
 rcases hd with rfl|rfl
 .exact Gh (ns:=[a,f]) (λi hi=>by
   simp only[Zi,ZF,or_false]at hi
   rcases hi with rfl|rfl<;>exact sm _ (by omega)) (by simp)
 .exact Gh (ns:=[a+1,s]) (λi hi=>by
   simp only[Zi,ZF,or_false]at hi
   rcases hi with rfl|rfl<;>exact sm _ (by omega)) (by simp)
theorem jj.spR(h:jj (d+1) p):SpR d p:=⟨h.len,λx hx=>bu (jX (b:=14) 10001 (by have:=h.sm x hx;lia) (by decide)) (by decide)⟩
theorem Oz(d1:1<=d)(d3:d<=3)(h:qP d c ps gs ws)(c1:1<=c)(c4:c<=4):∃qs:List (List Int),ps=qs.map aD/\Geo d qs/\Nt d qs gs:=by
 obtain⟨qs,rfl,hq⟩:=Aa ps h.pts;have hl:=h.len;have hps:=h.lo;rw[Zu]at hl hps;have hne:qs≠[]:=λz=>by rw[z]at hps;simp at hps;lia
 refine⟨qs,rfl,⟨d1,d3,hq,by lia,hne⟩,⟨d1,by lia,hne,λp hp=>(hq p hp).spR,λz=>?_,by rw[h.gl];lia,λg hg=>?_⟩⟩
 .have:=h.gl;rw[z]at this;simp at this
  lia
 .obtain⟨a,b⟩:=h.grp g hg;refine⟨by lia,λk hk=>?_⟩
  have:=b k hk
  rwa[Zu]at this
end LG
namespace Lk34
open PySem PySem.Spec PyProof.Rows L2 L3 LG
theorem Wz:pJ iR:=λa b μ=>iZ (Ou a b μ)
theorem Uw:pJ bG:=λa b μ=>iZ (Sg a b μ)
theorem Ld:oO cg:=λx k μ h0 h1=>by
 obtain⟨r,e,h⟩:=Ul x k μ h0 h1;exact⟨r,iZ e,h⟩
theorem vA:lZ bA:=Nj
theorem UV:yw kE:=Ji Ld
theorem Ky:pI aR:=λns b μ h1 h2 h3 h4=>iZ (VP Wz ns b μ h1 h2 h3 h4)
theorem pt2':Af fP:=Uo Ld Ie Ky
theorem Tc:yJ fP:=KY Ld JF Ky
theorem Yr:ug cZ:=NK
theorem Df:ug bC:=by
 have:=NZ;rw[<-De]at this;exact this
theorem Jr:yF bB:=CQ Yr
theorem YW(k l:Bool)(μ:Mu):lB [.bl k,.bl l] μ=some (.bl (k==l),μ):=Ol k l μ
theorem sum':yC gQ:=by
 have:=QK;rw[<-La]at this;exact this
theorem QR:vY iw:=by
 have:=behind_of sum' (φ2:=jh) My;rw[<-Az]at this;exact this
theorem Yc:zQ kY:=DW vA Ld pt2' (Ls sum') Ky
theorem Vl:Tt dO:=WT vA Ld Ky Tc
theorem XM:FQ gm:=λd t μ h k=>by
 have:=PL Df d t μ h k;rw[<-Je]at this;exact this
theorem Uq:uG jM:=by
 have:=Lb XM QR;rw[<-Dq]at this;exact this
theorem Wf:uG eU:=Kl CZ (λd t μ h=>QC CZ Jr Yr d t μ h) (part_of (HY NB)) (Jf Qa)
theorem SM:vd bh:=λns μ=>iZ (Eh Uw ns μ)
theorem Yt:Ew iU:=λns μ h1 h2 h3=>iZ (RP SM ns μ h1 h2 h3)
theorem VH:BX iV:=λm d μ h=>Bh Jr m d μ h
theorem Rk:xX iz:=λm d μ h=>yt VH m d μ h
theorem Vk:zj mz:=Nv (over_of (QB Uw)) (Ef NB) Yt
theorem WM:wV bh:=CJ Uw
theorem ZW:Hd jE:=Em Jr WM
theorem Pq:sy dI:=HD CZ ZW (JX (Us Rk) Vk)
theorem Jp:ye dD:=λm d μ h=>by
 have:=uR Df m d μ h;rw[<-JB]at this;exact this
theorem Lx:sy dJ:=by
 have:=wC Df (Rp Wz) Jp (Ei Wz Ky);rw[<-HN]at this;exact this
def qz:List D:=[.non,.bl true,.bl false,.int 0,.int 1,.int (-1),.str "",.str "0 1",.tup [],.lst [],.dic [],.tup [.tup []],.lst [.tup []],.tup [.non],.tup [.tup [.int 0,.int 1]],.lst [.tup [.int 0,.int 1]],
 .tup [.lst [.int 0,.int 1]],.dic [(.inl 0,.int 1)],.tup [.tup [.int 0,.int 1,.int 2]],.tup [.tup [.int 0,.bl true]],.tup [.tup [.bl false,.int 1]],.tup [.tup [.str "0",.int 1]],.tup [.tup [.tup [.int 0],.int 0]],
 .tup [.tup [.int 0,.int 0],.int 0],.tup [.tup [.int 0,.int 1],.non],.tup [.tup [.int 1,.int 0],.int 0],.tup [.lst [.int 1,.int 0],.int 0],.tup [.tup [.bl true,.int 0],.int 1],.tup [.tup [.int 1],.int 0],.tup [.int 1,.int 0],
 .tup [.int 0,.int 0,.int 0],.tup [.tup [.int 0,.int 1],.tup [.int 1,.int 1]],.tup [.tup [],.tup []],.tup [.tup [],.int 0]]
theorem KN:∀d∈qz,nc d:=by
 have h:pg 0 qz=true:=by unfold qz;simp[pg,cLt,wA]
 exact su.mp h
theorem GR:∀d∈qz,OkE d:=λd hd=>by
 have hn:=KN d hd;have h:∀d∈qz,(∃kv,d= .dic kv)∨okN 4 d=true:=by
  have q:qz.all (λd=>match d with| .dic _=>true|d=>okN 4 d)=true:=by unfold qz;simp[okN]
  intro d hd;have:=List.all_eq_true.mp q d hd;cases d with
  |dic kv=>exact .inl ⟨kv,rfl⟩
  |_=>exact .inr this
 rcases h d hd with⟨kv,e⟩|e
 .exact .inl ⟨kv,e,hn⟩
 .exact .inr e
theorem ZR(x:Int)(μ:Mu):∃d,jz [.int x] μ=some (d,μ)/\d∈qz:=by
 obtain⟨i0,i1⟩:=bV (x:=x) (m:=34) (by decide)
 obtain⟨d,hd,ed⟩:=uF (ds:=qz) i0 i1;refine⟨d,?_,hd⟩;apply bK;generalize hO:qz=O at *
 unfold rA;simp[uh,Rc];unfold qz at hO;rw[hO];rw[ed];simp
theorem Mm(ws:List D)(h2:2<=ws.length)(hl:ws.length<=60)(hw:∀w∈ws,OkE w)(L:List Int)(hL:DlD L):∃(t:D)(L':List Int),jK [.cell 0,.tup ws] [some (L.map .int)]=some (t,[some (L'.map .int)])/\DlD L'/\TQ t:=by
 obtain⟨x,L1,e1,hx,hL1⟩:=jq vA hL [];obtain⟨y,L2,e2,hy,hL2⟩:=jq vA hL1 [];obtain⟨a,e3,ha⟩:=ZR (x.fdiv 9) [some (L1.map .int)];obtain⟨b,e4,hb⟩:=ZR y [some (L2.map .int)];have v9:=λμ=>vh (i:=x) (j:=9) (μ:=μ) (by decide) (by decide)
 obtain⟨c0,c1⟩:=bV (x:=x) (m:=9) (by decide)
 obtain⟨w0,a0,h0⟩:∃w0,atI ws 0=some w0/\w0∈ws:=by
  obtain⟨q,r⟩:=ji (F:=id) (l:=ws) (k:=0) (z:=.non) (by decide) (by lia)
  rw[List.map_id]at q;exact⟨_,q,r⟩
 have hwne:ws≠[]:=λz=>by rw[z]at h2;simp at h2
 have al:atI ws (-1)=some (ws.getLast hwne):=LG.vX hwne;have hl1:=List.getLast_mem hwne;generalize ws.getLast hwne=wl at *
 have s1:=YK (ds:=ws) (i:=1) (μ:=[some (L2.map D.int)]) (by decide) (by lia)
 have hT:∀w∈ws.take (1:Int).toNat,OkE w:=λw h=>hw w (List.mem_of_mem_take h);have hTl:(ws.take (1:Int).toNat).length<=60:=by rw[List.length_take];lia
 generalize ws.take (1:Int).toNat=W1 at *
 have m3:di (.tup [b]) (.int 3) [some (L2.map D.int)]=some (.tup [b,b,b],[some (L2.map D.int)]):=Yp (by decide) (by decide) (by show 1*3<=1000;decide)
 have oa:=GR a ha;have ob:=GR b hb;have o0:=hw w0 h0;have ol:=hw wl hl1;obtain⟨t,ht,et⟩:=uF (ds:=[a,.tup [a],.lst [a],.tup [a,b],.dic [(.inl 0,a)],.tup [w0,a],.tup [a,wl],.tup W1,.tup [b,b,b]]) c0 c1;have hq:TQ t:=by
  simp only[Zi,ZF,or_false]at ht
  rcases ht with rfl|rfl|rfl|rfl|rfl|rfl|rfl|rfl|rfl
  .exact tq_e oa
  .exact qY (by simpa using oa) (by simp)
  .exact JV (rD.mpr (by simpa using oa.nc)) (λds z=>by cases z) (λds z=>by cases z)
  .exact qY (by simpa using⟨oa,ob⟩) (by simp)
  .exact JV (by simpa[nc,cLt,wA]using oa.nc) (λds z=>by cases z) (λds z=>by cases z)
  .exact qY (by simpa using⟨o0,oa⟩) (by simp)
  .exact qY (by simpa using⟨oa,ol⟩) (by simp)
  .exact qY hT hTl
  .exact qY (by simpa using ob) (by simp)
 refine⟨t,L2,?_,hL2,hq⟩;have key:Ok (aH 6 (lU bA jz) [.cell 0,.tup ws] [some (L.map .int)]) (λr=>r=(t,[some (L2.map .int)])):=by
  apply pQ;unfold lU;simp[e1,v9,e3,e2,e4,uh,Rc,a0,al,s1,m3,et]
 exact tE (yg key) rfl
theorem Vt(d1:1<=d)(d3:d<=3)(h:Dn d far xs)(hne:xs≠[])(hl:xs.length<=4):Geo d (jn d far xs)/\Nt d (jn d far xs) (nH d far xs):=by
 have hlen:=Eo (far:=far) h.2.1;have hr:=Dv d3 h hl;have hp:jn d far xs≠[]:=λz=>by
  cases xs with
  |nil=>exact hne rfl
  |cons x xs=>
   obtain⟨_,_,c,_,_⟩:=h.2.1 x (by simp)
   have e:jn d far (x::xs)=lC d far x++jn d far xs:=by unfold jn;simp
   rw[e]at z;have:=(List.append_eq_nil_iff.mp z).1;unfold lC at this;exact c (List.map_eq_nil_iff.mp this)
 refine⟨⟨d1,d3,hr,by lia,hp⟩,⟨d1,by lia,hp,λp hp=>(hr p hp).spR,λz=>?_,by unfold nH;rw[sS];simp;lia,λg hg=>?_⟩⟩
 .have:=congrArg List.length z;unfold nH at this;rw[sS]at this;simp at this;exact hne this
 .unfold nH at hg;obtain⟨⟨l,hlm,e⟩,hk⟩:=Cu _ _ _ hg;obtain⟨x,hx,rfl⟩:=Zq.mp hlm;obtain⟨_,_,_,c,_⟩:=h.2.1 x hx;refine⟨by rw[e];unfold lC;rw[Zu];lia,λk hkm=>?_⟩
  have:=hk k hkm;rw[Nat.zero_add]at this;exact⟨by lia,this.2⟩
theorem ZQ(d1:1<=d)(d3:d<=3)(h:Dn d far xs):∀w∈mj d far xs,WS w:=λw hw=>by
 obtain⟨x,hx,rfl⟩:=Zq.mp hw;obtain⟨a,b,c,c2,c3,_⟩:=h.2.1 x hx;refine⟨λz=>?_,show x.1.length<=9 by lia,λn hn=>bu (b n hn) (by decide),?_⟩
 .have z:x.1=[]:=z;rw[z]at a;simp at a
  lia
 .refine bu (Qd d3 a b (λz=>c ?_) λp hp=>?_) (by decide)
  .unfold lC at z;exact List.map_eq_nil_iff.mp z
  .obtain⟨q,hq,rfl⟩:=Zq.mp hp;exact Es a b (c3 q hq) h.2.2.1
def Alike(PD GD:D):Prop:=∀t μ,TQ t->jG μ->(∃v,dI [PD,GD,t] μ=some (.bl v,μ)/\dJ [PD,GD,t] μ=some (.bl v,μ))/\∃u,eU [PD,GD,t] μ=some (.bl u,μ)/\jM [PD,GD,t] μ=some (.bl u,μ)
theorem Bj(G:Geo d ps)(S:Nt d ps gs):Alike (.lst (ps.map aD)) (.lst (gs.map bx)):=λt μ h hm=>
 ⟨⟨_,Pq d ps gs t μ G S.gne S.gl hm h.2.1 h.2.2,Lx d ps gs t μ G S.gne S.gl hm h.2.1 h.2.2⟩,_,Wf d ps gs t μ S h.1,Uq d ps gs t μ S h.1⟩
theorem Qi(ns:List Int)(h:ns.length<=63):∃μ',Et [.ro (ns.map .int)] []=some (.bl true,μ'):=by
 apply RC;obtain⟨L,eD,hL⟩:=Nk UV ns h;apply pQ;unfold tY;simp[eD,tG (j:=3) (by decide) (by decide)]
 refine gP (λits δ μ=>∃L o2 o3 o4 o5 o6 o7 o8 o9 o10 o11 o12 o13,DlD L/\μ=[some (L.map .int)]/\δ=[some (.ro (ns.map .int)),some (.cell 0),o2,o3,o4,o5,o6,o7,o8,o9,o10,o11,o12,o13]) ?_ ?_ _ _ _ ⟨L,none,none,none,none,none,none,none,none,none,none,none,none,hL,rfl,rfl⟩
 .rintro dd rest δ μ ⟨L,o2,o3,o4,o5,o6,o7,o8,o9,o10,o11,o12,o13,hL,rfl,rfl⟩;obtain⟨x,L1,e1,hx,hL1⟩:=jq vA hL [];obtain⟨y,L2,e2,hy,hL2⟩:=jq vA hL1 [];obtain⟨m0,m1⟩:=bV (x:=x) (m:=3) (by decide)
  obtain⟨n0,n1⟩:=bV (x:=y) (m:=4) (by decide)
  obtain⟨d,hd⟩:∃d:Int,1+x.fmod 3=d:=⟨_,rfl⟩;obtain⟨m,hm⟩:∃m:Int,1+y.fmod 4=m:=⟨_,rfl⟩;obtain⟨ps0,gs,ws,sp,L3,e3,hL3,hR,hsp⟩:=Vl L2 d m hL2 (by lia) (by lia) (by lia) (by lia)
  obtain⟨z,L4,e4,hz,hL4⟩:=jq vA hL3 [];obtain⟨k0,k1⟩:=bV (x:=z) (m:=3) (by decide)
  obtain⟨k,hk⟩:∃k:Int,2+z.fmod 3=k:=⟨_,rfl⟩;obtain⟨xs,far,L5,e5,hL5,hA,hxl⟩:=Yc L4 d k hL4 (by lia) (by lia) (by lia) (by lia)
  have d1:1<=d.toNat:=by lia
  have d3:d.toNat<=3:=by lia
  have hxne:xs≠[]:=λz=>by rw[z]at hxl;simp at hxl;lia
  obtain⟨qs,rfl,G1,S1⟩:=Oz d1 d3 hR (by lia) (by lia)
  obtain⟨G2,S2⟩:=Vt d1 d3 hA hxne (by lia)
  have A1:=Bj G1 S1;have A2:=Bj G2 S2;have hE1:∀w∈[sp,.tup ws],OkE w:=λw hw=>by
   simp only[Zi,ZF,or_false]at hw
   rcases hw with rfl|rfl
   .exact ptE hsp d3
   .exact shE hR.wsh (by rw[hR.wl];lia)
  have hE2:∀w∈(mj d.toNat far xs).map cV,OkE w:=λw hw=>by
   obtain⟨v,hv,rfl⟩:=Zq.mp hw;exact Yh (ZQ d1 d3 hA v hv)
  have t1:=Mm [sp,.tup ws] (by simp) (by simp) hE1
  have t2:=Mm ((mj d.toNat far xs).map cV) (by unfold mj;simp;lia) (by unfold mj;simp;lia) hE2
  have eAp:ApV d.toNat far xs= .tup [.lst ((jn d.toNat far xs).map aD),.lst ((nH d.toNat far xs).map bx),.tup ((mj d.toNat far xs).map cV)]:=rfl;rw[eAp]at e5;generalize (jn d.toNat far xs).map aD=PD2 at *
  generalize (nH d.toNat far xs).map bx=GD2 at *
  generalize (mj d.toNat far xs).map cV=WD2 at *
  generalize qs.map aD=PD1 at *
  generalize gs.map bx=GD1 at *
  have tt:∀p∈[D.tup [sp,.tup ws],.tup WD2],∀L,DlD L->∃(t:D)(L':List Int),jK [.cell 0,p] [some (L.map .int)]=some (t,[some (L'.map .int)])/\DlD L'/\TQ t:=λp hp=>by
   simp only[Zi,ZF,or_false]at hp
   rcases hp with rfl|rfl
   .exact t1
   .exact t2
  generalize D.tup [sp,.tup ws]=W1 at *
  generalize D.tup WD2=W2 at *
  have r8:=λμ=>tG (j:=8) (μ:=μ) (by decide) (by decide)
  simp[e1,hd,e2,hm,e3,e4,hk,e5,r8];refine gP (λits δ μ=>∃L o10 o11 o12 o13,(∀t∈its,∃k:Int,t= .int k)/\DlD L/\μ=[some (L.map .int)]/\δ=[some (.ro (ns.map .int)),some (.cell 0),some dd,some (.int d),some (.lst PD1),some (.lst GD1),some W1,some (.lst PD2),some (.lst GD2),some W2,o10,o11,o12,o13]) ?_ ?_ _ _ _ ⟨L5,_,_,_,_,λt ht=>by
   obtain⟨k,e,_⟩:=rR ht;exact⟨k,e⟩,hL5,rfl,rfl⟩
  .rintro d10 rest10 δ μ ⟨L,p10,p11,p12,p13,hits,hL,rfl,rfl⟩;obtain⟨j,rfl⟩:=hits d10 (by simp)
   obtain⟨i0,i1⟩:=bV (x:=j) (m:=2) (by decide)
   obtain⟨p,hp,ep⟩:=uF (ds:=[W1,W2]) i0 i1;obtain⟨t,L6,f1,hL6,hT⟩:=tt p hp L hL;simp[ep,f1];refine gP (λits δ μ=>∃o12 o13,(∀t∈its,∃A B,t= .tup [A,B]/\Alike A B)/\μ=[some (L6.map .int)]/\δ=[some (.ro (ns.map .int)),some (.cell 0),some dd,some (.int d),some (.lst PD1),some (.lst GD1),some W1,some (.lst PD2),some (.lst GD2),some W2,some (.int j),some t,o12,o13]) ?_ ?_ _ _ _ ⟨_,_,λt ht=>by
    simp only[Zi,ZF,or_false]at ht
    rcases ht with rfl|rfl
    .exact⟨_,_,rfl,A1⟩
    .exact⟨_,_,rfl,A2⟩,rfl,rfl⟩
   .rintro d12 rest12 δ μ ⟨q12,q13,hq,rfl,rfl⟩;obtain⟨A,B,rfl,hAB⟩:=hq d12 (by simp)
    obtain⟨⟨v,g1,g2⟩,u,g3,g4⟩:=hAB t [some (L6.map .int)] hT jG.nil.dr;simp[g1,g2,g3,g4,YW]
    exactλt h=>hq t (by simp[h])
   .rintro δ μ ⟨q12,q13,hq,rfl,rfl⟩;simp;exact⟨λt h=>hits t (by simp[h]),L6,hL6,rfl⟩
  .rintro δ μ ⟨L,p10,p11,p12,p13,_,hL,rfl,rfl⟩;simp;exact⟨L,hL,rfl⟩
 .rintro δ μ ⟨L,o2,o3,o4,o5,o6,o7,o8,o9,o10,o11,o12,o13,hL,rfl,rfl⟩;simp
end Lk34
end
def PySem.W.Fast.tw10425990943747753972:=0
def PySem.W.Fast.tw10544049274022025752:=0
def PySem.W.Fast.tw1054841720611280456:=0
def PySem.W.Fast.tw10673058466441108441:=0
def PySem.W.Fast.tw1096104441571137498:=0
def PySem.W.Fast.tw11147933885929107535:=0
def PySem.W.Fast.tw11161619620822246938:=0
def PySem.W.Fast.tw11208926691620603322:=0
def PySem.W.Fast.tw11244236554017596519:=0
def PySem.W.Fast.tw11756517000861919449:=0
def PySem.W.Fast.tw1184114241101136537:=0
def PySem.W.Fast.tw11842695494067300683:=0
def PySem.W.Fast.tw11963690933079538330:=0
def PySem.W.Fast.tw12142173738843239737:=0
def PySem.W.Fast.tw1218306638450087713:=0
def PySem.W.Fast.tw12313819267210867793:=0
def PySem.W.Fast.tw12358338181389697230:=0
def PySem.W.Fast.tw12712899107602951574:=0
def PySem.W.Fast.tw13018658100745280181:=0
def PySem.W.Fast.tw13197216070274188692:=0
def PySem.W.Fast.tw13562497584983128739:=0
def PySem.W.Fast.tw13897967446304207771:=0
def PySem.W.Fast.tw14067411664848618244:=0
def PySem.W.Fast.tw14144687586011906175:=0
def PySem.W.Fast.tw14468396998904395392:=0
def PySem.W.Fast.tw146697679489277268:=0
def PySem.W.Fast.tw14854036972493931382:=0
def PySem.W.Fast.tw14969408526526760975:=0
def PySem.W.Fast.tw15128876301257266136:=0
def PySem.W.Fast.tw15301239772761270730:=0
def PySem.W.Fast.tw15305492628861538071:=0
def PySem.W.Fast.tw15642577858527334097:=0
def PySem.W.Fast.tw1605994467185858958:=0
def PySem.W.Fast.tw16180640284813091999:=0
def PySem.W.Fast.tw16310507147428053264:=0
def PySem.W.Fast.tw16407356337758501702:=0
def PySem.W.Fast.tw17128395116664518318:=0
def PySem.W.Fast.tw17624380737734090354:=0
def PySem.W.Fast.tw17663318638565799920:=0
def PySem.W.Fast.tw17700370091777004943:=0
def PySem.W.Fast.tw17737695042259972385:=0
def PySem.W.Fast.tw18007840552006101258:=0
def PySem.W.Fast.tw18315002519438018628:=0
def PySem.W.Fast.tw18346865859087078748:=0
def PySem.W.Fast.tw18442438361425489896:=0
def PySem.W.Fast.tw2071655204569492597:=0
def PySem.W.Fast.tw2257812399088854559:=0
def PySem.W.Fast.tw2737530810462502367:=0
def PySem.W.Fast.tw290960377053756730:=0
def PySem.W.Fast.tw3268892071989154295:=0
def PySem.W.Fast.tw4493215300780155123:=0
def PySem.W.Fast.tw4715877689168607493:=0
def PySem.W.Fast.tw4800933796551780825:=0
def PySem.W.Fast.tw4889093288576244849:=0
def PySem.W.Fast.tw5038904765564161129:=0
def PySem.W.Fast.tw539211371861298119:=0
def PySem.W.Fast.tw5706968612075263533:=0
def PySem.W.Fast.tw5807185968350601498:=0
def PySem.W.Fast.tw5913299591904862301:=0
def PySem.W.Fast.tw6414158634580448270:=0
def PySem.W.Fast.tw6893194205842577481:=0
def PySem.W.Fast.tw6963743819742271187:=0
def PySem.W.Fast.tw7266032373795420366:=0
def PySem.W.Fast.tw8010502384218056221:=0
def PySem.W.Fast.tw8499825003401664203:=0
def PySem.W.Fast.tw873585530007611709:=0
def PySem.W.Fast.tw8789801978592326075:=0
def PySem.W.Fast.tw912951145905064219:=0
def PySem.W.Fast.tw9154476947417795568:=0
def PySem.W.Fast.tw9270964516293595267:=0
def PySem.W.Fast.tw9392960317523321340:=0
def PySem.W.Fast.tw9485051637269360570:=0
def PySem.W.Fast.tw9537191844495856916:=0
def PySem.W.Fast.tw9769642547729828265:=0
open PySem PySem.W PyProof.Rows
set_option maxRecDepth 100000 in
set_option maxHeartbeats 0 in
theorem PySem.Challenge.cw_heapsmeet_k34_no_papers_of_groups_holds : PySem.Challenge.rw_heapsmeet_k34_no_papers_of_groups.Holds := by
 w_on; o_law; k_head; (case hw => w_witness2)
 k_fill
 refine L3.Lr (l := PySem.Challenge.rw_heapsmeet_k34_no_papers_of_groups) (n := 63) (k := 12) (x := "_law_script") (φ := Lk34.Et) rfl (by decide) rfl ⟨rfl, by decide, by decide⟩ (λ w h Y => by first | exact PySem.W.kIn_of Y | exact PySem.W.km_in_of Y) ?F ?S
 case F =>
  intro w mg mb mean lo fa h KX G hmg;apply Lk34.VJ KX G hmg <;> first | (apply L3.Vh <;> first | k_is | rfl) | k_is | rfl
 case S => exact λ ns hl => Lk34.Qi ns hl
