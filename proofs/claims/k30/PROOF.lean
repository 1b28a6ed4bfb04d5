import PyProof.Rows.All
import Wide.All
import OpenK.AllK
import Wide.FinOn
import Lean
import PyProof.EqAt
import PyProof.EqKinds
import PyProof.TupleCall
import PySem.Challenge.RW_mixedscales_k30_whole_digits_turned
set_option Elab.async false
set_option compiler.extract_closed false
set_option bootstrap.genMatcherCode false
set_option genSizeOfSpec false
set_option linter.all false
set_option maxRecDepth 100000
/-! THE HAND LAYER,for ints,bools,texts,own classes,LISTS and tuples (index,slices,in,append,pop ..),calls,loops. Paste it whole ahead of your own text;what your proof does not reach may be deleted. -/
noncomputable section
namespace L2
open PySem PySem.Spec PyProof.Rows
abbrev AO:=List (Addr×Obj)
abbrev Fg:=PySem.W.Frag
abbrev SV:=Str->Option Value
abbrev VSP:=Value->Shared->Prop
abbrev Key:=Sum Int Str
def Z38:Key->Value->Bool
 |.inl k,v=>Value.isInt k v
 |.inr x,v=>Value.isStrOf x v
def keyH (w:World):Key->Int
 |.inl k=>hashInt k
 |.inr x=>hashStr w x
theorem Z0j:∀{k:Key}{v:Value},Z38 k v=true->(∃ i t,k=Sum.inl i/\v=Value.int i t)\/(∃ x t,k=Sum.inr x/\v=Value.str x t)
 |.inl i,v,h=>by
  obtain⟨t,e⟩:=Value.isInt_shape (k:=i) (v:=v) h;exact .inl ⟨i,t,rfl,e⟩
 |.inr x,v,h=>by
  obtain⟨t,e⟩:=Value.isStrOf_shape (x:=x) (v:=v) h;exact .inr ⟨x,t,rfl,e⟩
theorem Zbc (i:Int)(t:Tok):Z38 (.inl i) (.int i t)=true:=by simp[Z38,Value.isInt]
theorem Zbd (x:Str)(t:Tok):Z38 (.inr x) (.str x t)=true:=by simp[Z38,Value.isStrOf]
theorem Zmi (a b:Int):decide ((Sum.inl a:Key)=Sum.inl b)=(a==b):=by
 by_cases e:a=b
 ·subst e;simp
 ·have h:¬ (Sum.inl a:Key)=Sum.inl b:=fun q=>e (Sum.inl.inj q);rw[decide_eq_false h];exact(beq_eq_false_iff_ne.mpr e).symm
theorem Zmj (a b:Str):decide ((Sum.inr a:Key)=Sum.inr b)=decide (a=b):=by
 by_cases e:a=b
 ·subst e;simp
 ·have h:¬ (Sum.inr a:Key)=Sum.inr b:=fun q=>e (Sum.inr.inj q);rw[decide_eq_false h,decide_eq_false e]
theorem Zmk (a:Int)(b:Str):decide ((Sum.inl a:Key)=Sum.inr b)=false:=decide_eq_false (fun q=>nomatch q)
theorem Zml (a:Str) (b:Int):decide ((Sum.inr a:Key)=Sum.inl b)=false:=decide_eq_false (fun q=>nomatch q)
def Z0d (prog:Program)(w:World):PySem.KeyKind prog w Key where
 is:=Z38
 hash:=keyH w
 inj:=fun v a b ha hb=>by
  rcases Z0j ha with ⟨i,t,rfl,rfl⟩|⟨x,t,rfl,rfl⟩
  ·rcases Z0j hb with ⟨j,u,rfl,e⟩|⟨y,u,rfl,e⟩
   ·injection e with e1 _;rw[e1]
   ·exact nomatch e
  ·rcases Z0j hb with ⟨j,u,rfl,e⟩|⟨y,u,rfl,e⟩
   ·exact nomatch e
   ·injection e with e1 _;rw[e1]
 byValue:=fun k v h=>by
  rcases Z0j h with ⟨i,t,rfl,rfl⟩|⟨x,t,rfl,rfl⟩<;>rfl
 pyHash:=fun hv h=>by
  rcases Z0j hv with ⟨i,t,rfl,rfl⟩|⟨x,t,rfl,rfl⟩
  ·exact wpAny_pyHash_int h
  ·exact wpAny_pyHash_str h
 eqBool:=fun hu hv h=>by
  rcases Z0j hu with ⟨i,t,rfl,rfl⟩|⟨x,t,rfl,rfl⟩
  ·rcases Z0j hv with ⟨j,u,rfl,rfl⟩|⟨y,u,rfl,rfl⟩
   ·rw[Zmi]at h;exact wpAny_eqBool_int h
   ·rw[Zmk]at h;exact SeqAt.EqAt.int_str i t y u _ _ _ _ h
  ·rcases Z0j hv with ⟨j,u,rfl,rfl⟩|⟨y,u,rfl,rfl⟩
   ·rw[Zml]at h;exact SeqAt.EqAt.str_int x t j u _ _ _ _ h
   ·rw[Zmj]at h;exact wpAny_eqBool_str h
 «strs» := fun k x t v h=>by
  rcases Z0j h with ⟨i,u,rfl,e⟩|⟨y,u,rfl,e⟩
  ·exact nomatch e
  ·injection e with e1 _;subst e1
   cases v<;>rfl
theorem Z7p (prog:Program)(w:World) (i:Int)(t:Tok):(Z0d prog w).is (.inl i) (.int i t)=true:=Zbc i t
theorem Z7q (prog:Program)(w:World)(x:Str)(t:Tok):(Z0d prog w).is (.inr x) (.str x t)=true:=Zbd x t
inductive V where
 |non|bl (b:Bool)|int (i:Int)|str (x:Str)|byt (b:Array UInt8)|flt (b:UInt64)|ref (a:Addr)|ty (n:String)
 deriving DecidableEq
def RelV:V->Value->Prop
 |.non,u=>u=Value.none
 |.bl b,u=>u=Value.bool b
 |.int i,u=>∃ t,u=Value.int i t
 |.str x,u=>∃ t,u=Value.str x t
 |.byt b,u=>∃ t,u=Value.bytes b t
 |.flt b,u=>∃ t,u=Value.float b t
 |.ref a,u=>u=Value.ref a
 |.ty n,u=>u=Value.type n
abbrev Vals:List V->List Value->Prop:=Paired RelV
theorem Vals.length {xs:List V}{us:List Value}(r:Vals xs us):xs.length=us.length:=Paired.length r
theorem Vals.get:∀{xs:List V}{us:List Value}{i:Nat}{x:V},Vals xs us->xs[i]?=some x->∃ u,us[i]?=some u/\RelV x u
 |_,_,_,_,.nil,e=>by simp at e
 |_,_,0,_,.cons r _,e=>by simp at e;subst e;exact⟨_,rfl,r⟩
 |_,_,i+1,x,.cons _ t,e=>by
  obtain⟨u,h1,h2⟩:=Vals.get (i:=i) (x:=x) t (by simpa using e);exact⟨u,by simpa using h1,h2⟩
theorem Vals.set {x:V}{u:Value}(r:RelV x u):∀{xs:List V}{us:List Value} (i:Nat),Vals xs us->Vals (xs.set i x) (us.set i u)
 |_,_,_,.nil=>.nil
 |_,_,0,.cons _ t=>.cons r t
 |_,_,i+1,.cons q t=>.cons q (Vals.set r i t)
theorem Vals.append:∀{xs ys:List V}{us ws:List Value},Vals xs us->Vals ys ws->Vals (xs++ys) (us++ws)
 |_,_,_,_,.nil,s=>s
 |_,_,_,_,.cons r t,s=>.cons r (Vals.append t s)
theorem Vals.take:∀{xs:List V}{us:List Value} (n:Nat),Vals xs us->Vals (xs.take n) (us.take n)
 |_,_,0,_=>.nil
 |_,_,_+1,.nil=>.nil
 |_,_,n+1,.cons r t=>.cons r (Vals.take n t)
theorem Vals.drop:∀{xs:List V}{us:List Value} (n:Nat),Vals xs us->Vals (xs.drop n) (us.drop n)
 |_,_,0,r=>r
 |_,_,_+1,.nil=>.nil
 |_,_,n+1,.cons _ t=>Vals.drop n t
def RelO:Option V->Option Value->Prop
 |some v,some u=>RelV v u
 |none,none=>True
 |_,_=>False
def KV {κ:Type}:List (κ×V)->List (κ×Value)->Prop:=Paired fun(p:κ×V)(q:κ×Value)=>p.1=q.1/\RelV p.2 q.2
def kV:Key->V
 |.inl i=>.int i
 |.inr x=>.str x
inductive HO where
 |lst (xs:List V)
 |tup (xs:List V)
 |dK (kvs:List (Key×V))|dT (kvs:List (List Key×V))
 |set (S:Int->Bool) (n:Nat)
 |ins (C dx:Addr)(fs:List (Str×V))
 |own (x:Addr)
 |xd (fs:List (Str×V))
 |met (f x:Addr)
 |rng (lo hi:Int)
 |frz (o:Obj)(u:HO)
 |tbl (ps:Array Value)
 |ext (φ:Heap->Prop)
abbrev Hp:=Addr->Option HO
def upd (H:Hp)(a:Addr)(o:HO):Hp:=fun b=>if b=a then some o else H b
theorem Z05 {H:Hp}{a:Addr}{o:HO}:upd H a o a=some o:=by unfold upd;rw[if_pos rfl]
theorem Z06 {H:Hp}{a b:Addr}{o:HO}(h:b≠a):upd H a o b=H b:=by unfold upd;rw[if_neg h]
theorem Z7r {H:Hp}{a:Addr}{o u:HO}:upd (upd H a o) a u=upd H a u:=by
 funext b;unfold upd;split<;>rfl
theorem Zmm {H:Hp}{a b:Addr}{o u:HO}(h:H a=some o)(h':H b=some u)(d:o≠u):a≠b:=by
 intro e;subst e;rw[h]at h';exact d (Option.some.inj h')
theorem Z0k {H:Hp}{a b:Addr}{o:HO}(h:H a=some o)(h':H b=none):a≠b:=by
 intro e;subst e;rw[h]at h';cases h'
section
variable (P:Program)(w:World)
def Z0s (H:Hp)(h:Heap)(a:Addr):HO->Prop
 |.lst xs=>xs.length<=sizeLine/\∃(its:List Value) (n:Nat),Vals xs its/\h.get? a=some { cls:=.type "list",data:=.seq its.toArray n }
 |.tup xs=>xs.length<=sizeLine/\∃ its:List Value,Vals xs its/\IsTup h a its.toArray
 |.dK kvs=>kvs.length<=sizeLine/\(a==sysModules)=false/\∃ vs,KV kvs vs/\h.DictOf (Z0d P w) a vs
 |.dT kvs=>kvs.length<=sizeLine/\(a==sysModules)=false/\∃ xs:List (List Key×Addr×Value),
   Paired (fun(p:List Key×V)(q:List Key×Addr×Value)=>p.1=q.1/\H q.2.1=some (.tup (p.1.map kV))/\RelV p.2 q.2.2) kvs xs /\
   ∃ o es ep,h.get? a=some o/\o.ExactDict/\o.data=.dict es ep/\es.toList=xs.map (entryOfKey (tupleKind (Z0d P w)))/\(xs.map (·.1)).Nodup
 |.set S n=>h.SetOf (intKind P w) a S n
 |.ins C dx fs=>H dx=some (.own a)/\fs.length<=1000/\dx≠a/\h.get? a=some (PySem.W.instObj C dx) /\
   ∃ mA,h.Ns1 dx mA/\(∀ f,RelO (fs.lookup f) (mA f))/\PySem.Within mA (fs.map (·.1))
 |.own _=>∃ o,h.get? a=some o
 |.xd fs=>∃ mA,h.Ns1 a mA/\∀ f,RelO (fs.lookup f) (mA f)
 |.rng lo hi=>∃ t u v,h.get? a=some { cls:=.type "range",data:=.fields #[.int lo t,.int hi u,.int 1 v] }
 |.frz o u=>h.get? a=some o/\Z0s H h a u
 |.tbl ps=>h.get? a=some { cls:=.none,data:=.fields ps }
 |.met f x=>h.get? a=some (PySem.W.methodObj (.ref f) (.ref x))
 |.ext φ=>φ h/\(∃ o,h.get? a=some o)/\∀ h1 h2:Heap,φ h1->(∀ o,h1.get? a=some o->h2.get? a=some o)->φ h2
def HOk (H:Hp)(h:Heap):Prop:=∀ a o,H a=some o->Z0s P w H h a o
end
section
variable {P:Program}{w:World}{H H':Hp}{h h':Heap}{a:Addr}{o:HO}
theorem Z0s.lt (x:Z0s P w H h a o):a<h.objs.size:=by
 cases o with
 |lst xs=>obtain⟨_,_,_,_,e⟩:=x;exact Heap.lt_size e
 |tup xs=>obtain⟨_,_,_,p⟩:=x;exact p.lt
 |dK kvs=>obtain⟨_,_,_,_,o,_,_,e,_⟩:=x;exact Heap.lt_size e
 |dT kvs=>obtain⟨_,_,_,_,o,_,_,e,_⟩:=x;exact Heap.lt_size e
 |set S n=>obtain⟨o,_,_,_,e,_⟩:=x;exact Heap.lt_size e
 |ins C dx fs=>obtain⟨_,_,_,e,_⟩:=x;exact Heap.lt_size e
 |own y=>obtain⟨_,e⟩:=x;exact Heap.lt_size e
 |xd fs=>obtain⟨_,⟨_,_,_,e,_⟩,_⟩:=x;exact Heap.lt_size e
 |rng lo hi=>obtain⟨_,_,_,e⟩:=x;exact Heap.lt_size e
 |frz ob u=>obtain⟨e,_⟩:=x;exact Heap.lt_size e
 |tbl ps=>exact Heap.lt_size (show h.get? a=some _ from x)
 |met f y=>exact Heap.lt_size (show h.get? a=some _ from x)
 |ext φ=>obtain⟨_,⟨_,e⟩,_⟩:=x;exact Heap.lt_size e
theorem Paired.mapP {α β:Type}{F G:α->β->Prop}:∀{l₁:List α}{l₂:List β},Paired F l₁ l₂->(∀ a b,F a b->G a b)->Paired G l₁ l₂
 |_,_,.nil,_=>.nil
 |_,_,.cons r t,f=>.cons (f _ _ r) (Paired.mapP t f)
theorem Z0s.stay (x:Z0s P w H h a o)(k:∀ b u,(b=a\/H b=some (.own a))->h.get? b=some u->h'.get? b=some u)
  (ho:∀ b,H b=some (.own a)->H' b=some (.own a))(ht:∀ b xs,H b=some (.tup xs)->H' b=some (.tup xs)):Z0s P w H' h' a o:=by
 induction o with
 |lst xs=>obtain⟨z,its,n,r,e⟩:=x;exact⟨z,its,n,r,k _ _ (.inl rfl) e⟩
 |tup xs=>obtain⟨z,its,r,ob,e,c⟩:=x;exact⟨z,its,r,ob,k _ _ (.inl rfl) e,c⟩
 |dK kvs=>obtain⟨z,y,vs,r,ob,es,ep,e,c⟩:=x;exact⟨z,y,vs,r,ob,es,ep,k _ _ (.inl rfl) e,c⟩
 |dT kvs=>
  obtain⟨z,y,xs,r,ob,es,ep,e,c⟩:=x;exact⟨z,y,xs,Paired.mapP r fun p q z=>⟨z.1,ht _ _ z.2.1,z.2.2⟩,ob,es,ep,k _ _ (.inl rfl) e,c⟩
 |set S n=>obtain⟨ob,es,ep,t,e,c⟩:=x;exact⟨ob,es,ep,t,k _ _ (.inl rfl) e,c⟩
 |ins C dx fs=>
  obtain⟨d,z,ne,e,mA,⟨od,es,ep,e2,c⟩,r⟩:=x;exact⟨ho _ d,z,ne,k _ _ (.inl rfl) e,mA,⟨od,es,ep,k _ _ (.inr d) e2,c⟩,r⟩
 |own y=>obtain⟨ob,e⟩:=x;exact⟨ob,k _ _ (.inl rfl) e⟩
 |xd fs=>obtain⟨mA,⟨od,es,ep,e,c⟩,r⟩:=x;exact⟨mA,⟨od,es,ep,k _ _ (.inl rfl) e,c⟩,r⟩
 |rng lo hi=>obtain⟨t,u,v,e⟩:=x;exact⟨t,u,v,k _ _ (.inl rfl) e⟩
 |frz ob u ih=>obtain⟨e,q⟩:=x;exact⟨k _ _ (.inl rfl) e,ih q⟩
 |tbl ps=>
  have e:h.get? a=some { cls:=.none,data:=.fields ps }:=x;show h'.get? a=some { cls:=.none,data:=.fields ps };exact k a _ (.inl rfl) e
 |met f y=>
  have e:h.get? a=some (PySem.W.methodObj (.ref f) (.ref y)):=x;show h'.get? a=some (PySem.W.methodObj (.ref f) (.ref y));exact k a _ (.inl rfl) e
 |ext φ=>obtain⟨p,⟨o,e⟩,st⟩:=x;exact⟨st _ _ p fun o q=>k _ _ (.inl rfl) q,⟨o,k _ _ (.inl rfl) e⟩,st⟩
theorem HOk.lt (x:HOk P w H h)(e:H a=some o):a<h.objs.size:=(x a o e).lt
theorem HOk.fresh (x:HOk P w H h)(e:h.objs.size<=a):H a=none:=by
 cases q:H a with
 |none=>rfl
 |some u=>exact absurd (Nat.lt_of_lt_of_le (x.lt q) e) (Nat.lt_irrefl _)
theorem HOk.kept (x:HOk P w H h)(k:∀ b u,h.get? b=some u->h'.get? b=some u):HOk P w H h':=fun a o e=>
 (x a o e).stay (fun b u ψ q=>k b u q) (fun ψ q=>q) fun ψ ψ q=>q
theorem HOk.laid (x:HOk P w H h)(k:∀ b u,h.get? b=some u->h'.get? b=some u)(hp:h.objs.size<=a)(new:Z0s P w (upd H a o) h' a o):HOk P w (upd H a o) h':=fun b u e=>by
 have hn:=x.fresh hp;by_cases hb:b=a
 ·subst hb;rw[Z05]at e;cases e;exact new
 ·rw[Z06 hb]at e;exact(x b u e).stay (fun c v ψ q=>k c v q) (fun c q=>by rw[Z06 (Z0k q hn)];exact q) fun c xs q=>by rw[Z06 (Z0k q hn)];exact q
end
def Rd (H:Hp)(a:Addr)(u:HO):Prop:=H a=some u\/∃ o,H a=some (.frz o u)
theorem Rd.of {H:Hp}{a:Addr}{u:HO}(h:H a=some u):Rd H a u:=.inl h
theorem Rd.ok {P:Program}{w:World}{H:Hp}{h:Heap}{a:Addr}{u:HO}(r:Rd H a u)(x:HOk P w H h):Z0s P w H h a u:=by
 rcases r with r|⟨o,r⟩
 ·exact x a u r
 ·obtain⟨_,q⟩:=x a _ r;exact q
def Mut:Option HO->Prop
 |some (.lst _)=>True
 |some (.dK _)=>True
 |some (.dT _)=>True
 |some (.set _ _)=>True
 |some (.ins _ _ _)=>True
 |some (.ext _)=>True
 |_=>False
section
variable {P:Program}{w:World}{H:Hp}{h h':Heap}{x e:Addr}{o':HO}
theorem HOk.write (ok:HOk P w H h)(mu:Mut (H x))(he:e=x\/H e=some (.own x))(k:∀ b u,b≠e->h.get? b=some u->h'.get? b=some u)(heo:∃ u,h'.get? e=some u)
  (new:Z0s P w (upd H x o') h' x o'):HOk P w (upd H x o') h':=fun b u q=>by
 have nown:∀ c y,H c=some (.own y)->c≠x:=fun c y r z=>by subst z;rw[r]at mu;exact mu
 have ntup:∀ c xs,H c=some (.tup xs)->c≠x:=fun c xs r z=>by subst z;rw[r]at mu;exact mu
 by_cases hb:b=x
 ·subst hb;rw[Z05]at q;cases q;exact new
 ·rw[Z06 hb]at q;by_cases hbe:b=e
  ·have q':H b=some (.own x):=by
    rcases he with z|z
    ·exact absurd (hbe.trans z) hb
    ·rw[hbe];exact z
   rw[q]at q';cases q';obtain⟨v,hv⟩:=heo;exact⟨v,by rw[hbe];exact hv⟩
  ·refine(ok b u q).stay (fun c v hc r=>k c v ?_ r) (fun c r=>by rw[Z06 (nown c b r)];exact r) fun c xs r=>by rw[Z06 (ntup c xs r)];exact r
   rcases hc with rfl|hc
   ·exact hbe
   ·rintro rfl;rcases he with z|z
    ·exact nown c b hc z
    ·rw[hc]at z;cases z;exact hb rfl
end
structure Un (fs ex:List Addr)(H H':Hp)(h h':Heap):Prop where
 keep:∀ b o,h.get? b=some o->H b=none->b∉fs->b∉ex->h'.get? b=some o
 slot:∀ b o,h.get? b=some o->H b=none->b∈fs->b∉ex->∃ sl,h'.get? b=some { o with slots:=sl }
 free:∀ b o,h.get? b=some o->H b=none->b∉ex->H' b=none
 there:∀ b o,h.get? b=some o->b∉ex->∃ o',h'.get? b=some o'
 tups:∀ b xs,H b=some (.tup xs)->H' b=some (.tup xs)
 frzs:∀ b o u,H b=some (.frz o u)->H' b=some (.frz o u)
 tbls:∀ b ps,H b=some (.tbl ps)->∃ more,H' b=some (.tbl (ps++more))
section
variable {fs fs' ex ex':List Addr}{H H1 H2:Hp}{h h1 h2 h':Heap}{a x e:Addr}{o:HO}
theorem Un.any (u:Un fs ex H H1 h h1){b:Addr}{ob:Obj}(q:h.get? b=some ob)(n:H b=none)(hx:b∉ex):∃ sl,h1.get? b=some { ob with slots:=sl }:=by
 by_cases hb:b∈fs
 ·exact u.slot b ob q n hb hx
 ·exact⟨ob.slots,u.keep b ob q n hb hx⟩
theorem Un.trans (a:Un fs ex H H1 h h1)(b:Un fs ex H1 H2 h1 h2):Un fs ex H H2 h h2 where
 keep:=fun c ob q n hc hx=>b.keep c ob (a.keep c ob q n hc hx) (a.free c ob q n hx) hc hx
 slot:=fun c ob q n hc hx=>by
  obtain⟨sl,e1⟩:=a.slot c ob q n hc hx;obtain⟨sl',e2⟩:=b.slot c _ e1 (a.free c ob q n hx) hc hx;exact⟨sl',e2⟩
 free:=fun c ob q n hx=>by
  obtain⟨o',e1⟩:=a.there c ob q hx;exact b.free c o' e1 (a.free c ob q n hx) hx
 there:=fun c ob q hx=>by
  obtain⟨o',e1⟩:=a.there c ob q hx;exact b.there c o' e1 hx
 tups:=fun c xs q=>b.tups c xs (a.tups c xs q)
 frzs:=fun c ob xs q=>b.frzs c ob xs (a.frzs c ob xs q)
 tbls:=fun c ps q=>by
  obtain⟨m1,e1⟩:=a.tbls c ps q;obtain⟨m2,e2⟩:=b.tbls c _ e1;exact⟨m1++m2,by rw[e2,Array.append_assoc]⟩
theorem Un.kept (k:∀ b u,h.get? b=some u->h'.get? b=some u):Un fs ex H H h h':=
 ⟨fun b ob q ψ ψ ψ=>k b ob q,fun b ob q ψ ψ ψ=>⟨ob.slots,k b ob q⟩,fun ψ ψ ψ n ψ=>n,fun b ob q ψ=>⟨ob,k b ob q⟩,fun ψ ψ q=>q,fun ψ ψ ψ q=>q,fun ψ ps q=>⟨#[],by rw[q];simp⟩⟩
theorem Un.refl:Un fs ex H H h h:=Un.kept fun ψ ψ q=>q
theorem Un.laid (k:∀ b u,h.get? b=some u->h'.get? b=some u)(hp:h.objs.size<=a)(hn:H a=none):Un fs ex H (upd H a o) h h' where
 keep:=fun b u q ψ ψ ψ=>k b u q
 slot:=fun b u q ψ ψ ψ=>⟨u.slots,k b u q⟩
 free:=fun b u q n ψ=>by rw[Z06 (Nat.ne_of_lt (Nat.lt_of_lt_of_le (Heap.lt_size q) hp))];exact n
 there:=fun b u q ψ=>⟨u,k b u q⟩
 tups:=fun b xs q=>by rw[Z06 (Z0k q hn)];exact q
 frzs:=fun b u xs q=>by rw[Z06 (Z0k q hn)];exact q
 tbls:=fun b ps q=>⟨#[],by rw[Z06 (Z0k q hn),q];simp⟩
theorem Un.write (mu:Mut (H x))(he:e=x\/H e=some (.own x))(k:∀ b u,b≠e->h.get? b=some u->h'.get? b=some u)(heo:∃ u,h'.get? e=some u):Un fs ex H (upd H x o) h h':=by
 have hx:∀ b,H b=none->b≠x:=fun b n z=>by subst z;rw[n]at mu;exact mu
 have hb:∀ b,H b=none->b≠e:=fun b n z=>by
  subst z;rcases he with r|r
  ·exact hx b n r
  ·rw[n]at r;cases r
 have hm:∀ b u,H b=some u->¬ Mut (some u)->b≠x:=fun b u q nm z=>by subst z;rw[q]at mu;exact nm mu
 refine⟨fun b u q n ψ ψ=>k b u (hb b n) q,fun b u q n ψ ψ=>⟨u.slots,k b u (hb b n) q⟩,fun b u q n ψ=>by rw[Z06 (hx b n)];exact n,fun b u q ψ => ?_,
  fun b xs q=>by rw[Z06 (hm b _ q fun z=>z)];exact q,fun b u xs q=>by rw[Z06 (hm b _ q fun z=>z)];exact q,fun b ps q=>⟨#[],by rw[Z06 (hm b _ q fun z=>z),q];simp⟩⟩
 by_cases hbe:b=e
 ·subst hbe;exact heo
 ·exact⟨u,k b u hbe q⟩
theorem Un.mono (u:Un fs ex H H1 h h1)(hs:∀ b∈fs,b∈fs')(hx:∀ b∈ex,b∈ex'):Un fs' ex' H H1 h h1:=
 ⟨fun b ob q n hb he=>u.keep b ob q n (fun z=>hb (hs b z)) fun z=>he (hx b z),fun ψ ψ q n ψ he=>u.any q n fun z=>he (hx _ z),fun b ob q n he=>u.free b ob q n fun z=>he (hx b z),fun b ob q he=>u.there b ob q fun z=>he (hx b z),u.tups,u.frzs,u.tbls⟩
end
def trk (h:Heap)(H:Hp):List Addr:=(List.range h.objs.size).filter fun a=>(H a).isSome
def hidT (h:Heap)(H:Hp):Heap:=PySem.W.hideAll h (trk h H)
theorem Zbe (h:Heap)(H:Hp):(hidT h H).objs.size=h.objs.size:=PySem.W.hideAll_size _ _
theorem Zf2 {h:Heap}{H:Hp}{b:Addr}{o:Obj}(e:h.get? b=some o)(n:H b=none):(hidT h H).get? b=some o:=
 PySem.W.hideAll_get _ e fun hm=>by
  have q:(H b).isSome=true:=(List.mem_filter.mp hm).2;rw[n]at q;simp at q
theorem Zj6 {h:Heap}{H:Hp}{b:Addr}{o:Obj}(e:(hidT h H).get? b=some o):h.get? b=some o/\H b=none:=by
 have e':h.get? b=some o:=PySem.W.of_hideAll (trk h H) e;refine⟨e',?_⟩
 cases q:H b with
 |none=>rfl
 |some x=>
  have hm:b∈trk h H:=List.mem_filter.mpr ⟨List.mem_range.mpr (Heap.lt_size e'),by simp[q]⟩;have z:(hidT h H).get? b=none:=PySem.W.hideAll_none (trk h H) hm;rw[z]at e;cases e
def Zj7 (g h:Heap)(L:Addr):List (Addr×Obj):=(List.range h.objs.size).filterMap fun a=>if a=L\/(g.get? a).isSome=true then none else (h.get? a).map fun o=>(a,o)
def rest (g h:Heap)(L d:Addr):List (Addr×Obj):=(Zj7 g h L).filter fun p=>decide (p.1≠d)
structure Mod (K:L2.Fg)(mg:L2.SV)(base:Heap):Prop where
 kin:K.In base
 glob:base.Ns mainGlobals mg
 blt:∃ mb,base.Ns builtinsNs mb/\∀ x:Str,x ≠ "__name__" -> mb x=bootBuiltins x
 nolimit:base.NoLimit
structure Cx where
 prog:Program
 w:World
 K:PySem.W.Frag
 mg:Str->Option Value
 base:Heap
 A:Around
 N:List Str
 s₀:Shared
 H₀:Hp
 env:Env
 outer:List Env
 stack:List Env
 ex:List Addr
 fn:Str->Bool
 calm:Bool
 pn:List (Addr×Obj)
 xe:Value->Shared->Prop
def frs (l:List Env):List Addr:=l.filterMap (·.frame)
abbrev Cx.fs (X:Cx):List Addr:=frs X.outer
def Vis (sc:Scope)(x:Str):Prop:=sc.names.lookup x=some .local\/sc.names.lookup x=some .cell\/sc.names.lookup x=some .free
def Loc (sc:Scope)(x:Str):Prop:=sc.names.lookup x=some .local\/sc.names.lookup x=some .cell
def Look (env:Env)(h:Heap)(m:L2.SV)(x:Str)(u:Value):Prop:=
 (env.kindOf x=some .local/\m x=some u)\/((env.kindOf x=some .cell\/env.kindOf x=some .free)/\∃ c,env.cells.lookup x=some c/\h.IsCell c (some u))
structure Cx.Ok (X:Cx):Prop where
 mod:Mod X.K X.mg X.base
 kind:X.env.scope.kind=.function
 glob:X.env.globals=mainGlobals
 blt:X.env.builtins=builtinsNs
 above:X.s₀.heap.objs.size<=X.env.locals
 inj:∀ x y c,X.env.cells.lookup x=some c->X.env.cells.lookup y=some c->x=y
 has:∀ x,(X.env.kindOf x=some .cell\/X.env.kindOf x=some .free)->∃ c,X.env.cells.lookup x=some c
 cab:∀ x c,X.fn x=true->X.env.cells.lookup x=some c->X.s₀.heap.objs.size<=c
 hd:X.calm=true->X.A.handled=none
 frames:X.A.frames=some X.stack
 stk:X.stack=X.outer\/(X.stack=X.env::X.outer/\X.env.frame=some X.env.locals)
 exf:∀ b∈X.ex,b≠X.env.locals/\∀ x c,X.env.cells.lookup x=some c->c≠b
 bs:∀ b o,X.base.get? b=some o->X.s₀.heap.get? b=some o/\X.H₀ b=none
 bsz:X.base.objs.size<=X.s₀.heap.objs.size
 noex:∀ b o,X.base.get? b=some o->b∉X.ex
 exfs:∀ b∈X.ex,b∉X.fs
 funs:X.s₀.heap.FunFrames X.base X.outer
 frf:∀ b∈X.fs,X.H₀ b=none
structure Inv (X:Cx)(pins:L2.AO)(σ:List (Option V))(H:Hp)(s:Shared):Prop where
 ok:X.Ok
 os:s.os=X.s₀.os
 bare:AllBare s.gens
 base:Un X.fs X.ex X.H₀ H X.s₀.heap s.heap
 loc:∃ m,s.heap.Ns X.env.locals m/\∀(i:Nat)(x:Str)(v:V),X.N[i]?=some x->σ[i]?=some (some v)->Vis X.env.scope x->∃ u,RelV v u/\Look X.env s.heap m x u
 cell:∀ x c,X.env.cells.lookup x=some c->∃ v,s.heap.IsCell c v
 free:H X.env.locals=none
 freeC:∀ x c,X.env.cells.lookup x=some c->H c=none
 pin:∀ p∈X.pn++pins,s.heap.get? p.1=some p.2/\H p.1=none/\p.1≠X.env.locals/\p.1∉X.fs/\∀ v,p.2.data≠.cell v
 hok:HOk X.prog X.w H s.heap
 len:σ.length=X.N.length
section
variable {X:Cx}{pins:L2.AO}{σ:List (Option V)}{H H':Hp}{s:Shared}{h':Heap}
theorem Cx.Ok.nofr (ok:X.Ok){b:Addr}{o:Obj}(e:X.base.get? b=some o):b∉X.fs:=fun hb=>by
 have:=(ok.funs.mem hb).1
 rw[e]at this;cases this
theorem Inv.bs (I:Inv X pins σ H s):∀ b o,X.base.get? b=some o->s.heap.get? b=some o/\H b=none:=fun b o e=>
 ⟨I.base.keep b o (I.ok.bs b o e).1 (I.ok.bs b o e).2 (I.ok.nofr e) (I.ok.noex b o e),I.base.free b o (I.ok.bs b o e).1 (I.ok.bs b o e).2 (I.ok.noex b o e)⟩
theorem Inv.bk (I:Inv X pins σ H s):∀ b o,X.base.get? b=some o->s.heap.get? b=some o:=fun b o e=>(I.bs b o e).1
theorem Inv.mod (I:Inv X pins σ H s):Mod X.K X.mg X.base:=I.ok.mod
theorem Inv.kIn (I:Inv X pins σ H s):X.K.In s.heap:=I.ok.mod.kin.keeps I.bk
theorem Inv.nolimit (I:Inv X pins σ H s):s.heap.NoLimit:=I.ok.mod.nolimit.keeps I.bk
theorem Inv.fr (I:Inv X pins σ H s):∃ m,Fr X.base X.env.locals s.heap m:=
 let ⟨m, hn, _⟩ := I.loc
 ⟨m,hn,I.bk,Nat.le_trans I.ok.bsz I.ok.above⟩
theorem Inv.lt (I:Inv X pins σ H s):X.env.locals<s.heap.objs.size:=let ⟨_,hn,_⟩:=I.loc;hn.lt
theorem Inv.sz (I:Inv X pins σ H s):X.s₀.heap.objs.size<=s.heap.objs.size:=Nat.le_trans I.ok.above (Nat.le_of_lt I.lt)
theorem Inv.nofs (I:Inv X pins σ H s){a:Addr}(h:s.heap.objs.size<=a):a∉X.fs:=fun hb=>by
 obtain⟨_,o,ho,_⟩:=I.ok.funs.mem hb;exact absurd (Nat.lt_of_lt_of_le (Heap.lt_size ho) (Nat.le_trans I.sz h)) (Nat.lt_irrefl _)
theorem Inv.cne (I:Inv X pins σ H s):∀ x c,X.env.cells.lookup x=some c->c≠X.env.locals:=fun x c e z=>by
 obtain⟨v,o,ho,hd⟩:=I.cell x c e;obtain⟨m,⟨o',es,ep,ho',hd',_⟩,_⟩:=I.loc;rw[z,ho']at ho;cases ho;rw[hd']at hd;cases hd
theorem Inv.funs (I:Inv X pins σ H s):s.heap.FunFrames X.base X.outer:=by
 have all:∀(l:List Env),(∀ b∈frs l,b∈X.fs)->X.s₀.heap.FunFrames X.base l->s.heap.FunFrames X.base l:=by
  intro l;induction l with
  |nil=>intro ψ ψ;trivial
  |cons env r ih=>
   intro hs hl;obtain⟨hk,⟨L,o,hf,hn,ho,hd⟩,hr⟩:=hl;have hL:L∈X.fs:=hs L (by unfold frs;rw[List.filterMap_cons,hf];exact List.mem_cons_self);obtain⟨sl,e⟩:=I.base.slot L o ho (I.ok.frf L hL) hL fun z=>I.ok.exfs L z hL;exact⟨hk,⟨L,_,hf,hn,e,hd⟩,ih (fun b hb=>hs b (by unfold frs;rw[List.filterMap_cons,hf];exact List.mem_cons_of_mem _ hb)) hr⟩
 exact all X.outer (fun ψ hb=>hb) I.ok.funs
theorem Inv.stack (I:Inv X pins σ H s):s.heap.FunFrames X.base X.stack:=by
 rcases I.ok.stk with e|⟨e,hf⟩
 ·rw[e];exact I.funs
 ·rw[e];obtain⟨m,hn,_⟩:=I.loc;refine .cons (by rw[I.ok.kind];decide) hf hn ?_ I.funs;exact Heap.get?_none_of_le (Nat.le_trans I.ok.bsz I.ok.above)
theorem Inv.stkSub (I:Inv X pins σ H s):∀ b∈frs X.stack,b∈X.env.locals::X.fs:=fun b hb=>by
 rcases I.ok.stk with e|⟨e,hf⟩
 ·rw[e]at hb;exact List.mem_cons_of_mem _ hb
 ·rw[e]at hb;unfold frs at hb;rw[List.filterMap_cons,hf]at hb;exact hb
theorem Inv.stkFree (I:Inv X pins σ H s):∀ b∈frs X.stack,H b=none:=fun b hb=>by
 rcases List.mem_cons.mp (I.stkSub b hb)with e|hb
 ·rw[e];exact I.free
 ·obtain⟨_,o,ho,_⟩:=I.ok.funs.mem hb;exact I.base.free b o ho (I.ok.frf b hb) fun z=>I.ok.exfs b z hb
theorem Inv.step {g':Array GenState}{t':Nat}{d':Drawn}{ch:List Addr}(I:Inv X pins σ H s)
  (hch:∀ b∈ch,(b∈X.ex\/X.s₀.heap.objs.size<=b)/\b≠X.env.locals/\(∀ x c,X.env.cells.lookup x=some c->c≠b)/\∀ p∈X.pn++pins,p.1≠b)
  (keep:∀ b o,b≠X.env.locals->b∉X.fs->b∉ch->s.heap.get? b=some o->H b=none->h'.get? b=some o)
  (slot:∀ b o,b≠X.env.locals->b∈X.fs->b∉ch->s.heap.get? b=some o->H b=none->∃ sl,h'.get? b=some { o with slots:=sl })(free:∀ b o,b∉ch->s.heap.get? b=some o->H b=none->H' b=none)
  (there:∀ b o,b∉ch->s.heap.get? b=some o->∃ o',h'.get? b=some o')
  (tups:∀ b xs,H b=some (.tup xs)->H' b=some (.tup xs))(frzs:∀ b o u,H b=some (.frz o u)->H' b=some (.frz o u))(tbls:∀ b ps,H b=some (.tbl ps)->∃ more,H' b=some (.tbl (ps++more)))
  (ns:∀ m,s.heap.Ns X.env.locals m->h'.Ns X.env.locals m)(hok:HOk X.prog X.w H' h')(hg:AllBare g') :
  Inv X pins σ H' { s with heap:=h',gens:=g',drawn:=d',toks:=t' }:=by
 have neL:∀ b o,X.s₀.heap.get? b=some o->b≠X.env.locals:=fun b o e=>Nat.ne_of_lt (Nat.lt_of_lt_of_le (Heap.lt_size e) I.ok.above);have neC:∀ b o,X.s₀.heap.get? b=some o->b∉X.ex->b∉ch:=fun b o e hx hb=>by
  rcases(hch b hb).1 with z|z
  ·exact hx z
  ·exact absurd (Nat.lt_of_lt_of_le (Heap.lt_size e) z) (Nat.lt_irrefl _)
 have cellK:∀ x c,X.env.cells.lookup x=some c->∀ v,s.heap.IsCell c v->h'.IsCell c v:=fun x c e v ⟨o,ho,hd⟩=>by
  have nch:c∉ch:=fun z=>(hch c z).2.2.1 x c e rfl;by_cases hc:c∈X.fs
  ·obtain⟨sl,q⟩:=slot c o (I.cne x c e) hc nch ho (I.freeC x c e);exact⟨_,q,hd⟩
  ·exact⟨o,keep c o (I.cne x c e) hc nch ho (I.freeC x c e),hd⟩
 refine⟨I.ok,I.os,hg,⟨fun b o e n hb hx=>?_,fun b o e n hb hx=>?_,fun b o e n hx=>?_,fun b o e hx=>?_,fun b xs e=>tups b xs (I.base.tups b xs e),fun b o xs e=>frzs b o xs (I.base.frzs b o xs e),fun b ps e=>?_⟩,?_,fun x c e=>?_,?_,fun x c e=>?_,fun p hp=>?_,hok,I.len⟩
 ·exact keep b o (neL b o e) hb (neC b o e hx) (I.base.keep b o e n hb hx) (I.base.free b o e n hx)
 ·obtain⟨sl,e1⟩:=I.base.slot b o e n hb hx;obtain⟨sl',e2⟩:=slot b _ (neL b o e) hb (neC b o e hx) e1 (I.base.free b o e n hx);exact⟨sl',e2⟩
 ·obtain⟨o',e1⟩:=I.base.there b o e hx;exact free b o' (neC b o e hx) e1 (I.base.free b o e n hx)
 ·obtain⟨o',e1⟩:=I.base.there b o e hx;exact there b o' (neC b o e hx) e1
 ·obtain⟨m1,e1⟩:=I.base.tbls b ps e;obtain⟨m2,e2⟩:=tbls b _ e1;exact⟨m1++m2,by rw[e2,Array.append_assoc]⟩
 ·obtain⟨m,hn,hl⟩:=I.loc;refine⟨m,ns m hn,fun i x v e1 e2 e3=>?_⟩;obtain⟨u,r,l⟩:=hl i x v e1 e2 e3;refine⟨u,r,?_⟩;rcases l with l|⟨k,c,e,z⟩
  ·exact .inl l
  ·exact .inr ⟨k,c,e,cellK x c e _ z⟩
 ·obtain⟨v,z⟩:=I.cell x c e;exact⟨v,cellK x c e v z⟩
 ·obtain⟨m,⟨o,_,_,ho,_⟩,_⟩:=I.loc;exact free _ o (fun z=>(hch _ z).2.1 rfl) ho I.free
 ·obtain⟨v,o,ho,hd⟩:=I.cell x c e;exact free c o (fun z=>(hch c z).2.2.1 x c e rfl) ho (I.freeC x c e)
 ·obtain⟨e,n,ne,nf,d⟩:=I.pin p hp;have nch:p.1∉ch:=fun z=>(hch p.1 z).2.2.2 p hp rfl;exact⟨keep p.1 p.2 ne nf nch e n,free p.1 p.2 nch e n,ne,nf,d⟩
theorem Inv.un {t':Nat}(I:Inv X pins σ H s)(u:Un X.fs [] H H' s.heap h')(hok:HOk X.prog X.w H' h'):Inv X pins σ H' { s with heap:=h',toks:=t' }:=by
 obtain⟨m,⟨o,es,ep,ho,r⟩,_⟩:=id I.loc;obtain⟨sl,hL⟩:=u.any ho I.free (by simp);exact I.step (g':=s.gens) (d':=s.drawn) (ch:=[]) (fun ψ z=>nomatch z) (fun b o ψ hb ψ e n=>u.keep b o e n hb (by simp)) (fun b o ψ hb ψ e n=>u.slot b o e n hb (by simp)) (fun b o ψ e n=>u.free b o e n (by simp)) (fun b o ψ e=>u.there b o e (by simp)) u.tups u.frzs u.tbls (fun m' hm=>by
  obtain⟨o',es',ep',ho',r'⟩:=hm;rw[ho]at ho';cases ho';exact⟨_,es',ep',hL,r'⟩) hok I.bare
theorem Inv.call {g':Array GenState}{t':Nat}{d':Drawn}{ch:List Addr}(I:Inv X pins σ H s)(u:Un (frs X.stack) ch H H' s.heap h')(hok:HOk X.prog X.w H' h')(hg:AllBare g')
  (hch:∀ b∈ch,(b∈X.ex\/X.s₀.heap.objs.size<=b)/\b≠X.env.locals/\(∀ x c,X.env.cells.lookup x=some c->c≠b)/\∀ p∈X.pn++pins,p.1≠b) :
  Inv X pins σ H' { s with heap:=h',gens:=g',drawn:=d',toks:=t' }:=by
 obtain⟨m,⟨o,es,ep,ho,r⟩,_⟩:=id I.loc;obtain⟨sl,hL⟩:=u.any ho I.free fun z=>(hch _ z).2.1 rfl;exact I.step (ch:=ch) hch (fun b o hL hb hc e n=>u.keep b o e n (fun z=>(List.mem_cons.mp (I.stkSub b z)).elim hL hb) hc) (fun b o ψ ψ hc e n=>u.any e n hc) (fun b o hc e n=>u.free b o e n hc) (fun b o hc e=>u.there b o e hc) u.tups u.frzs u.tbls (fun m' hm=>by
  obtain⟨o',es',ep',ho',r'⟩:=hm;rw[ho]at ho';cases ho';exact⟨_,es',ep',hL,r'⟩) hok hg
theorem Inv.turned {t':Nat}{it:Addr}(I:Inv X pins σ H s)(k:∀ b o,b≠it->s.heap.get? b=some o->h'.get? b=some o)(hn:H it=none)(hL:it≠X.env.locals)
  (h1:it∈X.ex\/X.s₀.heap.objs.size<=it)(h2:∀ x c,X.env.cells.lookup x=some c->c≠it)(h3:∀ p∈X.pn++pins,p.1≠it):Inv X pins σ H { s with heap:=h',toks:=t' }:=by
 have nit:∀ b u,H b=some u->b≠it:=fun b u e z=>by rw[z,hn]at e;cases e
 refine I.step (g':=s.gens) (d':=s.drawn) (ch:=[it]) (fun b hb=>?_) (fun b o ψ ψ hc e ψ=>k b o (fun z=>hc (by simp[z])) e) (fun b o ψ ψ hc e ψ=>⟨o.slots,k b o (fun z=>hc (by simp[z])) e⟩) (fun ψ ψ ψ ψ n=>n)
  (fun b o hc e=>⟨o,k b o (fun z=>hc (by simp[z])) e⟩) (fun ψ ψ e=>e) (fun ψ ψ ψ e=>e) (fun b ps e=>⟨#[],by rw[e];simp⟩) (fun m hm=>?_) (fun b u e=>?_) I.bare
 ·have e:b=it:=by simpa using hb
  subst e;exact⟨h1,hL,h2,h3⟩
 ·obtain⟨o,es,ep,ho,r⟩:=hm;exact⟨o,es,ep,k _ o (Ne.symm hL) ho,r⟩
 ·refine(I.hok b u e).stay (fun c v hc q=>k c v ?_ q) (fun ψ q=>q) fun ψ ψ q=>q;rcases hc with z|z
  ·rw[z];exact nit b u e
  ·exact nit c _ z
theorem Inv.tok (I:Inv X pins σ H s) (t:Nat):Inv X pins σ H { s with toks:=t }:=I.un (h':=s.heap) (t':=t) Un.refl I.hok
theorem Inv.kept {t':Nat}(I:Inv X pins σ H s)(k:∀ b u,s.heap.get? b=some u->h'.get? b=some u):Inv X pins σ H { s with heap:=h',toks:=t' }:=I.un (Un.kept k) (I.hok.kept k)
theorem Inv.laid {a:Addr}{o:HO}{t':Nat}(I:Inv X pins σ H s)(k:∀ b u,s.heap.get? b=some u->h'.get? b=some u)(hp:s.heap.objs.size<=a)(new:Z0s X.prog X.w (upd H a o) h' a o) :
  Inv X pins σ (upd H a o) { s with heap:=h',toks:=t' }:=I.un (Un.laid k hp (I.hok.fresh hp)) (I.hok.laid k hp new)
theorem Inv.write {x e:Addr}{o:HO}{t':Nat}(I:Inv X pins σ H s)(mu:Mut (H x))(he:e=x\/H e=some (.own x))(k:∀ b u,b≠e->s.heap.get? b=some u->h'.get? b=some u)(heo:∃ u,h'.get? e=some u)
  (new:Z0s X.prog X.w (upd H x o) h' x o):Inv X pins σ (upd H x o) { s with heap:=h',toks:=t' }:=I.un (Un.write mu he k heo) (I.hok.write mu he k heo new)
theorem Inv.pins_of {pins':L2.AO}(I:Inv X pins σ H s)(h:∀ p∈pins',s.heap.get? p.1=some p.2/\H p.1=none/\p.1≠X.env.locals/\p.1∉X.fs/\∀ v,p.2.data≠.cell v):Inv X pins' σ H s:=
 ⟨I.ok,I.os,I.bare,I.base,I.loc,I.cell,I.free,I.freeC,fun p hp=>(List.mem_append.mp hp).elim (fun z=>I.pin p (List.mem_append_left _ z)) (h p),I.hok,I.len⟩
theorem Z8m {N:List Str}(hN:N.Nodup){i j:Nat}{x:Str}(a:N[i]?=some x)(b:N[j]?=some x):i=j:=by
 obtain⟨h1,e1⟩:=List.getElem?_eq_some_iff.mp a;obtain⟨h2,e2⟩:=List.getElem?_eq_some_iff.mp b;exact(List.getElem_inj hN).mp (e1.trans e2.symm)
theorem Z66 {M:Model}{A:Around}{E:L2.VSP}{i:Nat}{x:Str}{v:V}{u:Value}{Q:Unit->Shared->Prop}(I:Inv X pins σ H s)(hN:X.N.Nodup)(hi:X.N[i]?=some x)(hx:Loc X.env.scope x)(r:RelV v u)
  (h:∀ s',Inv X pins (σ.set i (some v)) H s'->(∃ a,Heap.SameBut a s.heap s'.heap/\(a=X.env.locals\/X.env.cells.lookup x=some a))->Q () s')(hf:X.fn x=true\/X.env.scope.names.lookup x=some .local:=by first|exact .inl rfl|exact .inr rfl|assumption):wpAny M A (storeName X.env x u) Q E s:=by
 obtain⟨m,hn,hl⟩:=id I.loc;have hcls:(X.env.scope.kind==.class||(X.env.scope.kind==.module&&X.env.locals != X.env.globals))=false:=by rw[I.ok.kind];rfl
 have hiσ:i<σ.length:=by rw[I.len];exact(List.getElem?_eq_some_iff.mp hi).1
 have cne:=I.cne;have tracked:∀{a:Addr}{h':Heap},(∃ o,s.heap.get? a=some o/\H a=none)->Heap.SameBut a s.heap h'->HOk X.prog X.w H h':=fun{a h'} ha hs b ob e=>by
  obtain⟨_,_,hfree⟩:=ha;refine(I.hok b ob e).stay (fun c w' hc q=>(hs.2 c ?_).trans q) (fun ψ q=>q) fun ψ ψ q=>q;rintro rfl;rcases hc with rfl|hc
  ·rw[hfree]at e;cases e
  ·rw[hfree]at hc;cases hc
 rcases hx with hk|hk
 ·refine wpAny_storeName_local hk hn (fun h' hn' hs=>?_) hcls;obtain⟨oL,_,_,hoL,_⟩:=id hn;refine h _ ⟨I.ok,I.os,I.bare,⟨fun b o e n hb hx=>?_,fun b o e n hb hx=>?_,I.base.free,fun b o e hx=>?_,I.base.tups,I.base.frzs,I.base.tbls⟩,⟨_,hn',fun j y v' e1 e2 e3=>?_⟩,fun y c e=>?_,I.free,I.freeC,fun p hp=>?_,tracked ⟨oL,hoL,I.free⟩ hs,by simpa using I.len⟩ ⟨_,hs,.inl rfl⟩
  ·exact(hs.2 b (Nat.ne_of_lt (Nat.lt_of_lt_of_le (Heap.lt_size e) I.ok.above))).trans (I.base.keep b o e n hb hx)
  ·obtain⟨sl,e1⟩:=I.base.slot b o e n hb hx;exact⟨sl,(hs.2 b (Nat.ne_of_lt (Nat.lt_of_lt_of_le (Heap.lt_size e) I.ok.above))).trans e1⟩
  ·obtain⟨o',e1⟩:=I.base.there b o e hx;exact⟨o',(hs.2 b (Nat.ne_of_lt (Nat.lt_of_lt_of_le (Heap.lt_size e) I.ok.above))).trans e1⟩
  ·by_cases hj:j=i
   ·subst hj;rw[hi]at e1;cases e1;rw[List.getElem?_set_self hiσ]at e2
    cases e2;exact⟨u,r,.inl ⟨hk,by simp⟩⟩
   ·rw[List.getElem?_set_ne (Ne.symm hj)]at e2;obtain⟨u',r',q⟩:=hl j y v' e1 e2 e3;refine⟨u',r',?_⟩;rcases q with ⟨k,e⟩|⟨k,c,e,z⟩
    ·refine .inl ⟨k,?_⟩;have:y≠x:=fun e=>hj (Z8m hN e1 (e▸hi))
     simp[this,e]
    ·exact .inr ⟨k,c,e,z.sameBut hs (cne y c e)⟩
  ·obtain⟨w',z⟩:=I.cell y c e;exact⟨w',z.sameBut hs (cne y c e)⟩
  ·obtain⟨e,n,ne,nf,d⟩:=I.pin p hp;exact⟨(hs.2 p.1 ne).trans e,n,ne,nf,d⟩
 ·have hfn:X.fn x=true:=by
   rcases hf with z|z
   ·exact z
   ·rw[z]at hk;cases hk
  obtain⟨c,hc⟩:=I.ok.has x (.inl hk);obtain⟨w',z⟩:=I.cell x c hc;refine wpAny_storeName_cell I.ok.kind hk hc z (fun h' hc' hs=>?_);obtain⟨oc,hoc,hocd⟩:=id z;refine h { s with heap:=h' } ⟨I.ok,I.os,I.bare,⟨fun b o e n hb hx=>?_,fun b o e n hb hx=>?_,I.base.free,fun b o e hx=>?_,I.base.tups,I.base.frzs,I.base.tbls⟩,⟨m,hn.sameBut hs (Ne.symm (cne x c hc)),fun j y v' e1 e2 e3=>?_⟩,fun y c' e=>?_,I.free,I.freeC,fun p hp=>?_,tracked ⟨oc,hoc,I.freeC x c hc⟩ hs,by simpa using I.len⟩ ⟨c,hs,.inr hc⟩
  ·exact(hs.2 b (Nat.ne_of_lt (Nat.lt_of_lt_of_le (Heap.lt_size e) (I.ok.cab x c hfn hc)))).trans (I.base.keep b o e n hb hx)
  ·obtain⟨sl,e1⟩:=I.base.slot b o e n hb hx;exact⟨sl,(hs.2 b (Nat.ne_of_lt (Nat.lt_of_lt_of_le (Heap.lt_size e) (I.ok.cab x c hfn hc)))).trans e1⟩
  ·obtain⟨o',e1⟩:=I.base.there b o e hx;exact⟨o',(hs.2 b (Nat.ne_of_lt (Nat.lt_of_lt_of_le (Heap.lt_size e) (I.ok.cab x c hfn hc)))).trans e1⟩
  ·by_cases hj:j=i
   ·subst hj;rw[hi]at e1;cases e1;rw[List.getElem?_set_self hiσ]at e2
    cases e2;exact⟨u,r,.inr ⟨.inl hk,c,hc,hc'⟩⟩
   ·rw[List.getElem?_set_ne (Ne.symm hj)]at e2;obtain⟨u',r',q⟩:=hl j y v' e1 e2 e3;refine⟨u',r',?_⟩;rcases q with q|⟨k,c',e,z'⟩
    ·exact .inl q
    ·refine .inr ⟨k,c',e,z'.sameBut hs ?_⟩;rintro rfl;exact hj (Z8m hN e1 (I.ok.inj _ _ _ e hc▸hi))
  ·by_cases hcc:c'=c
   ·subst hcc;exact⟨_,hc'⟩
   ·obtain⟨w2,z2⟩:=I.cell y c' e;exact⟨w2,z2.sameBut hs hcc⟩
  ·obtain⟨e,n,ne,nf,d⟩:=I.pin p hp;refine⟨(hs.2 p.1 ?_).trans e,n,ne,nf,d⟩;intro q;rw[q,hoc]at e;have q':oc=p.2:=Option.some.inj e;exact d w' (by rw[<-q'];exact hocd)
theorem Z5f {M:Model}{A:Around}{E:L2.VSP}{i:Nat}{x:Str}{v:V}{u:Value}{Q:Unit->Shared->Prop}(I:Inv X pins σ H s)(hN:X.N.Nodup)(hi:X.N[i]?=some x)(hx:Loc X.env.scope x)(r:RelV v u)
  (h:∀ s',Inv X pins (σ.set i (some v)) H s'->Q () s')(hf:X.fn x=true\/X.env.scope.names.lookup x=some .local:=by first|exact .inl rfl|exact .inr rfl|assumption):wpAny M A (storeName X.env x u) Q E s:=
 Z66 I hN hi hx r (fun s' I' ψ=>h s' I') hf
theorem Inv.call' {s':Shared}{ch:List Addr}(I:Inv X pins σ H s)(ho:s'.os=s.os)(u:Un (frs X.stack) ch H H' s.heap s'.heap)(hok:HOk X.prog X.w H' s'.heap)(hg:AllBare s'.gens)
  (hch:∀ b∈ch,(b∈X.ex\/X.s₀.heap.objs.size<=b)/\b≠X.env.locals/\(∀ x c,X.env.cells.lookup x=some c->c≠b)/\∀ p∈X.pn++pins,p.1≠b):Inv X pins σ H' s':=by
 obtain⟨h',g',d',t',o'⟩:=s';have e:o'=s.os:=ho;subst e;exact I.call (g':=g') (t':=t') (d':=d') u hok hg hch
end
abbrev XK:=Value->Option Addr->Hp->Prop
abbrev St:=List (Option V)
abbrev VK:=V->Hp->Prop
abbrev TE:=St->Hp->VK->Prop
abbrev TT:=St->Hp->(Bool->Hp->Prop)->Prop
abbrev TA:=St->Hp->(List V->Hp->Prop)->Prop
structure Ends where
 nx:St->Hp->Prop
 rt:VK
 bk:St->Hp->Prop:=fun ψ ψ=>False
 ct:St->Hp->Prop:=fun ψ ψ=>False
abbrev TS:=Ends->St->Hp->Prop
def EP (X:Cx)(pins:L2.AO)(σ:St)(Q:VK)(u:Value)(s':Shared):Prop:=∃ v H',Inv X pins σ H' s'/\RelV v u/\Q v H'
def TP (X:Cx)(pins:L2.AO)(σ:St)(Q:Bool->Hp->Prop)(b:Bool)(s':Shared):Prop:=∃ H',Inv X pins σ H' s'/\Q b H'
def AP (X:Cx)(pins:L2.AO)(σ:St)(Q:List V->Hp->Prop)(us:List Value)(s':Shared):Prop:=∃ vs H',Inv X pins σ H' s'/\Vals vs us/\Q vs H'
def SP (X:Cx)(pins:L2.AO)(D:Ends)(f:Flow)(s':Shared):Prop:=
 match f with
 |.next=>∃ σ' H',Inv X pins σ' H' s'/\D.nx σ' H'
 |.brk=>∃ σ' H',Inv X pins σ' H' s'/\D.bk σ' H'
 |.cont=>∃ σ' H',Inv X pins σ' H' s'/\D.ct σ' H'
 |.ret u=>∃ v σ' H',Inv X pins σ' H' s'/\RelV v u/\D.rt v H'
def PE (X:Cx)(e:Expr)(t:TE):Prop:=
 ∀(pins:L2.AO)(s:Shared)(σ:St)(H:Hp)(Q:VK),Inv X pins σ H s->t σ H Q->wpAny (model X.prog X.w) X.A (eval e X.env) (EP X pins σ Q) X.xe s
def PT (X:Cx)(e:Expr)(t:TT):Prop:=
 ∀(pins:L2.AO)(s:Shared)(σ:St)(H:Hp)(Q:Bool->Hp->Prop),Inv X pins σ H s->t σ H Q->wpAny (model X.prog X.w) X.A (isTrue e X.env (eval e X.env)) (TP X pins σ Q) X.xe s
def PW (X:Cx)(e:Expr)(t:TT):Prop:=
 ∀(whole:Sem Value)(pins:L2.AO)(s:Shared)(σ:St)(H:Hp)(Q:Bool->Hp->Prop),Inv X pins σ H s->t σ H Q->wpAny (model X.prog X.w) X.A (isTrue e X.env whole) (TP X pins σ Q) X.xe s
theorem PW.pt {X:Cx}{e:Expr}{t:TT}(h:PW X e t):PT X e t:=h _
def PA (X:Cx)(es:List Expr)(t:TA):Prop:=
 ∀(pos:Pos)(pins:L2.AO)(s:Shared)(σ:St)(H:Hp)(Q:List V->Hp->Prop),Inv X pins σ H s->t σ H Q->wpAny (model X.prog X.w) X.A (spliced (backTo pos (starEach es X.env))) (AP X pins σ Q) X.xe s
def PS (X:Cx)(st:Stmt)(t:TS):Prop:=
 ∀(pins:L2.AO)(s:Shared)(σ:St)(H:Hp)(D:Ends),Inv X pins σ H s->t D σ H->wpAny (model X.prog X.w) X.A (exec st X.env) (SP X pins D) X.xe s
def PSs (X:Cx)(st:List Stmt)(t:TS):Prop:=
 ∀(pins:L2.AO)(s:Shared)(σ:St)(H:Hp)(D:Ends),Inv X pins σ H s->t D σ H->wpAny (model X.prog X.w) X.A (execs st X.env) (SP X pins D) X.xe s
theorem thn {α:Type}{t:Sem α}{Q Q':α->Shared->Prop}{M:Model}{A:Around}{E:L2.VSP}{s:Shared}(h:wpAny M A t Q E s)(hQ:∀ a s,Q a s->Q' a s):wpAny M A t Q' E s:=wpAny_mono h hQ fun ψ ψ x=>x
section
variable {X:Cx}
theorem bin {a b:Expr}{ta tb:TE}(ha:PE X a ta)(hb:PE X b tb){pins:L2.AO}{s:Shared}{σ:St}{H:Hp}{R:V->V->Hp->Prop}(I:Inv X pins σ H s)(h:ta σ H fun x H1=>tb σ H1 fun y H2=>R x y H2)
  {α:Type}{Q:α->Shared->Prop}{f:Value->Value->Sem α}
  (hf:∀ v u s2 x y H2,Inv X pins σ H2 s2->RelV x v->RelV y u->R x y H2->wpAny (model X.prog X.w) X.A (f v u) Q X.xe s2) :
  wpAny (model X.prog X.w) X.A (eval a X.env) (fun v s₁=>wpAny (model X.prog X.w) X.A (eval b X.env) (fun u s₂=>wpAny (model X.prog X.w) X.A (f v u) Q X.xe s₂) X.xe s₁) X.xe s:=by
 refine thn (ha pins s σ H _ I h) fun v s1 ⟨x,H1,I1,r1,q1⟩=>?_;refine thn (hb pins s1 σ H1 _ I1 q1) fun u s2 ⟨y,H2,I2,r2,q2⟩=>?_;exact hf v u s2 x y H2 I2 r1 r2 q2
def tVar (i:Nat):TE:=fun σ H Q=>∃ v,σ[i]?=some (some v)/\Q v H
def tC (v:V):TE:=fun ψ H Q=>Q v H
theorem Z1w {i:Nat}{x:Str}{pos:Pos}(hN:X.N[i]?=some x)(hv:Vis X.env.scope x)(hd:(x==("__debug__" : Str))=false:=by decide)(hcd:(x==("__classdict__" : Str))=false:=by decide):PE X (.Name x pos) (tVar i):=by
 intro pins s σ H Q I h;obtain⟨v,e,h⟩:=h;obtain⟨m,hn,hl⟩:=I.loc;obtain⟨u,r,l⟩:=hl i x v hN e hv;have fin:EP X pins σ Q u s:=⟨v,H,I,r,h⟩
 rcases l with ⟨hk,hm⟩|⟨hk,c,hc,hcell⟩
 ·exact wpAny_Name (wpAny_loadName_local I.ok.kind hk hn hm fin) hd
 ·rcases hk with hk|hk
  ·exact wpAny_Name (wpAny_loadName_cell I.ok.kind hk hc hcell fin) hd
  ·exact wpAny_Name (wpAny_loadName_free I.ok.kind hk hc hcell fin hcd) hd
theorem Z4x {i j pos}:PE X (.Constant (.int i) j pos) (tC (.int i)):=fun ψ ψ ψ H ψ I h=>wpAny_Constant_int ⟨.int i,H,I.tok _,⟨_,rfl⟩,h⟩
theorem Zry {b j pos}:PE X (.Constant (.bool b) j pos) (tC (.bl b)):=fun ψ ψ ψ H ψ I h=>Constant_bool ⟨.bl b,H,I,rfl,h⟩
theorem Zmn {j pos}:PE X (.Constant .none j pos) (tC .non):=fun ψ ψ ψ H ψ I h=>Constant_none ⟨.non,H,I,rfl,h⟩
theorem Zmo {x j pos}:PE X (.Constant (.str x) j pos) (tC (.str x)):=fun ψ ψ ψ H ψ I h=>Calls.Constant_str ⟨.str x,H,I.tok _,⟨_,rfl⟩,h⟩
def Gl (X:Cx)(x:Str):Prop:=X.env.kindOf x=some .globalImplicit
theorem Zj8 {E:L2.VSP}{pins:L2.AO}{s:Shared}{σ:St}{H:Hp}{x:Str}{u:Value}{pos:Pos}{Q:L2.VSP}(I:Inv X pins σ H s)(hg:Gl X x)(hm:X.mg x=some u)(h:Q u s)
  (hd:(x==("__debug__" : Str))=false:=by decide):wpAny (model X.prog X.w) X.A (eval (.Name x pos) X.env) Q E s:=
 Calls.Name_function_global I.ok.kind hg (Calls.loadGlobal_global (by rw[I.ok.glob];exact I.mod.glob.keeps I.bk) hm h) hd
theorem Z4y {E:L2.VSP}{pins:L2.AO}{s:Shared}{σ:St}{H:Hp}{x:Str}{u:Value}{pos:Pos}{Q:L2.VSP}(I:Inv X pins σ H s)(hg:Gl X x)(hm:X.mg x=none)(hv:bootBuiltins x=some u)(h:Q u s)
  (hn:x ≠ "__name__" := by decide)(hd:(x==("__debug__" : Str))=false:=by decide):wpAny (model X.prog X.w) X.A (eval (.Name x pos) X.env) Q E s:=by
 obtain⟨mb,h1,h2⟩:=I.mod.blt;exact Calls.Name_function_global I.ok.kind hg (Calls.loadGlobal_builtin (by rw[I.ok.glob];exact I.mod.glob.keeps I.bk) hm (by rw[I.ok.blt];exact h1.keeps I.bk) ((h2 x hn).trans hv) h) hd
variable {a b:Expr}{ta tb:TE}{pos:Pos}
def PC (X:Cx)(op:CmpOp)(a b:Expr)(t:TE):Prop:=
 ∀(pins:L2.AO)(s:Shared)(σ:St)(H:Hp)(Q:VK),Inv X pins σ H s->t σ H Q ->
  wpAny (model X.prog X.w) X.A (eval a X.env) (fun v s₁=>wpAny (model X.prog X.w) X.A (eval b X.env) (fun u s₂=>wpAny (model X.prog X.w) X.A (compareOp op v u) (EP X pins σ Q) X.xe s₂) X.xe s₁) X.xe s
theorem Z8n (b:Expr){op:CmpOp}(h:op≠.In)(h2:op≠.NotIn):behindInMarks op b=false:=by
 have e1:(op==CmpOp.In)=false:=by cases op<;>first|rfl|exact absurd rfl h
 have e2:(op==CmpOp.NotIn)=false:=by cases op<;>first|rfl|exact absurd rfl h2
 cases b<;>simp[behindInMarks,e1,e2]
def tB (t:TE):TT:=fun σ H Q=>t σ H fun x H1=>∃ c,x=.bl c/\Q c H1
theorem Zmp {op:CmpOp}{t:TE}(h:PC X op a b t)(h1:behindInMarks op b=false:=by first|exact Z8n _ (by decide) (by decide)|rfl):PE X (.Compare a [op] [b] pos) t:=fun pins s σ H Q I hw=>wpAny_Compare1 (h pins s σ H Q I hw) h1
theorem Zhe {op:CmpOp}{t:TE}(h:PC X op a b t)(h1:behindInMarks op b=false:=by first|exact Z8n _ (by decide) (by decide)|rfl):PT X (.Compare a [op] [b] pos) (tB t):=by
 intro pins s σ H Q I hw;refine wpAny_isTrue_Compare1 (thn (h pins s σ H _ I hw) fun v s1 h1=>thn h1 fun u s2 h2=>thn h2 fun c s3 ⟨x,H1,I1,r1,q1⟩=>?_) h1;obtain⟨d,rfl,q⟩:=q1
 cases r1;exact wpAny_truthy_bool ⟨H1,I1,q⟩
theorem Zmq {e:Expr}{t:TE}(h:PE X e t)(he:∀ whole,isTrue e X.env whole=(do let v <- whole;standAt e.pos;holding [v] (truthy v)):=by intro ψ;rfl):PT X e (tB t):=by
 intro pins s σ H Q I hw;refine isTrue_plain (thn (h pins s σ H _ I hw) fun v s1 ⟨x,H1,I1,r1,q1⟩=>?_) (he _);obtain⟨d,rfl,q⟩:=q1
 cases r1;exact wpAny_truthy_bool ⟨H1,I1,q⟩
variable {tA tB':TT}{rest:List Expr}
def tAnd (t u:TT):TT:=fun σ H Q=>t σ H fun c H1=>if c=true then u σ H1 Q else Q false H1
def tOr (t u:TT):TT:=fun σ H Q=>t σ H fun c H1=>if c=true then Q true H1 else u σ H1 Q
def tNot (t:TT):TT:=fun σ H Q=>t σ H fun c H1=>Q (!c) H1
theorem Zj9 (ha:PT X a tA):PW X (.BoolOp .And [a] pos) tA:=by
 intro wh pins s σ H Q I h;refine isTrue_and (thn (ha pins s σ H Q I h) fun c s1 e=>?_)
 cases c with
 |true=>exact isTrue_and_nil e
 |false=>exact e
theorem Zmr (ha:PT X a tA):PW X (.BoolOp .Or [a] pos) tA:=by
 intro wh pins s σ H Q I h;refine isTrue_or (thn (ha pins s σ H Q I h) fun c s1 e=>?_)
 cases c with
 |false=>exact isTrue_or_nil e
 |true=>exact e
theorem Zms (ha:PT X a tA)(hb:PW X (.BoolOp .And (b::rest) pos) tB'):PW X (.BoolOp .And (a::b::rest) pos) (tAnd tA tB'):=by
 intro wh pins s σ H Q I h;refine isTrue_and (thn (ha pins s σ H _ I h) fun c s1 ⟨H1,I1,q1⟩=>?_)
 cases c with
 |true=>exact hb wh pins s1 σ H1 Q I1 q1
 |false=>exact⟨H1,I1,q1⟩
theorem Zrz (ha:PT X a tA)(hb:PW X (.BoolOp .Or (b::rest) pos) tB'):PW X (.BoolOp .Or (a::b::rest) pos) (tOr tA tB'):=by
 intro wh pins s σ H Q I h;refine isTrue_or (thn (ha pins s σ H _ I h) fun c s1 ⟨H1,I1,q1⟩=>?_)
 cases c with
 |true=>exact⟨H1,I1,q1⟩
 |false=>exact hb wh pins s1 σ H1 Q I1 q1
theorem Zmt (ha:PT X a tA):PT X (.UnaryOp .Not a pos) (tNot tA):=by
 intro pins s σ H Q I h;exact isTrue_not (ha pins s σ H (fun c H1=>Q (!c) H1) I h)
def Zmu (ta tb:TE):TE:=fun σ H Q=>ta σ H fun x H1=>∃ c,x=.bl c/\if c=true then tb σ H1 Q else Q (.bl false) H1
def tOrV (ta tb:TE):TE:=fun σ H Q=>ta σ H fun x H1=>∃ c,x=.bl c/\if c=true then Q (.bl true) H1 else tb σ H1 Q
theorem Zmv {op}{t:TE}(h:PE X a t):PE X (.BoolOp op [a] pos) t:=fun pins s σ H Q I hw=>BoolOp_one (h pins s σ H Q I hw)
theorem Zmw (ha:PE X a ta)(hb:PE X (.BoolOp .And (b::rest) pos) tb):PE X (.BoolOp .And (a::b::rest) pos) (Zmu ta tb):=by
 intro pins s σ H Q I h;refine BoolOp_and (thn (ha pins s σ H _ I h) fun v s1 ⟨x,H1,I1,r1,q1⟩=>?_);obtain⟨c,rfl,q1⟩:=q1
 cases r1;refine wpAny_truthy_bool ?_
 cases c with
 |true=>exact hb pins s1 σ H1 Q I1 q1
 |false=>exact⟨.bl false,H1,I1,rfl,q1⟩
theorem Zs0 (ha:PE X a ta)(hb:PE X (.BoolOp .Or (b::rest) pos) tb):PE X (.BoolOp .Or (a::b::rest) pos) (tOrV ta tb):=by
 intro pins s σ H Q I h;refine BoolOp_or (thn (ha pins s σ H _ I h) fun v s1 ⟨x,H1,I1,r1,q1⟩=>?_);obtain⟨c,rfl,q1⟩:=q1
 cases r1;refine wpAny_truthy_bool ?_
 cases c with
 |false=>exact hb pins s1 σ H1 Q I1 q1
 |true=>exact⟨.bl true,H1,I1,rfl,q1⟩
def tIf (t:TT)(ta tb:TE):TE:=fun σ H Q=>t σ H fun c H1=>if c=true then ta σ H1 Q else tb σ H1 Q
theorem Zf3 {c:Expr}(hc:PT X c tA)(ha:PE X a ta)(hb:PE X b tb):PE X (.IfExp c a b pos) (tIf tA ta tb):=by
 intro pins s σ H Q I h;refine wpAny_IfExp (thn (hc pins s σ H _ I h) fun d s1 ⟨H1,I1,q1⟩=>?_)
 cases d with
 |true=>exact ha pins s1 σ H1 Q I1 q1
 |false=>exact hb pins s1 σ H1 Q I1 q1
end
def SqL (K:L2.Fg)(H:Hp)(a:Addr)(xs:List V):Prop:=
 Rd H a (.lst xs) \/
  ∃(o:Obj)(its:Array Value) (n:Nat),K.lookup a=some o/\o.cls=.type "list" /\ o.dict=none/\o.data=.seq its n/\its.size<=sizeLine/\Vals xs its.toList
def SqT (K:L2.Fg)(H:Hp)(a:Addr)(xs:List V):Prop:=
 Rd H a (.tup xs) \/
  ∃(o:Obj)(its:Array Value) (n:Nat),K.lookup a=some o/\o.cls=.type "tuple" /\ o.data=.seq its n/\its.size<=sizeLine/\Vals xs its.toList
def absV:Value->Option V
 |.none=>some .non
 |.bool b=>some (.bl b)
 |.int i _=>some (.int i)
 |.str x _=>some (.str x)
 |.bytes b _=>some (.byt b)
 |.float b _=>some (.flt b)
 |.ref a=>some (.ref a)
 |.type n=>some (.ty n)
 |_=>none
theorem RelV.abs {x:V}{u:Value}(r:RelV x u):absV u=some x:=by
 cases x with
 |non=>cases r;rfl
 |bl _=>cases r;rfl
 |int _=>obtain⟨t,rfl⟩:=r;rfl
 |str _=>obtain⟨t,rfl⟩:=r;rfl
 |byt _=>obtain⟨t,rfl⟩:=r;rfl
 |flt _=>obtain⟨t,rfl⟩:=r;rfl
 |ref _=>cases r;rfl
 |ty _=>cases r;rfl
theorem RelV.inj {x y:V}{u:Value}(r:RelV x u)(q:RelV y u):x=y:=Option.some.inj (r.abs.symm.trans q.abs)
theorem Vals.inj:∀{xs ys:List V}{us:List Value},Vals xs us->Vals ys us->xs=ys
 |_,_,_,.nil,.nil=>rfl
 |_,_,_,.cons r t,.cons r' t'=>by rw[r.inj r',Vals.inj t t']
section
variable {X:Cx}{pins:L2.AO}{σ:St}{H:Hp}{s:Shared}{a:Addr}{xs ys:List V}
theorem SqL.of {K:L2.Fg}(h:H a=some (.lst xs)):SqL K H a xs:=.inl (.inl h)
theorem SqT.of {K:L2.Fg}(h:H a=some (.tup xs)):SqT K H a xs:=.inl (.inl h)
theorem Inv.list (I:Inv X pins σ H s)(h:SqL X.K H a xs):∃ its:List Value,Vals xs its/\PlainL s.heap a its.toArray/\xs.length<=sizeLine:=by
 rcases h with h|⟨o,its,n,hk,hc,hd,hs,hz,r⟩
 ·obtain⟨z,its,n,r,e⟩:=h.ok I.hok;exact⟨its,r,⟨_,n,e,rfl,rfl,rfl⟩,z⟩
 ·refine⟨its.toList,r,⟨o,n,I.kIn a o hk,hc,hd,by simpa using hs⟩,?_⟩;have e:=r.length;simp only[Array.length_toList]at e;omega
theorem Inv.tuple (I:Inv X pins σ H s)(h:SqT X.K H a xs):∃ its:List Value,Vals xs its/\IsTup s.heap a its.toArray/\xs.length<=sizeLine:=by
 rcases h with h|⟨o,its,n,hk,hc,hs,hz,r⟩
 ·obtain⟨z,its,r,p⟩:=h.ok I.hok;exact⟨its,r,p,z⟩
 ·refine⟨its.toList,r,⟨o,I.kIn a o hk,hc,n,by simpa using hs⟩,?_⟩;have e:=r.length;simp only[Array.length_toList]at e;omega
theorem Inv.list_inj (I:Inv X pins σ H s)(h:SqL X.K H a xs)(h':SqL X.K H a ys):xs=ys:=by
 obtain⟨its,r,⟨o,n,e,_,_,d⟩,_⟩:=I.list h;obtain⟨its',r',⟨o',n',e',_,_,d'⟩,_⟩:=I.list h';rw[e]at e';cases e';rw[d]at d';injection d' with d1 _;have:its=its':=by simpa using congrArg Array.toList d1
 subst this;exact r.inj r'
theorem Inv.tuple_inj (I:Inv X pins σ H s)(h:SqT X.K H a xs)(h':SqT X.K H a ys):xs=ys:=by
 obtain⟨its,r,⟨o,e,_,n,d⟩,_⟩:=I.tuple h;obtain⟨its',r',⟨o',e',_,n',d'⟩,_⟩:=I.tuple h';rw[e]at e';cases e';rw[d]at d';injection d' with d1 _;have:its=its':=by simpa using congrArg Array.toList d1
 subst this;exact r.inj r'
end
abbrev Cx.wish (X:Cx)(E:L2.VSP):Cx:={ X with xe:=E }
abbrev Cx.nox (X:Cx):Cx:=X.wish fun ψ ψ=>False
theorem Cx.Ok.wish {X:Cx}(ok:X.Ok)(E:L2.VSP):(X.wish E).Ok:=
 ⟨ok.mod,ok.kind,ok.glob,ok.blt,ok.above,ok.inj,ok.has,ok.cab,ok.hd,ok.frames,ok.stk,ok.exf,ok.bs,ok.bsz,ok.noex,ok.exfs,ok.funs,ok.frf⟩
theorem Cx.Ok.unwish {X:Cx}{E:L2.VSP}(ok:(X.wish E).Ok):X.Ok:=
 ⟨ok.mod,ok.kind,ok.glob,ok.blt,ok.above,ok.inj,ok.has,ok.cab,ok.hd,ok.frames,ok.stk,ok.exf,ok.bs,ok.bsz,ok.noex,ok.exfs,ok.funs,ok.frf⟩
section
variable {X:Cx}{pins:L2.AO}{σ:St}{H:Hp}{s:Shared}{E:L2.VSP}
theorem Inv.wish (I:Inv X pins σ H s)(E:L2.VSP):Inv (X.wish E) pins σ H s:=⟨I.ok.wish E,I.os,I.bare,I.base,I.loc,I.cell,I.free,I.freeC,I.pin,I.hok,I.len⟩
theorem Inv.unwish (I:Inv (X.wish E) pins σ H s):Inv X pins σ H s:=⟨I.ok.unwish,I.os,I.bare,I.base,I.loc,I.cell,I.free,I.freeC,I.pin,I.hok,I.len⟩
theorem SP.unwish {D:Ends}{f:Flow}{s':Shared}(h:SP (X.wish E) pins D f s'):SP X pins D f s':=by
 cases f with
 |next=>obtain⟨σ',H',I,q⟩:=h;exact⟨σ',H',I.unwish,q⟩
 |brk=>obtain⟨σ',H',I,q⟩:=h;exact⟨σ',H',I.unwish,q⟩
 |cont=>obtain⟨σ',H',I,q⟩:=h;exact⟨σ',H',I.unwish,q⟩
 |ret u=>obtain⟨v,σ',H',I,r,q⟩:=h;exact⟨v,σ',H',I.unwish,r,q⟩
theorem PE.nox {e:Expr}{t:TE}(h:PE X.nox e t):PE X e t:=fun pins s σ H Q I hw=>
 wpAny_mono (h pins s σ H Q (I.wish _) hw) (fun _ _ ⟨v,H',I',r,q⟩=>⟨v,H',I'.unwish,r,q⟩) fun ψ ψ z=>False.elim z
theorem PT.nox {e:Expr}{t:TT}(h:PT X.nox e t):PT X e t:=fun pins s σ H Q I hw=>
 wpAny_mono (h pins s σ H Q (I.wish _) hw) (fun _ _ ⟨H',I',q⟩=>⟨H',I'.unwish,q⟩) fun ψ ψ z=>False.elim z
theorem PSs.nox {st:List Stmt}{t:TS}(h:PSs X.nox st t):PSs X st t:=fun pins s σ H D I hw=>
 wpAny_mono (h pins s σ H D (I.wish _) hw) (fun ψ ψ q=>q.unwish) fun ψ ψ z=>False.elim z
end
section
variable {X:Cx}{st:Stmt}{rest:List Stmt}{t u:TS}{e:Expr}{te:TE}{pos:Pos}
def Zmx:TS:=fun D σ H=>D.nx σ H
def tSeq (t u:TS):TS:=fun D σ H=>t { D with nx:=u D } σ H
theorem Zja:PSs X [] Zmx:=fun ψ ψ σ H ψ I h=>wpAny_execs_nil ⟨σ,H,I,h⟩
theorem Z5g (h1:PS X st t)(h2:PSs X rest u):PSs X (st::rest) (tSeq t u):=by
 intro pins s σ H D I h;refine wpAny_execs_cons (thn (h1 pins s σ H { D with nx:=u D } I h) fun f s1 q=>?_)
 cases f with
 |next=>
  obtain⟨σ',H',I',q⟩:=q;exact h2 pins s1 σ' H' D I' q
 |ret v=>exact q
 |brk=>exact q
 |cont=>exact q
theorem Zbf (h1:PS X st t):PSs X [st] t:=by
 intro pins s σ H D I h;refine wpAny_execs_cons (thn (h1 pins s σ H D I h) fun f s1 q=>?_)
 cases f with
 |next=>exact wpAny_execs_nil q
 |ret v=>exact q
 |brk=>exact q
 |cont=>exact q
def Zhf:TS:=fun D σ H=>D.bk σ H
theorem Zf4:PS X (.Break pos) Zhf:=fun ψ ψ σ H ψ I h=>wpAny_Break ⟨σ,H,I,h⟩
theorem Inv.quiet {pins:L2.AO}{σ:St}{H:Hp}{s:Shared}(I:Inv X pins σ H s):interactive X.env=false:=by simp[interactive,I.ok.kind]
def Z7s (te:TE):TS:=fun D σ H=>te σ H fun ψ H1=>D.nx σ H1
theorem Zbg (he:PE X e te)(hs:swapsWith e none pos.line X.env=pure false:=by rfl):PS X (.Expr e pos) (Z7s te):=by
 intro pins s σ H D I h;exact wpAny_Expr_any (thn (he pins s σ H _ I h) fun v s1 ⟨x,H1,I1,r1,q1⟩=>⟨σ,H1,I1,q1⟩) I.quiet hs
def tRet (te:TE):TS:=fun D σ H=>te σ H D.rt
theorem Zmy (he:PE X e te):PS X (.Return (some e) pos) (tRet te):=by
 intro pins s σ H D I h;exact wpAny_Return_some (thn (he pins s σ H _ I h) fun v s1 ⟨x,H1,I1,r1,q1⟩=>⟨x,σ,H1,I1,r1,q1⟩)
def tIfS (c:TT)(t u:TS):TS:=fun D σ H=>c σ H fun b H1=>if b=true then t D σ H1 else u D σ H1
theorem Zs1 {c:Expr}{a b:List Stmt}{tc:TT}(hc:PT X c tc)(ha:PSs X a t)(hb:PSs X b u):PS X (.If c a b pos) (tIfS tc t u):=by
 intro pins s σ H D I h;refine wpAny_If (thn (hc pins s σ H _ I h) fun d s1 ⟨H1,I1,q1⟩=>?_)
 cases d with
 |true=>exact ha pins s1 σ H1 D I1 q1
 |false=>exact hb pins s1 σ H1 D I1 q1
end
abbrev TG:=V->St->Hp->(St->Hp->Prop)->Prop
abbrev TGs:=List V->St->Hp->(St->Hp->Prop)->Prop
def PG (X:Cx)(target:Expr)(t:TG):Prop:=
 ∀(pins:L2.AO)(s:Shared)(σ:St)(H:Hp)(v:V)(u:Value)(Q:St->Hp->Prop),Inv X pins σ H s->RelV v u->t v σ H Q ->
  wpAny (model X.prog X.w) X.A (assign target X.env u) (fun ψ s'=>∃ σ' H',Inv X pins σ' H' s'/\Q σ' H') X.xe s
def PGs (X:Cx)(ts:List Expr)(t:TGs):Prop:=
 ∀(pins:L2.AO)(s:Shared)(σ:St)(H:Hp)(vs:List V)(us:List Value)(Q:St->Hp->Prop),Inv X pins σ H s->Vals vs us->t vs σ H Q ->
  wpAny (model X.prog X.w) X.A (assignInOrder ((assignEach ts X.env).map (·.2)) us) (fun ψ s'=>∃ σ' H',Inv X pins σ' H' s'/\Q σ' H') X.xe s
abbrev TSet:=V->V->V->Hp->(Hp->Prop)->Prop
def PSet (X:Cx)(t:TSet):Prop:=
 ∀(pins:L2.AO)(s:Shared)(σ:St)(H:Hp)(o i v:V)(ov iv u:Value)(Q:Hp->Prop),Inv X pins σ H s->RelV o ov->RelV i iv->RelV v u->t o i v H Q ->
  wpAny (model X.prog X.w) X.A (setItem ov iv u) (fun ψ s'=>∃ H',Inv X pins σ H' s'/\Q H') X.xe s
abbrev TIp:=V->V->Hp->VK->Prop
def PIp (X:Cx)(op:Operator)(t:TIp):Prop:=
 ∀(pins:L2.AO)(s:Shared)(σ:St)(H:Hp)(x y:V)(v u:Value)(Q:VK),Inv X pins σ H s->RelV x v->RelV y u->t x y H Q ->
  wpAny (model X.prog X.w) X.A (inplaceOp op v u) (EP X pins σ Q) X.xe s
section
variable {X:Cx}{pos:Pos}
def Z7t (i:Nat):TG:=fun v σ H Q=>Q (σ.set i (some v)) H
theorem Zjb {i:Nat}{x:Str}(hN:X.N.Nodup)(hi:X.N[i]?=some x)(hx:Loc X.env.scope x)(hf:X.fn x=true\/X.env.scope.names.lookup x=some .local:=by first|exact .inl rfl|exact .inr rfl|assumption):PG X (.Name x pos) (Z7t i):=by
 intro pins s σ H v u Q I r h;exact wpAny_assign_Name (Z5f I hN hi hx r (fun s' I'=>⟨_,H,I',h⟩) hf)
def gNil:TGs:=fun vs σ H Q=>vs=[]/\Q σ H
def Zmz (t:TG)(u:TGs):TGs:=fun vs σ H Q=>∃ v r,vs=v::r/\t v σ H fun σ' H'=>u r σ' H' Q
theorem Zjc:PGs X [] gNil:=by
 intro pins s σ H vs us Q I r h;obtain⟨e,h⟩:=h;subst e
 cases r;exact assignInOrder_nil ⟨σ,H,I,h⟩
theorem Zf5 {e:Expr}{es:List Expr}{t:TG}{u:TGs}(h1:PG X e t)(h2:PGs X es u)
  (hs:(assignEach (e::es) X.env).map (·.2)=assign e X.env::(assignEach es X.env).map (·.2):=by rfl):PGs X (e::es) (Zmz t u):=by
 intro pins s σ H vs us Q I r h;obtain⟨v,vr,e1,h⟩:=h;subst e1
 cases r with
 |cons r rr=>
  rw[hs];refine assignInOrder_cons (thn (h1 pins s σ H _ _ _ I r h) fun _ s1 ⟨σ1,H1,I1,q1⟩=>?_);exact h2 pins s1 σ1 H1 _ _ Q I1 rr q1
def gTup (K:L2.Fg) (n:Nat)(t:TGs):TG:=fun v σ H Q=>∃ a xs,v=.ref a/\SqT K H a xs/\xs.length=n/\t xs σ H Q
theorem Zn0 {es:List Expr}{k:Nat}{t:TGs}{n:Nat}(hc:X.calm=true)(h:PGs X es t)
  (hn:(assignEach es X.env).length=n:=by rfl)(hst:(assignEach es X.env).findIdx? (·.1)=none:=by rfl):PG X (.Tuple es k pos) (gTup X.K n t):=by
 intro pins s σ H v u Q I r hw;obtain⟨a,xs,e1,hq,hl,hw⟩:=hw;subst e1
 cases r;obtain⟨its,rv,ht,hz⟩:=I.tuple hq;refine assign_Tuple_tuple (I.ok.hd hc) ht (by simp[hn,<-hl,rv.length]) hst fun h' hx=>?_;have I1:Inv X pins σ H { s with heap:=h' }:=I.kept (t':=s.toks) fun b o e=>hx b o (Nat.ne_of_lt (Heap.lt_size e)) e;exact h pins _ σ H xs _ Q I1 (by simpa using rv) hw
def gSub (to ti:TE)(t:TSet):TG:=fun v σ H Q=>to σ H fun o H1=>ti σ H1 fun i H2=>t o i v H2 fun H3=>Q σ H3
theorem Zbh {o i:Expr}{to ti:TE}{t:TSet}(ho:PE X o to)(hi:PE X i ti)(hs:PSet X t)
  (ha:∀ v,assign (.Subscript o i pos) X.env v=(do
   let ov <- holding [v] (eval o X.env)
   let iv <- holding [v, ov] (eval i X.env)
   standAt pos
   holding [v,ov,iv] (setItem ov iv v)
   release [v,ov,iv] []):=by intro ψ;rfl):PG X (.Subscript o i pos) (gSub to ti t):=by
 intro pins s σ H v u Q I r h;rw[ha];refine wpAny_bind (wpAny_holding (thn (ho pins s σ H _ I h) fun ov s1 ⟨x,H1,I1,r1,q1⟩=>?_));refine wpAny_bind (wpAny_holding (thn (hi pins s1 σ H1 _ I1 q1) fun iv s2 ⟨y,H2,I2,r2,q2⟩=>?_));refine wpAny_bind (wpAny_standAt (wpAny_bind (wpAny_holding (thn (hs pins s2 σ H2 x y v ov iv u _ I2 r1 r2 r q2) fun _ s3 ⟨H3,I3,q3⟩=>?_))));exact wpAny_release ⟨σ,H3,I3,q3⟩
def tAsg (te:TE)(g:TG):TS:=fun D σ H=>te σ H fun x H1=>g x σ H1 D.nx
theorem Z8o {tg e:Expr}{te:TE}{g:TG}(he:PE X e te)(hg:PG X tg g)(hs:swapsWithSole [tg] e pos.line X.env=pure false:=by rfl)(hw:swappedStores [tg] e X.env=pure none:=by rfl)
  (h1:(assignEach [tg] X.env).map (·.2)=[assign tg X.env]:=by rfl):PS X (.Assign [tg] e pos) (tAsg te g):=by
 intro pins s σ H D I h;refine wpAny_Assign_stores (thn (he pins s σ H _ I h) fun v s1 ⟨x,H1,I1,r1,q1⟩=>?_) hs hw;rw[h1];exact thn (hg pins s1 σ H1 x v _ I1 r1 q1) fun ψ s2 q=>q
theorem Zbi {i:Nat}{x:Str}{e:Expr}{te:TE}{pos':Pos}(hN:X.N.Nodup)(hi:X.N[i]?=some x)(hx:Loc X.env.scope x)(he:PE X e te)(hs:swapsWith e (some (.Name x pos')) pos.line X.env=pure false:=by rfl)(hf:X.fn x=true\/X.env.scope.names.lookup x=some .local:=by first|exact .inl rfl|exact .inr rfl|assumption) :
  PS X (.Assign [.Name x pos'] e pos) (tAsg te (Z7t i)):=by
 intro pins s σ H D I h;refine wpAny_Assign_Name (thn (he pins s σ H _ I h) fun v s1 ⟨y,H1,I1,r1,q1⟩=>?_) hs;exact Z5f I1 hN hi hx r1 (fun s2 I2=>⟨_,H1,I2,q1⟩) hf
def tAug (i:Nat)(te:TE)(ti:TIp):TS:=fun D σ H=>∃ x,σ[i]?=some (some x)/\te σ H fun y H1=>ti x y H1 fun z H2=>D.nx (σ.set i (some z)) H2
theorem Zn1 {i:Nat}{x:Str}{e:Expr}{te:TE}{op:Operator}{ti:TIp}{pos':Pos}(hN:X.N.Nodup)(hi:X.N[i]?=some x)(hx:Loc X.env.scope x)(he:PE X e te)(ho:PIp X op ti)(hf:X.fn x=true\/X.env.scope.names.lookup x=some .local:=by first|exact .inl rfl|exact .inr rfl|assumption) :
  PS X (.AugAssign (.Name x pos') op e pos) (tAug i te ti):=by
 intro pins s σ H D I h;obtain⟨v,e1,h⟩:=h;obtain⟨m,hn,hl⟩:=I.loc;have vis:Vis X.env.scope x:=by rcases hx with k|k;exact .inl k;exact .inr (.inl k)
 obtain⟨u,r,l⟩:=hl i x v hi e1 vis;refine wpAny_AugAssign_Name ?_;have go:wpAny (model X.prog X.w) X.A (eval e X.env) (fun w s₂=>wpAny (model X.prog X.w) X.A (inplaceOp op u w) (fun r s₃=>wpAny (model X.prog X.w) X.A (storeName X.env x r) (fun ψ=>SP X pins D .next) X.xe s₃) X.xe s₂) X.xe s:=by
  refine thn (he pins s σ H _ I h) fun w s1 ⟨y,H1,I1,r1,q1⟩=>?_;refine thn (ho pins s1 σ H1 v y u w _ I1 r r1 q1) fun z s2 ⟨zv,H2,I2,r2,q2⟩=>?_;exact Z5f I2 hN hi hx r2 (fun s3 I3=>⟨_,H2,I3,q2⟩) hf
 rcases l with ⟨hk,hm⟩|⟨hk,c,hc,hcell⟩
 ·exact wpAny_loadName_local I.ok.kind hk hn hm go
 ·rcases hk with hk|hk
  ·exact wpAny_loadName_cell I.ok.kind hk hc hcell go
  ·rcases hx with k|k
   ·have:X.env.scope.names.lookup x=some .free:=hk
    rw[k]at this;cases this
   ·have:X.env.scope.names.lookup x=some .free:=hk
    rw[k]at this;cases this
end
section
variable {X:Cx}{pos:Pos}
def Zhg (c:TT)(tb:TS):TS:=fun D σ H=>∃ W:Nat->St->Hp->Prop,(∃ m,W m σ H)/\∀ m σ H,W m σ H ->
 c σ H fun b H1=>if b=true then ∃ N:St->Hp->Prop,(∀ σ' H',N σ' H'->∃ m',m'<m/\W m' σ' H')/\tb { D with nx:=N,ct:=N,bk:=D.nx } σ H1 else D.nx σ H1
theorem Zf6 {c:Expr}{body:List Stmt}{tc:TT}{tb:TS}(hp:PassesOwn (model X.prog X.w) X.A X.env X.xe)(hc:PT X c tc)(hb:PSs X body tb):PS X (.While c body [] pos) (Zhg tc tb):=by
 intro pins s σ H D I h;obtain⟨W,⟨m0,w0⟩,turn⟩:=h;refine wpAny_While (codeAny_whileLoop (fun n s'=>∃ σ' H',Inv X pins σ' H' s'/\W n σ' H') ?_ m0 ⟨σ,H,I,w0⟩);rintro n s1 ⟨σ1,H1,I1,w1⟩;refine wpAny_passesOwn hp (thn (hc pins s1 σ1 H1 _ I1 (turn n σ1 H1 w1)) fun b s2 ⟨H2,I2,q2⟩=>?_)
 cases b with
 |true=>
  obtain⟨N,hN,q2⟩:=q2;rw[if_pos rfl];refine wpAny_passesOwn hp (thn (hb pins s2 σ1 H2 _ I2 q2) fun f s3 q3=>?_)
  cases f with
  |next=>
   obtain⟨σ3,H3,I3,n3⟩:=q3;obtain⟨m',hm,w3⟩:=hN σ3 H3 n3;exact⟨m',hm,σ3,H3,I3,w3⟩
  |cont=>
   obtain⟨σ3,H3,I3,n3⟩:=q3;obtain⟨m',hm,w3⟩:=hN σ3 H3 n3;exact⟨m',hm,σ3,H3,I3,w3⟩
  |brk=>exact q3
  |ret v=>exact q3
 |false=>
  rw[if_neg Bool.false_ne_true];exact wpAny_execs_nil ⟨σ1,H2,I2,q2⟩
end
structure It where
 go:Nat->Hp->Prop
 yld:Nat->Hp->V->Hp->Prop
 stop:Nat->Hp->Prop
def FpOk (X:Cx)(pins:L2.AO)(H:Hp)(b:Addr):Prop:=
 H b=none/\b≠X.env.locals/\b∉X.fs/\(b∈X.ex\/X.s₀.heap.objs.size<=b)/\(∀ x c,X.env.cells.lookup x=some c->c≠b)/\∀ p∈X.pn++pins,p.1≠b
theorem Inv.fpOk {X:Cx}{pins:L2.AO}{σ:St}{H H':Hp}{s:Shared}{b:Addr}(I:Inv X pins σ H s)(hb:s.heap.objs.size<=b)(hn:H' b=none):FpOk X pins H' b:=by
 refine⟨hn,Nat.ne_of_gt (Nat.lt_of_lt_of_le I.lt hb),I.nofs hb,.inr (Nat.le_trans I.sz hb),fun x c e z=>?_,fun p hp z=>?_⟩
 ·obtain⟨v,q⟩:=I.cell x c e;exact absurd (Nat.lt_of_lt_of_le q.lt (by rw[z];exact hb)) (Nat.lt_irrefl _)
 ·exact absurd (Nat.lt_of_lt_of_le (Heap.lt_size (I.pin p hp).1) (by rw[z];exact hb)) (Nat.lt_irrefl _)
structure Turn (P:Program)(w:World)(K:L2.Fg)(tg:Expr)(J:It)(fp:List Addr)(it:Addr)(tn:Nat->Heap->Prop):Prop where
 mem:it∈fp
 obj:∀ i h,tn i h->∀ b∈fp,∃ o,h.get? b=some o/\∀ v,o.data≠.cell v
 keep:∀ i h h',tn i h->(∀ b∈fp,∀ o,h.get? b=some o->h'.get? b=some o)->tn i h'
 item:∀(X:Cx),X.prog=P->X.w=w->X.K=K->X.calm=true->∀(i:Nat)(pins:L2.AO)(s:Shared)(σ:St)(H:Hp)(E:L2.VSP),Inv X pins σ H s->(∀ b∈fp,FpOk X pins H b)->tn i s.heap->J.go i H ->
  wpAny (model P w) X.A (pyNext (.ref it)) (fun r s1=>∃ u,r=some u /\
   wpAny (model P w) X.A (letOwnedTupleGo tg (.ref it) u) (fun ψ s2=>∃ x H',Inv X pins σ H' s2/\RelV x u/\J.yld i H x H'/\tn (i+1) s2.heap/\∀ b∈fp,H' b=none) E s1) E s
 done:∀(X:Cx),X.prog=P->X.w=w->X.K=K->X.calm=true->∀(i:Nat)(pins:L2.AO)(s:Shared)(σ:St)(H:Hp)(E:L2.VSP),Inv X pins σ H s->(∀ b∈fp,FpOk X pins H b)->tn i s.heap->J.stop i H ->
  wpAny (model P w) X.A (pyNext (.ref it)) (fun r s1=>r=none/\Inv X pins σ H s1) E s
 self:∀(A:Around) (i:Nat)(s:Shared)(Q:L2.VSP)(E:L2.VSP),tn i s.heap->Q (.ref it) s->wpAny (model P w) A (pyIter (.ref it)) Q E s
abbrev TI:=St->Hp->(It->Hp->Prop)->Prop
def PIE (X:Cx)(pins:L2.AO)(σ:St)(tg:Expr)(R:It->Hp->Prop)(itv:Value)(s2:Shared):Prop:=
 ∃(it:Addr)(fp:List Addr)(tn:Nat->Heap->Prop)(J:It)(H':Hp),itv=.ref it/\Inv X pins σ H' s2/\Turn X.prog X.w X.K tg J fp it tn/\tn 0 s2.heap/\(∀ b∈fp,FpOk X pins H' b)/\R J H'
def PI (X:Cx)(tg iter:Expr)(wi:TI):Prop:=
 ∀(pins:L2.AO)(s:Shared)(σ:St)(H:Hp)(R:It->Hp->Prop),Inv X pins σ H s->wi σ H R ->
  wpAny (model X.prog X.w) X.A (eval iter X.env) (fun v s1=>wpAny (model X.prog X.w) X.A (pyIter v) (PIE X pins σ tg R) X.xe s1) X.xe s
theorem Z9y {M:Model}{A:Around}{E:L2.VSP}{s:Shared}{tg:Expr}{it:Addr}{u:Value}{o:Obj}{n:String}{vs:Array Value}{Q:Unit->Shared->Prop}(ho:s.heap.get? it=some o)(hc:o.cls=.type n)(hd:o.data=.fields vs)
  (hn:["enumerate","zip","dict_itemiterator","dict_reverseitemiterator","odict_iterator","itertools.zip_longest","itertools.pairwise"].contains n=false)(hQ:Q () s):wpAny M A (letOwnedTupleGo tg (.ref it) u) Q E s:=by
 unfold letOwnedTupleGo
 cases tg<;>first
  |exact wpAny_pure hQ
  | (cases u<;>first
    |exact wpAny_pure hQ
    | (refine wpAny_bind (wpAny_load ho ?_)
       rw[hc,hd];show wpAny M A (if (["enumerate","zip","dict_itemiterator","dict_reverseitemiterator","odict_iterator","itertools.zip_longest","itertools.pairwise"].contains n&&vs[0]?==some (rawInt _))=true then _ else _) Q E s;rw[if_neg (by intro h;rw[hn,Bool.false_and]at h;cases h)];exact wpAny_pure hQ))
def Itl (K:L2.Fg)(a:Addr):It:=
 ⟨fun i H=>∃ xs x,SqL K H a xs/\xs[i]?=some x,fun i H x H'=>H'=H/\∀ xs,SqL K H a xs->xs[i]?=some x,fun i H=>∃ xs,SqL K H a xs/\xs.length<=i⟩
def Itt (K:L2.Fg)(a:Addr):It:=
 ⟨fun i H=>∃ xs x,SqT K H a xs/\xs[i]?=some x,fun i H x H'=>H'=H/\∀ xs,SqT K H a xs->xs[i]?=some x,fun i H=>∃ xs,SqT K H a xs/\xs.length<=i⟩
def Itr (lo:Int) (n:Nat):It:=⟨fun i ψ=>i<n,fun i H x H'=>H'=H/\x=.int (lo+i),fun i ψ=>n<=i⟩
theorem Zbj {P:Program}{w:World}{K:L2.Fg}{tg:Expr}(a it:Addr):Turn P w K tg (Itl K a) [it] it (fun i h=>h.IsListIter it a i) where
 mem:=by simp
 obj:=fun i h st b hb=>by
  have e:b=it:=by simpa using hb
  subst e;obtain⟨o,e,c,d⟩:=st;exact⟨o,e,fun v z=>by rw[d]at z;cases z⟩
 keep:=fun i h h' st k=>st.at fun o e=>k it (by simp) o e
 item:=by
  intro X hP hw hK hc i pins s σ H E I hf st hg;subst hP hw hK;obtain⟨xs,x,hq,hx⟩:=hg;obtain⟨its,rv,p,hz⟩:=I.list hq;obtain⟨u,hu,ru⟩:=rv.get hx;obtain⟨f0,f1,f2,f3,f4,f5⟩:=hf it (by simp);refine wpAny_pyNext_list_item st p.isList (x:=u) (by simpa using hu) fun h' st' sb=>?_;have I1:Inv X pins σ H { s with heap:=h' }:=I.turned (t':=s.toks) (fun b o hb e=>(sb.2 b hb).trans e) f0 f1 f3 f4 f5;obtain⟨o,e,c,d⟩:=id st';exact⟨u,rfl,Z9y (s:={ s with heap:=h' }) e c d (by decide) ⟨x,H,I1,ru,⟨rfl,fun ys hy=>by rw[I.list_inj hy hq];exact hx⟩,st',fun b hb=>(hf b hb).1⟩⟩
 done:=by
  intro X hP hw hK hc i pins s σ H E I hf st hg;subst hP hw hK;obtain⟨xs,hq,hx⟩:=hg;obtain⟨its,rv,p,hz⟩:=I.list hq;obtain⟨f0,f1,f2,f3,f4,f5⟩:=hf it (by simp);have hl:=rv.length;exact wpAny_pyNext_list_end (I.ok.hd hc) st p.isList (by simp;omega) fun h' eb=>⟨rfl,I.turned (t':=s.toks) (fun b o hb e=>eb b o hb e) f0 f1 f3 f4 f5⟩
 self:=fun ψ ψ ψ ψ ψ st h=>wpAny_pyIter_listiter st h
theorem Z9z {P:Program}{w:World}{K:L2.Fg}{tg:Expr}(a it:Addr):Turn P w K tg (Itt K a) [it] it (fun i h=>h.IsTupleIter it a i) where
 mem:=by simp
 obj:=fun i h st b hb=>by
  have e:b=it:=by simpa using hb
  subst e;obtain⟨o,e,c,d⟩:=st;exact⟨o,e,fun v z=>by rw[d]at z;cases z⟩
 keep:=fun i h h' st k=>st.at fun o e=>k it (by simp) o e
 item:=by
  intro X hP hw hK hc i pins s σ H E I hf st hg;subst hP hw hK;obtain⟨xs,x,hq,hx⟩:=hg;obtain⟨its,rv,p,hz⟩:=I.tuple hq;obtain⟨u,hu,ru⟩:=rv.get hx;obtain⟨f0,f1,f2,f3,f4,f5⟩:=hf it (by simp);refine wpAny_pyNext_tuple_item st (show s.heap.IsTuple a its.toArray from p) (x:=u) (by simpa using hu) fun h' st' sb=>?_;have I1:Inv X pins σ H { s with heap:=h' }:=I.turned (t':=s.toks) (fun b o hb e=>(sb.2 b hb).trans e) f0 f1 f3 f4 f5;obtain⟨o,e,c,d⟩:=id st';exact⟨u,rfl,Z9y (s:={ s with heap:=h' }) e c d (by decide) ⟨x,H,I1,ru,⟨rfl,fun ys hy=>by rw[I.tuple_inj hy hq];exact hx⟩,st',fun b hb=>(hf b hb).1⟩⟩
 done:=by
  intro X hP hw hK hc i pins s σ H E I hf st hg;subst hP hw hK;obtain⟨xs,hq,hx⟩:=hg;obtain⟨its,rv,p,hz⟩:=I.tuple hq;obtain⟨f0,f1,f2,f3,f4,f5⟩:=hf it (by simp);have hl:=rv.length;exact wpAny_pyNext_tuple_end (I.ok.hd hc) st (show s.heap.IsTuple a its.toArray from p) (by simp;omega) fun h' eb=>⟨rfl,I.turned (t':=s.toks) (fun b o hb e=>eb b o hb e) f0 f1 f3 f4 f5⟩
 self:=fun ψ ψ ψ ψ ψ st h=>wpAny_pyIter_tupleiter st h
theorem Za0 {P:Program}{w:World}{K:L2.Fg}{tg:Expr}(it:Addr) (lo:Int) (n:Nat):Turn P w K tg (Itr lo n) [it] it (fun i h=>IsRangeIter h it (lo+(i:Nat)*1) ((n:Int)-(i:Nat)) 1) where
 mem:=by simp
 obj:=fun i h st b hb=>by
  have e:b=it:=by simpa using hb
  subst e;exact⟨_,st,fun v z=>by
   have z':Data.fields _=Data.cell v:=z
   cases z'⟩
 keep:=fun i h h' st k=>k it (by simp) _ st
 item:=by
  intro X hP hw hK hc i pins s σ H E I hf st hg;subst hP hw hK;obtain⟨f0,f1,f2,f3,f4,f5⟩:=hf it (by simp);have W:=Walks.range (prog:=X.prog) (w:=X.w) (I.ok.hd hc) it lo 1 n;refine W.item i s _ _ hg st fun v h' tk hv st' kk=>?_;obtain⟨t,rfl⟩:=hv;have I1:Inv X pins σ H { s with heap:=h',toks:=tk }:=I.turned (fun b o hb e=>kk b o (by simpa using hb) e) f0 f1 f3 f4 f5;refine⟨_,rfl,Z9y (s:={ s with heap:=h',toks:=tk }) (n := "range_iterator") st' rfl rfl (by decide) ⟨.int (lo+i),H,I1,⟨t,?_⟩,⟨rfl,rfl⟩,st',fun b hb=>(hf b hb).1⟩⟩;rw[Int.mul_one]
 done:=by
  intro X hP hw hK hc i pins s σ H E I hf st hg;subst hP hw hK;obtain⟨f0,f1,f2,f3,f4,f5⟩:=hf it (by simp);exact wpAny_pyNext_range_end (I.ok.hd hc) st (by have:n<=i:=hg;omega) fun h' eb=>⟨rfl,I.turned (t':=s.toks) (fun b o hb e=>eb b o hb e) f0 f1 f3 f4 f5⟩
 self:=fun ψ ψ ψ ψ ψ st h=>wpAny_pyIter_rangeiter st h
section
variable {X:Cx}{tg:Expr}
theorem Z8p {pins:L2.AO}{σ:St}{H:Hp}{s:Shared}{R:It->Hp->Prop}{E:L2.VSP}{lo hi:Int}{t u v:Tok}{tk:Nat}(I:Inv X pins σ H s)(h1: -(2 ^ 62)<=lo)(h2:lo<2 ^ 62)(h3: -(2 ^ 62)<=hi)(h4:hi<2 ^ 62)
  (q:R (Itr lo (hi-lo).toNat) H):wpAny (model X.prog X.w) X.A (pyIter (.ref s.heap.objs.size)) (PIE X pins σ tg R) E { s with heap:=s.heap.push { cls:=.type "range",data:=.fields #[.int lo t,.int hi u,.int 1 v] },toks:=tk }:=by
 refine wpAny_pyIter_range (IsRange.new ..) (small_one h1 h2 h3 h4) ?_;have I1:Inv X pins σ H { s with heap:=s.heap.push { cls:=.type "range",data:=.fields #[.int lo t,.int hi u,.int 1 v] },toks:=tk }:=I.kept fun b o e=>Heap.get?_push_of_some _ e;refine⟨(s.heap.push { cls:=.type "range",data:=.fields #[.int lo t,.int hi u,.int 1 v] }).objs.size,[(s.heap.push { cls:=.type "range",data:=.fields #[.int lo t,.int hi u,.int 1 v] }).objs.size],_,_,H,rfl,
  I1.kept (t':=tk) fun b o e=>Heap.get?_push_of_some _ e,Za0 _ lo (hi-lo).toNat,?_,fun b hb => ?_,q⟩
 ·have e1:lo+((0:Nat):Int)*1=lo:=by simp
  have e2:(((hi-lo).toNat:Nat):Int)-((0:Nat):Int)=Builtin.Range.rangeSize lo hi 1:=by rw[rangeSize_one];split<;>omega
  show IsRangeIter _ _ (lo+((0:Nat):Int)*1) ((((hi-lo).toNat:Nat):Int)-((0:Nat):Int)) 1;rw[e1,e2];exact Heap.get?_push_size _ rfl
 ·have e:b=(s.heap.push { cls:=.type "range",data:=.fields #[.int lo t,.int hi u,.int 1 v] }).objs.size:=by simpa using hb
  subst e;exact I1.fpOk (Nat.le_refl _) (I1.hok.fresh (Nat.le_refl _))
def Zn2 (ta:TA):TI:=fun σ H R=>ta σ H fun vs H1=>∃ j:Int,vs=[.int j] /\ -(2 ^ 62)<=j/\j<2 ^ 62/\R (Itr 0 j.toNat) H1
def Zn3 (ta:TA):TI:=fun σ H R=>ta σ H fun vs H1=>∃ i j:Int,vs=[.int i,.int j]/\(-(2 ^ 62)<=i/\i<2 ^ 62 /\ -(2 ^ 62)<=j/\j<2 ^ 62)/\R (Itr i (j-i).toNat) H1
theorem Zbk {a:Expr}{ta:TA}{p pos:Pos}(hg:Gl X "range")(hm:X.mg "range" = none)(ha:PA X [a] ta)(hs:starEach [a] X.env=[(false,eval a X.env)]:=by rfl):PI X tg (.Call (.Name "range" p) [a] [] pos) (Zn2 ta):=by
 intro pins s σ H R I h;refine Call_ (Z4y I hg hm boot_range (PyProof.Rows.callWith_type1 (thn (ha pos pins s σ H _ I h) fun us s1 ⟨vs,H1,I1,r1,q1⟩=>?_) hs rfl));obtain⟨j,e,q1,q2,q⟩:=q1;subst e
 cases r1 with
 |cons r rr=>
  cases rr;obtain⟨t,rfl⟩:=r;exact call_range_1 (Z8p I1 (by omega) (by omega) q1 q2 (by simpa using q))
theorem Zbl {a b:Expr}{ta:TA}{p pos:Pos}(hg:Gl X "range")(hm:X.mg "range" = none)(ha:PA X [a,b] ta)(hs:starEach [a,b] X.env=[(false,eval a X.env),(false,eval b X.env)]:=by rfl)(hs2:starEach [b] X.env=[(false,eval b X.env)]:=by rfl) :
  PI X tg (.Call (.Name "range" p) [a,b] [] pos) (Zn3 ta):=by
 intro pins s σ H R I h;refine Call_ (Z4y I hg hm boot_range (PyProof.Rows.callWith_type1 (thn (ha pos pins s σ H _ I h) fun us s1 ⟨vs,H1,I1,r1,q1⟩=>?_) (by rw[hs,hs2]) (by rw[hs2];rfl)));obtain⟨i,j,e,⟨q1,q2,q3,q4⟩,q⟩:=q1;subst e
 cases r1 with
 |cons r rr=>
  cases rr with
  |cons r' rr=>
   cases rr;obtain⟨t,rfl⟩:=r;obtain⟨t',rfl⟩:=r';exact call_range_2 (Z8p I1 q1 q2 q3 q4 q)
def tFor (wi:TI)(g:TG)(tb:TS):TS:=fun D σ H=>wi σ H fun J H1=>∃ W:Nat->Nat->St->Hp->Prop,(∃ m,W 0 m σ H1)/\∀ i m σ H,W i m σ H ->
 (J.stop i H/\D.nx σ H)\/(J.go i H/\∃ N:St->Hp->Prop,(∀ σ' H',N σ' H'->∃ m',m'<m/\W (i+1) m' σ' H')/\∀ x H',J.yld i H x H'->g x σ H' fun σ2 H2=>tb { D with nx:=N,ct:=N,bk:=D.nx } σ2 H2)
def Z67 (fp:List Addr)(h:Heap):List (Addr×Obj):=fp.filterMap fun b=>(h.get? b).map fun o=>(b,o)
theorem Z2b {fp:List Addr}{h:Heap}{b:Addr}{o:Obj}(hb:b∈fp)(e:h.get? b=some o):(b,o)∈Z67 fp h:=List.mem_filterMap.mpr ⟨b,hb,by rw[e];rfl⟩
theorem Zbm {fp:List Addr}{h:Heap}{p:Addr×Obj}(hp:p∈Z67 fp h):p.1∈fp/\h.get? p.1=some p.2:=by
 obtain⟨b,hb,e⟩:=List.mem_filterMap.mp hp
 cases q:h.get? b with
 |none=>rw[q]at e;cases e
 |some o=>
  rw[q]at e;have e':(b,o)=p:=Option.some.inj e;subst e';exact⟨hb,q⟩
theorem Inv.pinned {pins:L2.AO}{σ:St}{H:Hp}{s:Shared}{fp:List Addr}(I:Inv X pins σ H s)(hf:∀ b∈fp,FpOk X pins H b)(ho:∀ b∈fp,∃ o,s.heap.get? b=some o/\∀ v,o.data≠.cell v):Inv X (pins++Z67 fp s.heap) σ H s:=
 I.pins_of fun p hp=>(List.mem_append.mp hp).elim (fun z=>I.pin p (List.mem_append_right _ z)) fun z=>by
  obtain⟨hb,e⟩:=Zbm z;obtain⟨f0,f1,f2,_⟩:=hf p.1 hb;obtain⟨o,e',d⟩:=ho p.1 hb;rw[e]at e';cases e';exact⟨e,f0,f1,f2,d⟩
theorem Inv.unpinned {pins pl:L2.AO}{σ:St}{H:Hp}{s:Shared}(I:Inv X (pins++pl) σ H s):Inv X pins σ H s:=I.pins_of fun p hp=>I.pin p (List.mem_append_right _ (List.mem_append_left _ hp))
theorem Zn4 {iter:Expr}{body:List Stmt}{wi:TI}{g:TG}{tb:TS}{pos:Pos}(hp:PassesOwn (model X.prog X.w) X.A X.env X.xe)(hc:X.calm=true)(hi:PI X tg iter wi)(hg:PG X tg g)(hb:PSs X body tb)
  (hs:∀ x,foldedSetIterable iter X.env x=pure x:=by intro ψ;rfl):PS X (.For tg iter body [] pos) (tFor wi g tb):=by
 intro pins s σ H D I h;refine wpAny_For (thn (hi pins s σ H _ I h) fun v s1 h1=>thn h1 fun itv s2 h2=>?_) hs;obtain⟨it,fp,tn,J,H2,e,I2,T,st2,f2,W,⟨m0,w0⟩,turn⟩:=h2;subst e;have stat:∀{H':Hp},(∀ b∈fp,H' b=none)->∀ b∈fp,FpOk X pins H' b:=fun hn b hb=>⟨hn b hb,(f2 b hb).2⟩
 refine codeAny_forLoop_any (fun n s'=>∃ i σ' H',Inv X pins σ' H' s'/\tn i s'.heap/\(∀ b∈fp,H' b=none)/\W i n σ' H') ?_ m0 ⟨0,σ,H2,I2,st2,fun b hb=>(f2 b hb).1,w0⟩;rintro n s3 ⟨i,σ3,H3,I3,st3,fr3,w3⟩;rcases turn i n σ3 H3 w3 with ⟨stop,qn⟩|⟨go,N,hN,step⟩
 ·refine wpAny_passesOwn hp (thn (T.done X rfl rfl rfl hc i pins s3 σ3 H3 X.xe I3 (stat fr3) st3 stop) fun r s4 ⟨hr,I4⟩=>?_);subst hr;exact wpAny_execs_nil ⟨σ3,H3,I4,qn⟩
 ·refine wpAny_passesOwn hp (thn (T.item X rfl rfl rfl hc i pins s3 σ3 H3 X.xe I3 (stat fr3) st3 go) fun r s4 ⟨u,hr,h4⟩=>?_);subst hr;refine wpAny_passesOwn hp (thn h4 fun _ s5 ⟨x,H5,I5,r5,y5,st5,fr5⟩=>?_);have I5':=I5.pinned (stat fr5) (T.obj _ _ st5);refine wpAny_passesOwn hp (thn (hg _ s5 σ3 H5 x u _ I5' r5 (step x H5 y5)) fun _ s6 ⟨σ6,H6,I6,q6⟩=>?_);refine wpAny_passesOwn hp (thn (hb _ s6 σ6 H6 _ I6 q6) fun f s7 q7=>?_);have again:∀{σ7:St}{H7:Hp},Inv X (pins++Z67 fp s5.heap) σ7 H7 s7->N σ7 H7->∃ m,m<n/\∃ i σ' H',Inv X pins σ' H' s7/\tn i s7.heap/\(∀ b∈fp,H' b=none)/\W i m σ' H':=fun{σ7 H7} I7 n7=>by
   obtain⟨m',hm,w7⟩:=hN σ7 H7 n7;refine⟨m',hm,i+1,σ7,H7,I7.unpinned,T.keep _ _ _ st5 fun b hb o e=>(I7.pin (b,o) (List.mem_append_right _ (List.mem_append_right _ (Z2b hb e)))).1,fun b hb=>?_,w7⟩;obtain⟨o,e,d⟩:=T.obj _ _ st5 b hb;exact(I7.pin (b,o) (List.mem_append_right _ (List.mem_append_right _ (Z2b hb e)))).2.1
  cases f with
  |next=>obtain⟨σ7,H7,I7,n7⟩:=q7;exact again I7 n7
  |cont=>obtain⟨σ7,H7,I7,n7⟩:=q7;exact again I7 n7
  |brk=>obtain⟨σ7,H7,I7,q7⟩:=q7;exact⟨σ7,H7,I7.unpinned,q7⟩
  |ret v=>obtain⟨x7,σ7,H7,I7,r7,q7⟩:=q7;exact⟨x7,σ7,H7,I7.unpinned,r7,q7⟩
end
abbrev R2:=V->V->Hp->VK->Prop
def OpR (X:Cx)(f:Value->Value->Sem Value)(r:R2):Prop:=
 ∀(pins:L2.AO)(s:Shared)(σ:St)(H:Hp)(x y:V)(v u:Value)(Q:VK),Inv X pins σ H s->RelV x v->RelV y u->r x y H Q ->
  wpAny (model X.prog X.w) X.A (f v u) (EP X pins σ Q) X.xe s
def UnR (X:Cx)(f:Value->Sem Value)(r:V->Hp->VK->Prop):Prop:=
 ∀(pins:L2.AO)(s:Shared)(σ:St)(H:Hp)(x:V)(v:Value)(Q:VK),Inv X pins σ H s->RelV x v->r x H Q ->
  wpAny (model X.prog X.w) X.A (f v) (EP X pins σ Q) X.xe s
def Z10 (X:Cx)(f:Value)(r:List V->Hp->VK->Prop):Prop:=
 ∀(pins:L2.AO)(s:Shared)(σ:St)(H:Hp)(xs:List V)(us:List Value)(Q:VK),Inv X pins σ H s->Vals xs us->r xs H Q ->
  wpAny (model X.prog X.w) X.A (call f us) (EP X pins σ Q) X.xe s
def tOp (r:R2)(ta tb:TE):TE:=fun σ H Q=>ta σ H fun x H1=>tb σ H1 fun y H2=>r x y H2 Q
def tUn (r:V->Hp->VK->Prop)(ta:TE):TE:=fun σ H Q=>ta σ H fun x H1=>r x H1 Q
def rI (C:Int->Int->Prop)(g:Int->Int->V):R2:=fun x y H Q=>∃ i j,x=.int i/\y=.int j/\C i j/\Q (g i j) H
def rI0 (g:Int->Int->V):R2:=fun x y H Q=>∃ i j,x=.int i/\y=.int j/\Q (g i j) H
def rU (g:Int->V):V->Hp->VK->Prop:=fun x H Q=>∃ i,x=.int i/\Q (g i) H
section
variable {X:Cx}{a b:Expr}{ta tb:TE}{pos:Pos}
theorem binT (ha:PE X a ta)(hb:PE X b tb){pins:L2.AO}{s:Shared}{σ:St}{H:Hp}{R:V->V->Hp->Prop}(I:Inv X pins σ H s)
  (h:ta σ H fun x H1=>tb σ H1 fun y H2=>R x y H2){Q:L2.VSP}{f:Value->Value->Sem Value}
  (hf:∀ v u s2 x y H2,Inv X pins σ H2 s2->RelV x v->RelV y u->R x y H2->wpAny (model X.prog X.w) X.A (f v u) Q X.xe s2) :
  wpAny (model X.prog X.w) X.A (eval a X.env) (fun v s₁=>wpAny (model X.prog X.w) X.A (eval b X.env) (fun u s₂=>wpAny (model X.prog X.w) X.A (f v u) Q X.xe s₂) X.xe s₁) X.xe s:=by
 refine thn (ha pins s σ H _ I h) fun v s1 ⟨x,H1,I1,r1,q1⟩=>?_;refine thn (hb pins s1 σ H1 _ I1 q1) fun u s2 ⟨y,H2,I2,r2,q2⟩=>?_;exact hf v u s2 x y H2 I2 r1 r2 q2
theorem Zs2 {op:Operator}{r:R2}(ho:OpR X (binaryOp op) r)(ha:PE X a ta)(hb:PE X b tb):PE X (.BinOp a op b pos) (tOp r ta tb):=by
 intro pins s σ H Q I h;exact wpAny_BinOp (binT ha hb I h fun v u s2 x y H2 I2 rx ry q=>ho pins s2 σ H2 x y v u Q I2 rx ry q)
theorem Zs3 {op:UnaryOp}{r:V->Hp->VK->Prop}(ho:UnR X (unaryOp op) r)(ha:PE X a ta):PE X (.UnaryOp op a pos) (tUn r ta):=by
 intro pins s σ H Q I h;exact UnaryOp_ (thn (ha pins s σ H _ I h) fun v s1 ⟨x,H1,I1,r1,q1⟩=>ho pins s1 σ H1 x v Q I1 r1 q1)
theorem opI {f:Value->Value->Sem Value}{C:Int->Int->Prop}{g:Int->Int->Int}
  (rule:∀(i j:Int)(t u:Tok)(s:Shared)(Q:L2.VSP)(E:L2.VSP),C i j->Q (.int (g i j) s.toks) { s with toks:=s.toks+1 }->wpAny (model X.prog X.w) X.A (f (.int i t) (.int j u)) Q E s) :
  OpR X f (rI C fun i j=>.int (g i j)):=by
 intro pins s σ H x y v u Q I rx ry h;obtain⟨i,j,rfl,rfl,hc,q⟩:=h;obtain⟨t,rfl⟩:=rx;obtain⟨t',rfl⟩:=ry;exact rule i j t t' s _ _ hc ⟨.int (g i j),H,I.tok _,⟨_,rfl⟩,q⟩
theorem opI0 {f:Value->Value->Sem Value}{g:Int->Int->Int}
  (rule:∀(i j:Int)(t u:Tok)(s:Shared)(Q:L2.VSP)(E:L2.VSP),Q (.int (g i j) s.toks) { s with toks:=s.toks+1 }->wpAny (model X.prog X.w) X.A (f (.int i t) (.int j u)) Q E s) :
  OpR X f (rI0 fun i j=>.int (g i j)):=by
 intro pins s σ H x y v u Q I rx ry h;obtain⟨i,j,rfl,rfl,q⟩:=h;obtain⟨t,rfl⟩:=rx;obtain⟨t',rfl⟩:=ry;exact rule i j t t' s _ _ ⟨.int (g i j),H,I.tok _,⟨_,rfl⟩,q⟩
theorem opB0 {f:Value->Value->Sem Value}{g:Int->Int->Bool}
  (rule:∀(i j:Int)(t u:Tok)(s:Shared)(Q:L2.VSP)(E:L2.VSP),Q (.bool (g i j)) s->wpAny (model X.prog X.w) X.A (f (.int i t) (.int j u)) Q E s) :
  OpR X f (rI0 fun i j=>.bl (g i j)):=by
 intro pins s σ H x y v u Q I rx ry h;obtain⟨i,j,rfl,rfl,q⟩:=h;obtain⟨t,rfl⟩:=rx;obtain⟨t',rfl⟩:=ry;exact rule i j t t' s _ _ ⟨.bl (g i j),H,I,rfl,q⟩
def CPow (i j:Int):Prop:=0<=j/\j<=1000000/\i.natAbs<2 ^ 64
def CMul (i j:Int):Prop:=(-(2 ^ 64)<i/\i<2 ^ 64)\/(-(2 ^ 64)<j/\j<2 ^ 64)
theorem CMul.ok {i j:Int}(h:CMul i j):IntMulOk i j:=by
 rcases h with ⟨h1,h2⟩|⟨h1,h2⟩
 ·exact .of_left (intBits_le_64 h1 h2)
 ·exact .of_right (intBits_le_64 h1 h2)
theorem Za1 (k:Nat):(0:Int)<=2 ^ k:=by
 rw[two_pow_cast];exact Int.natCast_nonneg _
theorem Zn5:OpR X (binaryOp .Add) (rI0 fun i j=>.int (i+j)):=opI0 fun ψ ψ ψ ψ ψ ψ ψ q=>add_int q
theorem Zn6:OpR X (binaryOp .Sub) (rI0 fun i j=>.int (i-j)):=opI0 fun ψ ψ ψ ψ ψ ψ ψ q=>sub_int q
theorem Zn7:OpR X (binaryOp .Mod) (rI (fun ψ j=>0<j) fun i j=>.int (i%j)):=opI fun i j ψ ψ ψ ψ ψ hc q=>by
 have h1:(0:Int)<j:=hc;exact mod_int' (by omega) (by rw[Int.fmod_eq_emod_of_nonneg i (by omega)];exact q)
theorem Zn8:OpR X (binaryOp .Pow) (rI CPow fun i j=>.int (i ^ j.toNat)):=opI fun ψ ψ ψ ψ ψ ψ ψ hc q=>pow_int_small hc.1 hc.2.1 hc.2.2 q
theorem Zjd:OpR X (inplaceOp .Add) (rI0 fun i j=>.int (i+j)):=opI0 fun ψ ψ ψ ψ ψ ψ ψ q=>iadd_int q
theorem unI {f:Value->Sem Value}{g:Int->Int}
  (rule:∀(i:Int)(t:Tok)(s:Shared)(Q:L2.VSP)(E:L2.VSP),Q (.int (g i) s.toks) { s with toks:=s.toks+1 }->wpAny (model X.prog X.w) X.A (f (.int i t)) Q E s) :
  UnR X f (rU fun i=>.int (g i)):=by
 intro pins s σ H x v Q I rx h;obtain⟨i,rfl,q⟩:=h;obtain⟨t,rfl⟩:=rx;exact rule i t s _ _ ⟨.int (g i),H,I.tok _,⟨_,rfl⟩,q⟩
theorem Zn9:UnR X (unaryOp .USub) (rU fun i=>.int (-i)):=unI fun ψ ψ ψ ψ ψ q=>neg_int q
end
def scal:V->V->Bool
 |.non,.non=>true|.non,.int _=>true|.int _,.non=>true|.non,.bl _=>true|.bl _,.non=>true|.non,.str _=>true|.str _,.non=>true
 |.int _,.int _=>true|.bl _,.bl _=>true|.str _,.str _=>true|.byt _,.byt _=>true
 |.int _,.str _=>true|.str _,.int _=>true|.bl _,.str _=>true|.str _,.bl _=>true
 |_,_=>false
def rEq:R2:=fun x y H Q=>scal x y=true/\Q (.bl (decide (x=y))) H
def rNe:R2:=fun x y H Q=>scal x y=true/\Q (.bl (!decide (x=y))) H
theorem Zbn {i j:Int}:decide (V.int i=V.int j)=(i==j):=by
 rw[Bool.eq_iff_iff];simp
theorem Zhh {i j:Bool}:decide (V.bl i=V.bl j)=(i==j):=by
 rw[Bool.eq_iff_iff];simp
theorem Zbo {i j:Str}:decide (V.str i=V.str j)=(i==j):=by
 rw[Bool.eq_iff_iff];simp
theorem Zbp {i j:Array UInt8}:decide (V.byt i=V.byt j)=(i.toList==j.toList):=by
 rw[Bool.eq_iff_iff]
 cases i
 cases j;simp
section
variable {X:Cx}{a b c:Expr}{ta tb:TE}{pos:Pos}
theorem Z0o {pins:L2.AO}{σ:St}{H:Hp}{s:Shared}{Q:VK}{k k':Bool}(I:Inv X pins σ H s)(q:Q (.bl k) H)(e:k=k'):EP X pins σ Q (.bool k') s:=by
 subst e;exact⟨.bl k,H,I,rfl,q⟩
theorem Zs4:OpR X (compareOp .Eq) rEq:=by
 intro pins s σ H x y v u Q I rx ry h;obtain⟨hs,q⟩:=h
 cases x with
 |non=>
  cases rx
  cases y with
  |non=>cases ry;exact PySem.EqNone.eq_none_none (Z0o I q (by simp))
  |bl j=>cases ry;exact PySem.EqNone.eq_none_bool (Z0o I q (by simp))
  |int j=>obtain⟨t',rfl⟩:=ry;exact PySem.EqNone.eq_none_int (Z0o I q (by simp))
  |str j=>obtain⟨t',rfl⟩:=ry;exact PySem.EqNone.eq_none_str (Z0o I q (by simp))
  |_=>exact absurd (show false=true from hs) Bool.false_ne_true
 |bl i=>
  cases rx
  cases y with
  |non=>cases ry;exact PySem.EqNone.eq_bool_none (Z0o I q (by simp))
  |bl j=>cases ry;exact eq_bool (Z0o I q Zhh)
  |str j=>obtain⟨t',rfl⟩:=ry;exact PySem.EqMixed.eq_bool_str (Z0o I q (by simp))
  |_=>exact absurd (show false=true from hs) Bool.false_ne_true
 |int i=>
  obtain⟨t,rfl⟩:=rx
  cases y with
  |non=>cases ry;exact PySem.EqNone.eq_int_none (Z0o I q (by simp))
  |int j=>obtain⟨t',rfl⟩:=ry;exact eq_int (Z0o I q Zbn)
  |str j=>obtain⟨t',rfl⟩:=ry;exact PySem.EqMixed.eq_int_str (Z0o I q (by simp))
  |_=>exact absurd (show false=true from hs) Bool.false_ne_true
 |str i=>
  obtain⟨t,rfl⟩:=rx
  cases y with
  |non=>cases ry;exact PySem.EqNone.eq_str_none (Z0o I q (by simp))
  |bl j=>cases ry;exact PySem.EqMixed.eq_str_bool (Z0o I q (by simp))
  |int j=>obtain⟨t',rfl⟩:=ry;exact PySem.EqMixed.eq_str_int (Z0o I q (by simp))
  |str j=>obtain⟨t',rfl⟩:=ry;exact eq_str (Z0o I q Zbo)
  |_=>exact absurd (show false=true from hs) Bool.false_ne_true
 |byt i=>
  obtain⟨t,rfl⟩:=rx
  cases y with
  |byt j=>obtain⟨t',rfl⟩:=ry;exact PySem.W.eq_bytes (Z0o I q Zbp)
  |_=>exact absurd (show false=true from hs) Bool.false_ne_true
 |_=>cases y<;>exact absurd (show false=true from hs) Bool.false_ne_true
theorem Zs5:OpR X (compareOp .NotEq) rNe:=by
 intro pins s σ H x y v u Q I rx ry h;obtain⟨hs,q⟩:=h
 cases x with
 |non=>
  cases rx
  cases y with
  |non=>cases ry;exact PySem.EqNone.ne_none_none (Z0o I q (by simp))
  |bl j=>cases ry;exact PySem.EqNone.ne_none_bool (Z0o I q (by simp))
  |int j=>obtain⟨t',rfl⟩:=ry;exact PySem.EqNone.ne_none_int (Z0o I q (by simp))
  |str j=>obtain⟨t',rfl⟩:=ry;exact PySem.EqNone.ne_none_str (Z0o I q (by simp))
  |_=>exact absurd (show false=true from hs) Bool.false_ne_true
 |bl i=>
  cases rx
  cases y with
  |non=>cases ry;exact PySem.EqNone.ne_bool_none (Z0o I q (by simp))
  |bl j=>cases ry;exact ne_bool (Z0o I q (congrArg not Zhh))
  |str j=>obtain⟨t',rfl⟩:=ry;exact PySem.EqMixed.ne_bool_str (Z0o I q (by simp))
  |_=>exact absurd (show false=true from hs) Bool.false_ne_true
 |int i=>
  obtain⟨t,rfl⟩:=rx
  cases y with
  |non=>cases ry;exact PySem.EqNone.ne_int_none (Z0o I q (by simp))
  |int j=>obtain⟨t',rfl⟩:=ry;exact ne_int (Z0o I q (congrArg not Zbn))
  |str j=>obtain⟨t',rfl⟩:=ry;exact PySem.EqMixed.ne_int_str (Z0o I q (by simp))
  |_=>exact absurd (show false=true from hs) Bool.false_ne_true
 |str i=>
  obtain⟨t,rfl⟩:=rx
  cases y with
  |non=>cases ry;exact PySem.EqNone.ne_str_none (Z0o I q (by simp))
  |bl j=>cases ry;exact PySem.EqMixed.ne_str_bool (Z0o I q (by simp))
  |int j=>obtain⟨t',rfl⟩:=ry;exact PySem.EqMixed.ne_str_int (Z0o I q (by simp))
  |str j=>obtain⟨t',rfl⟩:=ry;exact ne_str (Z0o I q (congrArg not Zbo))
  |_=>exact absurd (show false=true from hs) Bool.false_ne_true
 |byt i=>
  obtain⟨t,rfl⟩:=rx
  cases y with
  |byt j=>obtain⟨t',rfl⟩:=ry;exact PySem.W.ne_bytes (Z0o I q (congrArg not Zbp))
  |_=>exact absurd (show false=true from hs) Bool.false_ne_true
 |_=>cases y<;>exact absurd (show false=true from hs) Bool.false_ne_true
theorem Zs6:OpR X (compareOp .Lt) (rI0 fun i j=>.bl (decide (i<j))):=opB0 fun ψ ψ ψ ψ ψ ψ ψ q=>lt_int q
theorem Zs7:OpR X (compareOp .LtE) (rI0 fun i j=>.bl (decide (i<=j))):=opB0 fun ψ ψ ψ ψ ψ ψ ψ q=>le_int q
theorem Zna:OpR X (compareOp .Gt) (rI0 fun i j=>.bl (decide (j<i))):=opB0 fun ψ ψ ψ ψ ψ ψ ψ q=>gt_int q
theorem Zs8:OpR X (compareOp .GtE) (rI0 fun i j=>.bl (decide (j<=i))):=opB0 fun ψ ψ ψ ψ ψ ψ ψ q=>ge_int q
theorem Zje:OpR X (compareOp .IsNot) (fun x y H Q=>y=.non/\Q (.bl (!decide (x=.non))) H):=by
 intro pins s σ H x y v u Q I rx ry h;obtain⟨rfl,q⟩:=h
 cases ry;refine isnot_none_gen (Z0o I q ?_)
 cases x<;>first
  |(cases rx;rfl)
  |(obtain⟨t,rfl⟩:=rx;rfl)
theorem OpR.or {f:Value->Value->Sem Value}{r r':R2}(h:OpR X f r)(h':OpR X f r'):OpR X f (fun x y H Q=>r x y H Q\/r' x y H Q):=by
 intro pins s σ H x y v u Q I rx ry q;rcases q with q|q
 ·exact h pins s σ H x y v u Q I rx ry q
 ·exact h' pins s σ H x y v u Q I rx ry q
theorem Z24 (b:Expr){op:CmpOp}(h:op≠.In:=by decide)(h2:op≠.NotIn:=by decide):behindInMarks op b=false:=by
 have e1:(op==CmpOp.In)=false:=by cases op<;>first|rfl|exact absurd rfl h
 have e2:(op==CmpOp.NotIn)=false:=by cases op<;>first|rfl|exact absurd rfl h2
 cases b<;>simp[behindInMarks,e1,e2]
theorem Zjf {op:CmpOp}{r:R2}(ho:OpR X (compareOp op) r)(ha:PE X a ta)(hb:PE X b tb)(hm:behindInMarks op b=false):PE X (.Compare a [op] [b] pos) (tOp r ta tb):=by
 intro pins s σ H Q I h;exact wpAny_Compare1 (binT ha hb I h fun v u s2 x y H2 I2 rx ry q=>ho pins s2 σ H2 x y v u Q I2 rx ry q) hm
def Znb (t:TE):TT:=fun σ H Q=>t σ H fun x H'=>∃ k,x=.bl k/\Q k H'
theorem Zjg {op:CmpOp}{r:R2}(ho:OpR X (compareOp op) r)(ha:PE X a ta)(hb:PE X b tb)(hm:behindInMarks op b=false):PT X (.Compare a [op] [b] pos) (Znb (tOp r ta tb)):=by
 intro pins s σ H Q I h;refine wpAny_isTrue_Compare1 (thn (ha pins s σ H _ I h) fun v s1 ⟨x,H1,I1,r1,q1⟩=>thn (hb pins s1 σ H1 _ I1 q1) fun u s2 ⟨y,H2,I2,r2,q2⟩ =>
  thn (ho pins s2 σ H2 x y v u _ I2 r1 r2 q2) fun c s3 ⟨z,H3,I3,r3,k,e,q3⟩ => ?_) hm
 subst e
 cases r3;exact wpAny_truthy_bool ⟨H3,I3,q3⟩
theorem Z8q:(sizeLine:Nat)<2 ^ 63:=by rw[sizeLine_eq];decide
theorem Z2o {x:V}{us:List Value}(r:Vals [x] us):∃ u,us=[u]/\RelV x u:=by
 cases r with
 |cons r1 r2=>cases r2;exact⟨_,rfl,r1⟩
theorem Znc {x y:V}{us:List Value}(r:Vals [x,y] us):∃ u w',us=[u,w']/\RelV x u/\RelV y w':=by
 cases r with
 |cons r1 r2=>
  cases r2 with
  |cons r3 r4=>cases r4;exact⟨_,_,rfl,r1,r3⟩
theorem Zf7:Z10 X (.builtin "abs") (fun xs H Q=>∃ i,xs=[.int i]/\Q (.int (if i<0 then -i else i)) H):=by
 intro pins s σ H xs us Q I r h;obtain⟨i,rfl,q⟩:=h;obtain⟨u,rfl,t,rfl⟩:=Z2o r;exact call_abs_int fun u tk=>⟨.int (if i<0 then -i else i),H,I.tok _,⟨_,rfl⟩,q⟩
theorem Zbq (hc:X.calm=true):Z10 X (.builtin "max") (fun xs H Q=>∃ i j,xs=[.int i,.int j]/\Q (.int (if j > i then j else i)) H):=by
 intro pins s σ H xs us Q I r h;obtain⟨i,j,rfl,q⟩:=h;obtain⟨u,w',rfl,⟨t,rfl⟩,⟨t',rfl⟩⟩:=Znc r;refine max_two_ints (I.ok.hd hc) fun h' tk k=>⟨_,H,I.kept k,?_,q⟩
 by_cases hj:j > i
 ·rw[if_pos hj,if_pos hj];exact⟨_,rfl⟩
 ·rw[if_neg hj,if_neg hj];exact⟨_,rfl⟩
theorem Zbr:Z10 X (.type "int") (fun xs H Q=>(∃ i,xs=[.int i]/\Q (.int i) H)\/∃ k,xs=[.bl k]/\Q (.int (if k then 1 else 0)) H):=by
 intro pins s σ H xs us Q I r h;rcases h with ⟨i,rfl,q⟩|⟨k,rfl,q⟩
 ·obtain⟨u,rfl,t,rfl⟩:=Z2o r;exact call_int_int ⟨.int i,H,I,⟨_,rfl⟩,q⟩
 ·obtain⟨u,rfl,r1⟩:=Z2o r
  cases r1;exact call_int_bool ⟨.int (if k then 1 else 0),H,I.tok _,⟨_,rfl⟩,q⟩
end
theorem RelO.some_of {v:V}{o:Option Value}(r:RelO (some v) o):∃ u,o=some u/\RelV v u:=by
 cases o with
 |none=>exact(show False from r).elim
 |some u=>exact⟨u,rfl,r⟩
structure Cls (K:L2.Fg)(C:Addr):Prop where
 pg:PySem.W.plainGet K C Str.empty=true
 hd:PySem.W.hasDictIn K C=true
 po:PySem.W.plainOver K C=true
 sa:PySem.W.findIn K (.ref C) "__setattr__" = some (some (.builtin "object.__setattr__"))
theorem Cls.get {K:L2.Fg}{C:Addr}(c:Cls K C)(f:Str):PySem.W.plainGet K C f=true:=c.pg
structure Room (k:Nat)(A:Around):Prop where
 hd:A.handled=none
 dp:A.depth+3*k+5<recursionLimit
 un:A.units+16*k+200<cLine
theorem Room.mono {j k:Nat}{A:Around}(r:Room k A)(h:j<=k):Room j A:=⟨r.hd,by have:=r.dp;omega,by have:=r.un;omega⟩
theorem Room.deeper {k:Nat}{A:Around}(r:Room (k+1) A)(env:Env):Room k (A.deeper env):=
 ⟨r.hd,by have:=r.dp;show A.depth+1+3*k+5<_;omega,by have:=r.un;show A.units+3+16*k+200<_;omega⟩
theorem Room.in1 {k:Nat}{A:Around}(r:Room (k+1) A):Room k A.in1:=
 ⟨r.hd,by have:=r.dp;show A.depth+3*k+5<_;omega,by have:=r.un;show A.units+1+16*k+200<_;omega⟩
theorem Room.depth {k:Nat}{A:Around}(r:Room k A):A.depth<recursionLimit:=by have:=r.dp;omega
theorem Room.units {k:Nat}{A:Around}(r:Room k A):A.units+64<cLine:=by have:=r.un;omega
def tNil:TA:=fun ψ H Q=>Q [] H
def Z4r (ta:TE)(tr:TA):TA:=fun σ H Q=>ta σ H fun x H1=>tr σ H1 fun xs H2=>Q (x::xs) H2
section
variable {X:Cx}{e:Expr}{es:List Expr}{te:TE}{t:TA}{pos:Pos}
theorem Z4z:PA X [] tNil:=fun ψ ψ ψ ψ H Q I h=>Calls.spliced_nil ⟨[],H,I,.nil,h⟩
theorem Z2p (ha:PE X e te)(hr:PA X es t)(hs:starEach (e::es) X.env=(false,eval e X.env)::starEach es X.env:=by rfl):PA X (e::es) (Z4r te t):=by
 intro pos pins s σ H Q I h;rw[hs];show wpAny _ _ (spliced ((false,eval e X.env)::backTo pos (starEach es X.env))) _ _ s;refine Calls.spliced_cons (thn (ha pins s σ H _ I h) fun u s1 ⟨x,H1,I1,r1,q1⟩=>?_);exact thn (hr pos pins s1 σ H1 _ I1 q1) fun us s2 ⟨xs,H2,I2,r2,q2⟩=>⟨x::xs,H2,I2,.cons r1 r2,q2⟩
def tTup (t:TA):TE:=fun σ H Q=>t σ H fun xs H1=>xs.length<=sizeLine/\∀ p,H1 p=none->Q (.ref p) (upd H1 p (.tup xs))
def tLst (t:TA):TE:=fun σ H Q=>t σ H fun xs H1=>xs.length<=sizeLine/\∀ p,H1 p=none->Q (.ref p) (upd H1 p (.lst xs))
theorem Znd {x1}(h:PA X es t):PE X (.Tuple es x1 pos) (tTup t):=by
 intro pins s σ H Q I hq;refine wpAny_Tuple_spliced (thn (h pos pins s σ H _ I hq) fun us s1 ⟨xs,H1,I1,r,z,q⟩=>⟨by rw[<-r.length];exact z,?_⟩);have hf:H1 s1.heap.objs.size=none:=I1.hok.fresh (Nat.le_refl _);refine⟨.ref s1.heap.objs.size,upd H1 s1.heap.objs.size (.tup xs),I1.laid (t':=s1.toks) (fun b u e=>Heap.get?_push_of_some _ e) (Nat.le_refl _) ?_,rfl,q _ hf⟩;exact⟨z,us,r,⟨_,Heap.get?_push_size _ rfl,rfl,_,rfl⟩⟩
theorem Zne (h:PA X es t):PE X (.List es pos) (tLst t):=by
 intro pins s σ H Q I hq;refine wpAny_List_spliced (thn (h pos pins s σ H _ I hq) fun us s1 ⟨xs,H1,I1,r,z,q⟩=>⟨by rw[<-r.length];exact z,?_⟩);have hf:H1 s1.heap.objs.size=none:=I1.hok.fresh (Nat.le_refl _);refine⟨.ref s1.heap.objs.size,upd H1 s1.heap.objs.size (.lst xs),I1.laid (t':=s1.toks) (fun b u e=>Heap.get?_push_of_some _ e) (Nat.le_refl _) ?_,rfl,q _ hf⟩;exact⟨z,us,0,r,Heap.get?_push_size _ rfl⟩
end
abbrev Sp:=List V->Hp->VK->XK->Prop
abbrev CXT:=List Env->Hp->Shared->XK->Value->Shared->Prop
structure Env0 (P:Program)(w:World)(K:L2.Fg)(mg:L2.SV)(base:Heap)(A:Around)(outer:List Env)(s:Shared)(H:Hp):Prop where
 frames:A.frames=some outer
 mod:Mod K mg base
 bs:∀ b o,base.get? b=some o->s.heap.get? b=some o/\H b=none
 bsz:base.objs.size<=s.heap.objs.size
 funs:s.heap.FunFrames base outer
 frf:∀ b∈frs outer,H b=none
 hok:HOk P w H s.heap
 bare:AllBare s.gens
def CE (outer:List Env)(P:Program)(w:World)(H:Hp)(s:Shared)(Q:VK)(u:Value)(s':Shared):Prop:=
 ∃ v H',s'.os=s.os/\AllBare s'.gens/\Un (frs outer) [] H H' s.heap s'.heap/\HOk P w H' s'.heap/\RelV v u/\Q v H'
def CR (CX:CXT)(outer:List Env)(P:Program)(w:World)(H:Hp)(s:Shared)(Q:VK)(E:XK)(r:Result)(s':Shared):Prop:=
 match r with
 |.ok (.ret u)=>CE outer P w H s Q u s'
 |.ok _=>False
 |.error e=>CX outer H s E e s'
structure FnOk (P:Program)(w:World)(K:L2.Fg)(mg:L2.SV)(base:Heap)(CX:CXT) (k:Nat)(f:Addr)(fd:FuncData)(ps:List Str)(sp:Sp):Prop where
 len:∀ vs H Q E,sp vs H Q E->vs.length=ps.length
 run:∀(A:Around)(outer:List Env)(s:Shared)(H:Hp)(args:Args)(us:List Value)(vs:List V)(Q:VK)(E:XK),Room k A->Env0 P w K mg base A outer s H->BindsTo s fd args (ps.zip us)->Vals vs us->sp vs H Q E ->
  codeAny (model P w) A (.call (.ref f) args) (CR CX outer P w H s Q E) s
theorem FnOk.mono {P:Program}{w:World}{K:L2.Fg}{mg:L2.SV}{base:Heap}{CX:CXT}{j k:Nat}{f:Addr}{fd:FuncData}{ps:List Str}{sp:Sp}(F:FnOk P w K mg base CX j f fd ps sp)(h:j<=k) :
  FnOk P w K mg base CX k f fd ps sp:=⟨F.len,fun A outer s H args us vs Q E hr=>F.run A outer s H args us vs Q E (hr.mono h)⟩
theorem FnOk.imp {P:Program}{w:World}{K:L2.Fg}{mg:L2.SV}{base:Heap}{CX:CXT}{k:Nat}{f:Addr}{fd:FuncData}{ps:List Str}{sp sp':Sp}(F:FnOk P w K mg base CX k f fd ps sp)
  (h:∀ vs H Q E,sp' vs H Q E->sp vs H Q E):FnOk P w K mg base CX k f fd ps sp':=
 ⟨fun vs H Q E q=>F.len vs H Q E (h _ _ _ _ q),fun A outer s H args us vs Q E hr he hb hv hs=>F.run A outer s H args us vs Q E hr he hb hv (h _ _ _ _ hs)⟩
theorem Env0.in1 {P:Program}{w:World}{K:L2.Fg}{mg:L2.SV}{base:Heap}{A:Around}{outer:List Env}{s:Shared}{H:Hp}(e:Env0 P w K mg base A outer s H) :
  Env0 P w K mg base A.in1 outer s H:=⟨e.frames,e.mod,e.bs,e.bsz,e.funs,e.frf,e.hok,e.bare⟩
section
variable {X:Cx}{pins:L2.AO}{σ:St}{H:Hp}{s s':Shared}
theorem Inv.env0 (I:Inv X pins σ H s):Env0 X.prog X.w X.K X.mg X.base X.A X.stack s H:=
 ⟨I.ok.frames,I.ok.mod,I.bs,Nat.le_trans I.ok.bsz I.sz,I.stack,I.stkFree,I.hok,I.bare⟩
theorem Inv.after {Q:VK}{u:Value}(I:Inv X pins σ H s)(h:CE X.stack X.prog X.w H s Q u s'):EP X pins σ Q u s':=by
 obtain⟨v,H',os,bare,un,hok,r,q⟩:=h;obtain⟨hh,g,d,t,os'⟩:=s';obtain rfl:os'=s.os:=os;exact⟨v,H',I.call (h':=hh) (g':=g) (d':=d) (t':=t) (ch:=[]) un hok bare (fun b z=>absurd z (by simp)),r,q⟩
end
def Zf8 (sp:Sp)(dvs:List V)(E:XK)(t:TA):TE:=fun σ H Q=>t σ H fun vs H1=>sp (vs++dvs) H1 Q E
def Za2 (K:L2.Fg)(fd:FuncData)(ps:List Str)(ds:List Value):Prop:=
 ∀(s:Shared)(us:List Value),K.In s.heap->(us++ds).length=ps.length->BindsTo s fd ⟨us,[]⟩ (ps.zip (us++ds))
theorem Za2.all {K:L2.Fg}{fd:FuncData}{ps:List Str}(h:∀ us:List Value,us.length=ps.length->bindArgs fd ⟨us,[]⟩=pure (ps.zip us)):Za2 K fd ps []:=fun s us ψ hl=>by
 rw[List.append_nil]at hl ⊢;exact .of_eq (h us hl)
def Z8r (CX:CXT)(X:Cx)(E:XK):Prop:=∀(pins:L2.AO)(σ:St)(H:Hp)(s:Shared)(e:Value)(s':Shared),Inv X pins σ H s->CX X.stack H s E e s'->X.xe e s'
section
variable {X:Cx}{CX:CXT}{k:Nat}{f:Addr}{fd:FuncData}{ps:List Str}{sp:Sp}{dvs:List V}{ds:List Value}{E:XK}{x:Str}{p pos:Pos}{e:Expr}{es:List Expr}{t:TA}
theorem Znf {pins:L2.AO}{σ:St}{H:Hp}{s:Shared}{Q:VK}{us:List Value}{vs:List V}(F:FnOk X.prog X.w X.K X.mg X.base CX k f fd ps sp)(hr:Room k X.A)(hb:Za2 X.K fd ps ds)(hd:Vals dvs ds)(hx:Z8r CX X E)
  (I:Inv X pins σ H s)(r:Vals vs us)(h:sp (vs++dvs) H Q E):wpAny (model X.prog X.w) X.A (call (.ref f) us) (EP X pins σ Q) X.xe s:=by
 have r2:Vals (vs++dvs) (us++ds):=r.append hd;have hl:(us++ds).length=ps.length:=by rw[<-r2.length];exact F.len _ _ _ _ h
 refine wpAny_call (codeAny_mono (F.run X.A X.stack s H ⟨us,[]⟩ (us++ds) (vs++dvs) Q E hr I.env0 (hb s us I.kIn hl) r2 h) fun r s' hq=>?_)
 cases r with
 |error e=>exact hx pins σ H s e s' I hq
 |ok fl=>
  cases fl with
  |ret u=>exact I.after hq
  |next=>exact False.elim hq
  |brk=>exact False.elim hq
  |cont=>exact False.elim hq
theorem Zjh (F:FnOk X.prog X.w X.K X.mg X.base CX k f fd ps sp)(hr:Room k X.A)(hg:Gl X x)(hm:X.mg x=some (.ref f))(hk:PySem.W.keepIn X.K (.ref f)=true)(hb:Za2 X.K fd ps ds)(hd:Vals dvs ds)(hx:Z8r CX X E)
  (ha:PA X (e::es) t)(hdb:(x==("__debug__" : Str))=false:=by decide)(he:starEach (e::es) X.env=(false,eval e X.env)::starEach es X.env:=by rfl)(hpl:(backTo pos (starEach es X.env)).any (·.1)=false:=by rfl) :
  PE X (.Call (.Name x p) (e::es) [] pos) (Zf8 sp dvs E t):=by
 intro pins s σ H Q I h;refine wpAny_Call_Name_kw (Zj8 I hg hm ?_ hdb);refine PySem.W.callWith_K (h₀:=X.base) I.ok.mod.kin hk (thn (ha pos pins s σ H _ I h) fun us s1 ⟨vs,H1,I1,r,q⟩=>⟨I1.kIn,?_⟩) he hpl;exact Znf F hr hb hd hx I1 r q
end
structure Z0f (N P:List Str)(sc:Scope):Prop where
 kind:sc.kind=.function
 co:sc.isCoroutine=false
 gen:sc.isGenerator=false
 nd:N.Nodup
 pre:N.take P.length=P
 par:∀ x∈P,sc.names.lookup x=some .local\/sc.names.lookup x=some .cell
 nofree:∀ y∈sc.names,y.2≠.free
theorem Z68 {kindOf:Str->Option NameKind}{x:Str}:∀{binds:List (Str×Value)}{m:L2.SV},(∀ v,(x,v)∉binds)->bindL kindOf binds m x=m x
 |[],_,_=>rfl
 |(n,v)::r,m,h=>by
  unfold bindL;rw[Z68 fun w hw=>h w (List.mem_cons_of_mem _ hw)];split
  ·have:x≠n:=by rintro rfl;exact h v List.mem_cons_self
   simp[this]
  ·rfl
theorem Z69 {kindOf:Str->Option NameKind}{x:Str}:∀{binds:List (Str×Value)}{m:L2.SV},(∀ v,(x,v)∉binds)->bindC kindOf binds m x=m x
 |[],_,_=>rfl
 |(n,v)::r,m,h=>by
  unfold bindC;rw[Z69 fun w hw=>h w (List.mem_cons_of_mem _ hw)];split
  ·rfl
  ·have:x≠n:=by rintro rfl;exact h v List.mem_cons_self
   simp[this]
theorem Z6a {kindOf:Str->Option NameKind}{x:Str}{v:Value}:∀{P:List Str}{vs:List Value}{i:Nat}{m:L2.SV},P.Nodup->P[i]?=some x->vs[i]?=some v->kindOf x=some .local ->
  bindL kindOf (P.zip vs) m x=some v
 |[],_,_,_,_,h,_,_=>by simp at h
 |_::_,[],_,_,_,_,h,_=>by simp at h
 |p::P,w::vs,0,m,nd,h1,h2,hk=>by
  simp at h1 h2;subst h1;subst h2;show bindL kindOf ((p,w)::P.zip vs) m p=_;unfold bindL;rw[Z68 fun v hv=>(List.nodup_cons.mp nd).1 (List.of_mem_zip hv).1,if_pos hk];simp
 |p::P,w::vs,i+1,m,nd,h1,h2,hk=>by
  show bindL kindOf ((p,w)::P.zip vs) m x=_;unfold bindL;exact Z6a (i:=i) (List.nodup_cons.mp nd).2 (by simpa using h1) (by simpa using h2) hk
theorem Z6b {kindOf:Str->Option NameKind}{x:Str}{v:Value}:∀{P:List Str}{vs:List Value}{i:Nat}{m:L2.SV},P.Nodup->P[i]?=some x->vs[i]?=some v->kindOf x≠some .local ->
  bindC kindOf (P.zip vs) m x=some v
 |[],_,_,_,_,h,_,_=>by simp at h
 |_::_,[],_,_,_,_,h,_=>by simp at h
 |p::P,w::vs,0,m,nd,h1,h2,hk=>by
  simp at h1 h2;subst h1;subst h2;show bindC kindOf ((p,w)::P.zip vs) m p=_;unfold bindC;rw[Z69 fun v hv=>(List.nodup_cons.mp nd).1 (List.of_mem_zip hv).1,if_neg hk];simp
 |p::P,w::vs,i+1,m,nd,h1,h2,hk=>by
  show bindC kindOf ((p,w)::P.zip vs) m x=_;unfold bindC;exact Z6b (i:=i) (List.nodup_cons.mp nd).2 (by simpa using h1) (by simpa using h2) hk
def start (N:List Str)(vs:List V):St:=vs.map some++List.replicate (N.length-vs.length) none
def cxOf (CX:CXT)(P:Program)(w:World)(K:L2.Fg)(mg:L2.SV)(base:Heap)(N:List Str)(qual:Str)(scope:Scope)(f:Addr)(cd:Value)(A:Around)(outer:List Env)(s:Shared)(H:Hp)(E:XK):Cx where
 prog:=P
 w:=w
 K:=K
 mg:=mg
 base:=base
 A:=A.deeper (envOfC qual scope s.heap.objs.size f cd)
 N:=N
 s₀:=s
 H₀:=H
 env:=envOfC qual scope s.heap.objs.size f cd
 outer:=outer
 stack:=envOfC qual scope s.heap.objs.size f cd::outer
 ex:=[]
 calm:=true
 fn:=fun ψ=>true
 pn:=[]
 xe:=fun e s'=>wpAny (model P w) (A.deeper (envOfC qual scope s.heap.objs.size f cd)) (leaving (envOfC qual scope s.heap.objs.size f cd) e) (fun ψ s''=>CX outer H s E e s'') (fun e' s''=>CX outer H s E e' s'') s'
theorem Z8s {sc:Scope}{n:Nat}{x:Str}(h:sc.names.lookup x=some .cell):∃ c,(cellsFrom n sc.names []).lookup x=some c:=by
 have q:=PySem.W.cellsFrom_some sc.names n [] (.inl h);exact Option.isSome_iff_exists.mp q
theorem Zbs {CX:CXT}{P:Program}{w:World}{K:L2.Fg}{mg:L2.SV}{base:Heap}{N ps:List Str}{qual:Str}{scope:Scope}{f:Addr}{cd:Value}{A:Around}{outer:List Env}{s s1:Shared}{H:Hp}{E:XK}{us:List Value}{vs:List V}
  (S:Z0f N ps scope)(hd:A.handled=none)(e0:Env0 P w K mg base A outer s H)(hl:vs.length=ps.length)(r:Vals vs us)
  (x:InCallC s s.heap.objs.size (bindL (envOfC qual scope s.heap.objs.size f cd).kindOf (ps.zip us) fun ψ=>none) (cellsFrom (s.heap.objs.size+1) scope.names []) (bindC (envOfC qual scope s.heap.objs.size f cd).kindOf (ps.zip us) fun ψ=>none) s1) :
  Inv (cxOf CX P w K mg base N qual scope f cd A outer s H E) [] (start N vs) H s1:=by
 have hpl:ps.length<=N.length:=by have:=congrArg List.length S.pre;rw[List.length_take]at this;omega
 obtain⟨h1,tk,rfl,hk⟩:=x.done;have noA:∀ b:Addr,b∉(cxOf CX P w K mg base N qual scope f cd A outer s H E).ex:=fun b z=>absurd (show b∈([]:List Addr)from z) (by simp);refine⟨⟨e0.mod,S.kind,rfl,rfl,Nat.le_refl _,fun y z c h1 h2 => ?_,fun y hy => ?_,fun y c ψ h => ?_,fun ψ=>hd,Around.frames_deeper e0.frames,.inr ⟨rfl,rfl⟩,fun b z=>absurd z (noA b),e0.bs,e0.bsz,fun b ψ ψ=>noA b,fun b z=>absurd z (noA b),e0.funs,e0.frf⟩,
  rfl,e0.bare,Un.kept hk,⟨_,x.toInCall.ns,fun i y v h1 h2 h3 => ?_⟩,fun y c h=>⟨_,x.cell y c h⟩,e0.hok.fresh (Nat.le_refl _),fun y c h => ?_,fun p hp=>absurd (show p∈([]:L2.AO)from hp) (by simp),e0.hok.kept hk,?_⟩
 ·exact name_of_addr x.apart (PySem.mem_of_lookup h1) (PySem.mem_of_lookup h2)
 ·have hy:scope.names.lookup y=some .cell\/scope.names.lookup y=some .free:=hy;rcases hy with hy|hy
  ·exact Z8s hy
  ·exact absurd rfl (S.nofree _ (PySem.mem_of_lookup hy))
 ·exact Nat.le_of_lt (x.above y c (PySem.mem_of_lookup h))
 ·have hi:i<vs.length:=by
   unfold start at h2;by_cases hi:i<vs.length
   ·exact hi
   ·rw[List.getElem?_append_right (by simpa using hi)]at h2;rw[List.getElem?_replicate]at h2;split at h2<;>cases h2
  have ha:vs[i]?=some v:=by
   unfold start at h2;rw[List.getElem?_append_left (by simpa using hi),List.getElem?_map]at h2
   cases e:vs[i]? with
   |none=>rw[e]at h2;cases h2
   |some a=>rw[e]at h2;cases h2;rfl
  obtain⟨u,hu,rv⟩:=r.get ha;have hp:ps[i]?=some y:=by
   rw[<-S.pre,List.getElem?_take_of_lt (by omega)];exact h1
  have ndP:ps.Nodup:=by rw[<-S.pre];exact S.nd.sublist (List.take_sublist _ _)
  refine⟨u,rv,?_⟩;rcases S.par y (List.mem_of_getElem? hp)with k|k
  ·exact .inl ⟨k,Z6a ndP hp hu k⟩
  ·obtain⟨c,e⟩:=Z8s (n:=s.heap.objs.size+1) k;refine .inr ⟨.inl k,c,e,?_⟩;have q:=x.cell y c e;rw[Z6b ndP hp hu (by show scope.names.lookup y≠_;rw[k];decide)]at q;exact q
 ·exact e0.hok.fresh (Nat.le_of_lt (x.above y c (PySem.mem_of_lookup h)))
 ·unfold start;show _=N.length;rw[List.length_append,List.length_map,List.length_replicate];omega
theorem Zng {CX:CXT}{P:Program}{w:World}{K:L2.Fg}{mg:L2.SV}{base:Heap}{k:Nat}{f:Addr}{name qual:Str}{params:Arguments}{body:List Stmt}{scope:Scope}{dV kV doc pm cdv ct oc:Value}{an od:Option Addr}
  {osl:Array (Option Value)}{N ps:List Str}{sp:Sp}(lk:K.lookup f=some ⟨oc,od,.func (PySem.W.fnOf name qual params body scope dV kV doc pm an cdv ct),osl⟩)(hcd:PySem.W.codeIn K cdv qual=true)(S:Z0f N ps scope)
  (len:∀ vs H Q E,sp vs H Q E->vs.length=ps.length)
  (hbody:∀ (A:Around)(outer:List Env)(s:Shared)(H:Hp)(vs:List V)(Q:VK)(E:XK),Room k (A.deeper (envOfC qual scope s.heap.objs.size f cdv))->sp vs H Q E ->
   ∃ t,PSs (cxOf CX P w K mg base N qual scope f cdv A outer s H E) body t/\t { nx:=fun ψ H'=>Q .non H',rt:=Q } (start N vs) H) :
  FnOk P w K mg base CX (k+1) f (PySem.W.fnOf name qual params body scope dV kV doc pm an cdv ct) ps sp:=by
 refine⟨len,fun A outer s H args us vs Q E hr e0 hb r hsp=>?_⟩;have hl:=len _ _ _ _ hsp;have KX:K.In s.heap:=e0.mod.kin.keeps fun b o e=>(e0.bs b o e).1;have lim:s.heap.NoLimit:=e0.mod.nolimit.keeps fun b o e=>(e0.bs b o e).1;have hkind:∀ y∈ps.zip us,scope.names.lookup y.1=some .local\/(scope.names.lookup y.1=some .cell/\((cellsFrom (s.heap.objs.size+1) scope.names []).lookup y.1).isSome=true):=fun⟨n,v⟩ hy=>by
  rcases S.par n (List.of_mem_zip hy).1 with q|q
  ·exact .inl q
  ·exact .inr ⟨q,PySem.W.cellsFrom_some _ _ _ (.inl q)⟩
 refine codeAny_call_function hr.depth (KX _ _ lk) rfl S.co S.gen rfl (PySem.W.codeRec_of KX hcd) (hb _ _ _ _ ?_);refine wpAny_newFunctionEnv_cells S.kind hkind fun env he s1 x=>?_;subst he;refine⟨lim.keeps x.toInCall.keep,codeAny_func ?_⟩;obtain⟨t,ht,hq⟩:=hbody A outer s H vs Q E (hr.deeper _) hsp;have I:Inv (cxOf CX P w K mg base N qual scope f cdv A outer s H E) [] (start N vs) H s1:=Zbs S hr.hd e0 hl r x;refine wpAny_mono (ht [] s1 (start N vs) H _ I hq) (fun fl s' hs=>?_) fun e s' hs=>hs;have fin:∀{σ':St}{H':Hp}{v:V}{u:Value},Inv (cxOf CX P w K mg base N qual scope f cdv A outer s H E) [] σ' H' s'->RelV v u->Q v H'->CE outer P w H s Q u s':=
  fun{σ' H' v u} J rv q=>⟨v,H',J.os,J.bare,J.base,J.hok,rv,q⟩
 cases fl with
 |ret u=>
  obtain⟨v,σ',H',J,rv,q⟩:=hs;exact fin J rv q
 |next=>
  obtain⟨σ',H',J,q⟩:=hs;exact fin (v:=V.non) (u:=Value.none) J rfl q
 |brk=>
  obtain⟨_,_,_,q⟩:=hs;exact False.elim q
 |cont=>
  obtain⟨_,_,_,q⟩:=hs;exact False.elim q
section
variable {X:Cx}{x:Str}{p pos:Pos}{e:Expr}{es:List Expr}{t:TA}{id T:String}{r:List V->Hp->VK->Prop}
def tCB (r:List V->Hp->VK->Prop)(t:TA):TE:=fun σ H Q=>t σ H fun vs H1=>r vs H1 Q
theorem Z3y (hc:Z10 X (.builtin id) r)(hg:Gl X x)(hm:X.mg x=none)(hv:bootBuiltins x=some (.builtin id))(ha:PA X (e::es) t)(hn:x ≠ "__name__" := by decide)(hdb:(x==("__debug__" : Str))=false:=by decide)
  (he:starEach (e::es) X.env=(false,eval e X.env)::starEach es X.env:=by rfl)(hpl:(backTo pos (starEach es X.env)).any (·.1)=false:=by rfl):PE X (.Call (.Name x p) (e::es) [] pos) (tCB r t):=by
 intro pins s σ H Q I h;refine wpAny_Call_Name_kw (Z4y I hg hm hv ?_ hn hdb);exact PyProof.Rows.callWith_builtin1 (thn (ha pos pins s σ H _ I h) fun us s1 ⟨vs,H1,I1,r1,q1⟩=>hc pins s1 σ H1 vs us Q I1 r1 q1) he hpl
theorem Z26 (hc:Z10 X (.type T) r)(hg:Gl X x)(hm:X.mg x=none)(hv:bootBuiltins x=some (.type T))(ha:PA X (e::es) t)(hn:x ≠ "__name__" := by decide)(hdb:(x==("__debug__" : Str))=false:=by decide)
  (he:starEach (e::es) X.env=(false,eval e X.env)::starEach es X.env:=by rfl)(hpl:(backTo pos (starEach es X.env)).any (·.1)=false:=by rfl):PE X (.Call (.Name x p) (e::es) [] pos) (tCB r t):=by
 intro pins s σ H Q I h;refine wpAny_Call_Name_kw (Z4y I hg hm hv ?_ hn hdb);exact PyProof.Rows.callWith_type1 (thn (ha pos pins s σ H _ I h) fun us s1 ⟨vs,H1,I1,r1,q1⟩=>hc pins s1 σ H1 vs us Q I1 r1 q1) he hpl
end
end L2
namespace HT
open PySem PyProof.Rows
section
variable {prog:Program}{w:World}{A:Around}{E:L2.VSP}{s:Shared}
theorem cat_tup {t b:Addr}{vs ws:List Value}{Q:L2.VSP}(ht:IsTup s.heap t vs.toArray)(hb:IsTup s.heap b ws.toArray)(hv:vs≠[])
  (h1:ws=[]->Q (.ref t) s)(h2:ws≠[]->Q (.ref s.heap.objs.size) { s with heap:=s.heap.push { cls:=.type "tuple",data:=.seq (vs++ws).toArray } })
  (hsz:vs.length+ws.length<=sizeLine):wpAny (model prog w) A (binaryOp .Add (.ref t) (.ref b)) Q E s:=by
 obtain⟨⟨cls,dd,data,sl⟩,ho,hc,n,hd⟩:=id ht;obtain⟨⟨cls2,dd2,data2,sl2⟩,ho2,hc2,n2,hd2⟩:=id hb;simp only at hc hd hc2 hd2;subst hc hd hc2 hd2;have e:vs.toArray++ws.toArray=(vs++ws).toArray:=by simp
 by_cases hw:ws=[]
 ·exact concat_meets ⟨_,ho,rfl⟩ ⟨_,ho2,rfl⟩ noFill_tuple_add seq_tuple_add PySem.F.slot_tuple_add PySem.F.entry_tuple_add (PySem.F.args_tuple_add_2 _ _)
   (tuple_addW1 t b vs.toArray ws.toArray n n2 dd dd2 sl sl2 (by simpa using hv) (by simp[hw])) ⟨ho,ho2,h1 hw⟩
 ·refine concat_meets ⟨_,ho,rfl⟩ ⟨_,ho2,rfl⟩ noFill_tuple_add seq_tuple_add PySem.F.slot_tuple_add PySem.F.entry_tuple_add (PySem.F.args_tuple_add_2 _ _)
   (tuple_addW2 t b vs.toArray ws.toArray n n2 dd dd2 sl sl2 (by simpa using hv) (by simpa using hw) (by rw[List.size_toArray,List.size_toArray];exact hsz)) ⟨ho,ho2,?_⟩
  rw[e];exact h2 hw
def sIx (n d:Nat):Option Int->Nat
 |none=>d
 |some v=>if v<0 then (v+(n:Int)).toNat else min v.toNat n
theorem sIx_nat (n d k:Nat):sIx n d (some (k:Int))=min k n:=by
 show(if (k:Int)<0 then ((k:Int)+(n:Int)).toNat else min (k:Int).toNat n)=min k n;rw[if_neg (by omega),Int.toNat_natCast]
theorem Znh (n d:Nat)(hd:d<=n)(o:Option Int):sIx n d o<=n:=by
 cases o with
 |none=>exact hd
 |some v=>
  show(if v<0 then (v+(n:Int)).toNat else min v.toNat n)<=n;by_cases hv:v<0
  ·rw[if_pos hv];omega
  ·rw[if_neg hv];exact Nat.min_le_right _ _
theorem Zbt (v:Int)(n d:Nat):(if v<0 then max (v+(n:Int)) 0 else min v (n:Int))=((sIx n d (some v):Nat):Int):=by
 show(if v<0 then max (v+(n:Int)) 0 else min v (n:Int))=(((if v<0 then (v+(n:Int)).toNat else min v.toNat n):Nat):Int)
 by_cases hv:v<0
 ·simp only[if_pos hv];omega
 ·simp only[if_neg hv];omega
theorem Za3 (lo hi:Option Int) (n:Nat):Builtin.Slice.sliceAdjust lo hi 1 (n:Int)=(((sIx n 0 lo:Nat):Int),((sIx n n hi:Nat):Int)):=by
 have h1:¬ ((1:Int)<0):=by omega
 unfold Builtin.Slice.sliceAdjust;simp only[h1,if_false];refine Prod.ext ?_ ?_
 ·cases lo with
  |none=>rfl
  |some v=>exact Zbt v n 0
 ·cases hi with
  |none=>rfl
  |some v=>exact Zbt v n n
theorem Za4 (i j:Nat):Builtin.Slice.slicePlaces (i:Int) (j:Int) 1=j-i:=by
 unfold Builtin.Slice.slicePlaces;have h1:(1:Int) > 0:=by omega
 simp only[h1,if_true,Int.ediv_one];split<;>omega
theorem Z50 {v:Value}{o:Option Int}{Q:Option Int->Shared->Prop}(p:IsPart v o)(h:Q o s):wpAny (model prog w) A (Builtin.Slice.slicePartIndex v) Q E s:=by
 cases p with
 |none=>exact slicePart_none h
 |int i t=>exact slicePart_int h
theorem sliceApplied_gen {sl:Addr}{vl vu:Value}{lo hi:Option Int}{n:Nat}{Q:Int×Int×Nat->Shared->Prop}(hs:s.heap.IsSliceOf sl vl vu .none)(pl:IsPart vl lo)(pu:IsPart vu hi)
  (h:Q (((sIx n 0 lo:Nat):Int),1,sIx n n hi-sIx n 0 lo) s):wpAny (model prog w) A (Builtin.Slice.sliceApplied (.ref sl) (pure (n:Int))) Q E s:=by
 obtain⟨os,hos,hcs,hds⟩:=id hs;unfold Builtin.Slice.sliceApplied Builtin.Slice.sliceFields;refine wpAny_bind (wpAny_bind (wpAny_field hos hds (x:=vl) rfl (wpAny_bind (wpAny_field hos hds (x:=vu) rfl (wpAny_bind (wpAny_field hos hds (x:=.none) rfl (wpAny_pure ?_)))))));refine wpAny_bind (slicePart_none ?_);show wpAny _ _ (if ((1:Int)==0)=true then _ else _) _ _ s;rw[if_neg (by decide)];refine wpAny_bind (Z50 pl (wpAny_bind (Z50 pu (wpAny_bind (wpAny_pure ?_)))));show wpAny _ _ (match Builtin.Slice.sliceAdjust lo hi 1 (n:Int)with|(lo,hi)=>pure (lo,(1:Int),Builtin.Slice.slicePlaces lo hi 1)) _ _ s;rw[Za3 lo hi n];show wpAny _ _ (pure (((sIx n 0 lo:Nat):Int),(1:Int),Builtin.Slice.slicePlaces ((sIx n 0 lo:Nat):Int) ((sIx n n hi:Nat):Int) 1)) _ _ s;rw[Za4];exact wpAny_pure h
theorem Zf9 (xs:Array Value)(i k:Nat):((List.range k).filterMap fun(m:Nat)=>xs[((i:Int)+(m:Int)*1).toNat]?).toArray=((xs.toList.drop i).take k).toArray:=by
 have e:(fun(m:Nat)=>xs[((i:Int)+(m:Int)*1).toNat]?)=fun m=>xs[i+m]?:=by
  funext m
  have:((i:Int)+(m:Int)*1).toNat=i+m:=by omega
  rw[this]
 rw[e];have:=pick_run xs i k
 rw[List.filterMap_map]at this;have e2:((fun x=>xs[x]?)∘fun x=>i+x)=fun m=>xs[i+m]?:=rfl;rw[e2]at this;rw[this]
theorem getItem_tuple_cut {t sl:Addr}{items:Array Value}{vl vu:Value}{lo hi:Option Int}{Q:L2.VSP}(ht:IsTup s.heap t items)(hs:s.heap.IsSliceOf sl vl vu .none)(pl:IsPart vl lo)(pu:IsPart vu hi)
  (hw:¬ (sIx items.size 0 lo=0/\sIx items.size items.size hi=items.size))
  (h:Q (.ref s.heap.objs.size) { s with heap:=s.heap.push { cls:=.type "tuple",data:=.seq ((items.toList.drop (sIx items.size 0 lo)).take (sIx items.size items.size hi-sIx items.size 0 lo)).toArray } })
  (hsz:items.size<=sizeLine):wpAny (model prog w) A (getItem (.ref t) (.ref sl)) Q E s:=by
 have htake:sizeOk (.seq ((items.toList.drop (sIx items.size 0 lo)).take (sIx items.size items.size hi-sIx items.size 0 lo)).toArray):=by
  show((items.toList.drop (sIx items.size 0 lo)).take (sIx items.size items.size hi-sIx items.size 0 lo)).toArray.size<=sizeLine;rw[List.size_toArray,List.length_take,List.length_drop,Array.length_toList];omega
 have hj:sIx items.size items.size hi<=items.size:=Znh _ _ (Nat.le_refl _) hi;obtain⟨os,hos,hcs,hds⟩:=id hs;have hTs:s.TypeIs (.ref sl) "slice" := ⟨os,hos,hcs⟩
 unfold getItem;try with_reducible refine wpAny_holding ?_
 first|refine wpAny_bind (wpAny_pure ?_)|skip
 refine wpAny_bind (wpAny_sequenceKey ht.typeIs (by decide) ?_);refine wpAny_bind (wpAny_callSpecial?_slot (name:=Str.ofString "__getitem__") ht.typeIs PyProof.Rows.slot_tuple_getitem
  (wpAny_call_entry PyProof.Rows.slot_tuple_getitem ht.typeIs entry_tuple_getitem ?_ (args_tuple_getitem _ _)))
 show wpAny _ _ (Builtin.Tuple.tupleItemsOf (.ref t) >>= _) _ _ s;refine wpAny_bind (tupleItemsOf_ ht ?_);refine wpAny_bind (wpAny_typeOf hTs ?_);rw[if_pos (by decide)];refine wpAny_bind (sliceApplied_gen hs pl pu ?_);have hno:¬ ((((sIx items.size 0 lo:Nat):Int)==0&&(1:Int)==1&&(sIx items.size items.size hi-sIx items.size 0 lo)==items.size)=true):=by
  intro q;rw[Bool.and_eq_true,Bool.and_eq_true]at q;have q1:((sIx items.size 0 lo:Nat):Int)=0:=eq_of_beq q.1.1;have q2:sIx items.size items.size hi-sIx items.size 0 lo=items.size:=eq_of_beq q.2;exact hw ⟨by omega,by omega⟩
 show wpAny _ _ (if (((sIx items.size 0 lo:Nat):Int)==0&&(1:Int)==1&&(sIx items.size items.size hi-sIx items.size 0 lo)==items.size)=true then _ else _) _ _ s;rw[if_neg hno,Zf9];first
  |exact wpAny_bind (m:=Builtin.Tuple.tupleExact _) (wpAny_newObj_type (wpAny_pure ⟨_,rfl,wpAny_pure h⟩) htake)
  |exact wpAny_bind (m:=Builtin.Tuple.tupleExact _) (wpAny_newObj_type (wpAny_bind (wpAny_pure (wpAny_pure ⟨_,rfl,wpAny_pure h⟩))) htake)
  |exact wpAny_bind (wpAny_bind (m:=Builtin.Tuple.tupleExact _) (wpAny_newObj_type (wpAny_pure (wpAny_pure ⟨_,rfl,wpAny_pure h⟩)) htake))
  |exact wpAny_bind (wpAny_bind (m:=Builtin.Tuple.tupleExact _) (wpAny_newObj_type (wpAny_pure ⟨_,rfl,wpAny_pure h⟩) htake))
end
end HT
namespace L2
open PySem PySem.Spec PyProof.Rows
abbrev TO:=St->Hp->(Option Int->Hp->Prop)->Prop
def PO (X:Cx)(e:Option Expr)(t:TO):Prop:=
 ∀(pins:L2.AO)(s:Shared)(σ:St)(H:Hp)(Q:Option Int->Hp->Prop),Inv X pins σ H s->t σ H Q ->
  wpAny (model X.prog X.w) X.A (evalPart e X.env) (fun u s'=>∃ o H',Inv X pins σ H' s'/\IsPart u o/\Q o H') X.xe s
def Zbu:TO:=fun ψ H Q=>Q none H
def Zni (t:TE):TO:=fun σ H Q=>t σ H fun x H1=>∃ i,x=.int i/\Q (some i) H1
theorem Za5 {ns:List Int}:∀{us:List Value},Vals (ns.map V.int) us->IntsAre us ns:=by
 induction ns with
 |nil=>intro us r;rw[List.map_nil]at r;cases r;exact .nil
 |cons n ns ih=>
  intro us r;rw[List.map_cons]at r
  cases r with
  |cons r1 r2=>
   obtain⟨t,e⟩:=r1;subst e;exact .cons n t (ih r2)
section
variable {X:Cx}{e:Expr}{te:TE}{lo hi:Option Expr}{tl th:TO}{pos p2:Pos}
theorem Zji:PO X none Zbu:=by
 intro pins s σ H Q I h;rw[evalPart_none];exact wpAny_pure ⟨none,H,I,.none,h⟩
theorem Zjj (h:PE X e te):PO X (some e) (Zni te):=by
 intro pins s σ H Q I hw;rw[evalPart_some];refine thn (h pins s σ H _ I hw) fun u s1 ⟨x,H1,I1,r1,q1⟩=>?_;obtain⟨i,rfl,q⟩:=q1;obtain⟨t,rfl⟩:=r1;exact⟨some i,H1,I1,.int i t,q⟩
def SlR (X:Cx)(r:V->Option Int->Option Int->Hp->VK->Prop):Prop:=
 ∀(pins:L2.AO)(s:Shared)(σ:St)(H:Hp)(x:V)(v vl vu:Value)(lo hi:Option Int)(sl:Addr)(Q:VK),Inv X pins σ H s->RelV x v->s.heap.IsSliceOf sl vl vu .none->IsPart vl lo->IsPart vu hi->r x lo hi H Q ->
  ∃ T id,typeLookup (.type T) "__getitem__" = pure (some (.builtin id))/\s.TypeIs v T/\wpAny (model X.prog X.w) X.A (getItem v (.ref sl)) (EP X pins σ Q) X.xe s
theorem SlR.or {r r':V->Option Int->Option Int->Hp->VK->Prop}(h:SlR X r)(h':SlR X r'):SlR X (fun x lo hi H Q=>r x lo hi H Q\/r' x lo hi H Q):=by
 intro pins s σ H x v vl vu lo hi sl Q I rx hs pl pu q;rcases q with q|q
 ·exact h pins s σ H x v vl vu lo hi sl Q I rx hs pl pu q
 ·exact h' pins s σ H x v vl vu lo hi sl Q I rx hs pl pu q
def tSl (r:V->Option Int->Option Int->Hp->VK->Prop)(te:TE)(tl th:TO):TE:=fun σ H Q=>te σ H fun x H1=>tl σ H1 fun l H2=>th σ H2 fun u H3=>r x l u H3 Q
theorem Zfa {r:V->Option Int->Option Int->Hp->VK->Prop}(hr:SlR X r)(he:PE X e te)(hl:PO X lo tl)(hu:PO X hi th):PE X (.Subscript e (.Slice lo hi none p2) pos) (tSl r te tl th):=by
 intro pins s σ H Q I h;refine Subscript_ (thn (he pins s σ H _ I h) fun v s1 ⟨x,H1,I1,r1,q1⟩=>?_);refine wpAny_Slice (thn (hl pins s1 σ H1 _ I1 q1) fun vl s2 ⟨l,H2,I2,pl,q2⟩=>thn (hu pins s2 σ H2 _ I2 q2) fun vu s3 ⟨u,H3,I3,pu,q3⟩=>?_);rw[evalPart_none];refine wpAny_pure ?_;have I4:Inv X pins σ H3 { s3 with heap:=s3.heap.push { cls:=.type "slice",data:=.fields #[vl,vu,.none] } }:=I3.kept (t':=s3.toks) fun b ob q=>Heap.get?_push_of_some _ q;obtain⟨T,id,hT,ht,hg⟩:=hr pins { s3 with heap:=s3.heap.push { cls:=.type "slice",data:=.fields #[vl,vu,.none] } } σ H3 x v vl vu l u s3.heap.objs.size Q I4 r1 (Heap.IsSliceOf.new ..) pl pu q3;show wpAny (model X.prog X.w) X.A (subscriptTail e (.Slice lo hi none p2) v (.ref s3.heap.objs.size)) (EP X pins σ Q) X.xe { s3 with heap:=s3.heap.push { cls:=.type "slice",data:=.fields #[vl,vu,.none] } };exact tail_any (ops:=[.ref s3.heap.objs.size,v]) ht hT hg (by with_unfolding_all rfl)
def cutV (xs:List V)(lo hi:Option Int):List V:=(xs.drop (HT.sIx xs.length 0 lo)).take (HT.sIx xs.length xs.length hi-HT.sIx xs.length 0 lo)
theorem Z41 (xs:List V)(lo hi:Option Int):(cutV xs lo hi).length<=xs.length:=by
 unfold cutV;rw[List.length_take,List.length_drop];omega
def rSlT (K:L2.Fg):V->Option Int->Option Int->Hp->VK->Prop:=fun x lo hi H Q=>∃ a xs,x=.ref a/\SqT K H a xs /\
 ¬ (HT.sIx xs.length 0 lo=0/\HT.sIx xs.length xs.length hi=xs.length)/\∀ p,H p=none->Q (.ref p) (upd H p (.tup (cutV xs lo hi)))
theorem Znj:SlR X (rSlT X.K):=by
 intro pins s σ H x v vl vu lo hi sl Q I rx hs pl pu h;obtain⟨a,xs,rfl,hx,hw,q⟩:=h
 cases rx;obtain⟨its,r,ht,hz⟩:=I.tuple hx;have hlen:its.toArray.size=xs.length:=by rw[List.size_toArray];exact r.length.symm
 refine⟨"tuple",_,PyProof.Rows.slot_tuple_getitem.lookup,ht.typeIs,?_⟩;refine HT.getItem_tuple_cut ht hs pl pu (by rw[hlen];exact hw) ?_ (by rw[hlen];exact hz);rw[hlen];refine⟨.ref s.heap.objs.size,_,I.laid (t':=s.toks) (o:=.tup (cutV xs lo hi)) (fun b ob q=>Heap.get?_push_of_some _ q) (Nat.le_refl _) ?_,rfl,q _ (I.hok.fresh (Nat.le_refl _))⟩;exact⟨Nat.le_trans (Z41 xs lo hi) hz,_,(r.drop (HT.sIx xs.length 0 lo)).take (HT.sIx xs.length xs.length hi-HT.sIx xs.length 0 lo),IsTup.new _ _⟩
def Znk (K:L2.Fg):R2:=fun x y H Q=>∃ a b xs ys,x=.ref a/\y=.ref b/\SqT K H a xs/\SqT K H b ys/\xs≠[]/\xs.length+ys.length<=sizeLine /\
 (ys=[]->Q (.ref a) H)/\(ys≠[]->∀ p,H p=none->Q (.ref p) (upd H p (.tup (xs++ys))))
theorem Vals.nil_iff {xs:List V}{us:List Value}(r:Vals xs us):us=[]↔xs=[]:=by
 cases r with
 |nil=>simp
 |cons _ _=>simp
theorem Zjk:OpR X (binaryOp .Add) (Znk X.K):=by
 intro pins s σ H x y v u Q I rx ry h;obtain⟨a,b,xs,ys,rfl,rfl,ha,hb,hx,hz,q1,q2⟩:=h
 cases rx
 cases ry;obtain⟨its,r1,p1,_⟩:=I.tuple ha;obtain⟨its2,r2,p2,_⟩:=I.tuple hb;refine HT.cat_tup p1 p2 (fun z=>hx (r1.nil_iff.mp z)) (fun z=>⟨.ref a,H,I,rfl,q1 (r2.nil_iff.mp z)⟩) (fun z=>?_) (by rw[<-r1.length,<-r2.length];exact hz);refine⟨.ref s.heap.objs.size,_,I.laid (t':=s.toks) (o:=.tup (xs++ys)) (fun b ob q=>Heap.get?_push_of_some _ q) (Nat.le_refl _) ?_,rfl,q2 (fun w=>z (r2.nil_iff.mpr w)) _ (I.hok.fresh (Nat.le_refl _))⟩;exact⟨by rw[List.length_append];exact hz,_,r1.append r2,IsTup.new _ _⟩
end
def ixN (n:Nat) (i:Int):Option Nat:=if 0<=i then (if i<n then some i.toNat else none)else if -(n:Int)<=i then some (i+n).toNat else none
def atI {α:Type}(xs:List α) (i:Int):Option α:=(ixN xs.length i).bind fun j=>xs[j]?
theorem Zbv {n:Nat}{i:Int}{j:Nat}(h:ixN n i=some j):seqIndex? i n=some j/\j<n /\ -(n:Int)<=i/\i<n:=by
 unfold ixN at h;by_cases h0:0<=i
 ·rw[if_pos h0]at h;by_cases h1:i<n
  ·rw[if_pos h1]at h;have e:i.toNat=j:=Option.some.inj h;exact⟨by rw[seqIndex_of h0 h1,e],by omega,by omega,h1⟩
  ·rw[if_neg h1]at h;cases h
 ·rw[if_neg h0]at h;by_cases h1: -(n:Int)<=i
  ·rw[if_pos h1]at h;have e:(i+n).toNat=j:=Option.some.inj h;exact⟨by rw[seqIndex_neg (by omega) h1,e],by omega,h1,by omega⟩
  ·rw[if_neg h1]at h;cases h
theorem Zbw {α:Type}{xs:List α}{i:Int}{v:α}(h:atI xs i=some v):∃ j,seqIndex? i xs.length=some j/\xs[j]?=some v/\j<xs.length /\ -(xs.length:Int)<=i/\i<xs.length:=by
 unfold atI at h
 cases e:ixN xs.length i with
 |none=>rw[e]at h;cases h
 |some j=>
  rw[e]at h;obtain⟨h1,h2,h3,h4⟩:=Zbv e;exact⟨j,h1,h,h2,h3,h4⟩
def Z2q (b:Expr):Prop:=∀ o i,subscripted b false o i=operate [o,i] (getItem o i)
def IxR (X:Cx)(r:R2):Prop:=
 ∀(value slice:Expr)(pins:L2.AO)(s:Shared)(σ:St)(H:Hp)(x y:V)(v u:Value)(Q:VK),Inv X pins σ H s->RelV x v->RelV y u->r x y H Q ->
  subscripted slice false v u=operate [v,u] (getItem v u)->wpAny (model X.prog X.w) X.A (subscriptTail value slice v u) (EP X pins σ Q) X.xe s
def MtR (X:Cx)(id:String)(r:V->List V->Hp->VK->Prop):Prop:=
 ∀(pins:L2.AO)(s:Shared)(σ:St)(H:Hp)(x:V)(xs:List V)(v:Value)(us:List Value)(Q:VK),Inv X pins σ H s->RelV x v->Vals xs us->r x xs H Q ->
  wpAny (model X.prog X.w) X.A (call (.builtin id) (v::us)) (EP X pins σ Q) X.xe s
section
variable {X:Cx}{a b:Expr}{ta tb:TE}{pos:Pos}
theorem IxR.or {r r':R2}(h:IxR X r)(h':IxR X r'):IxR X (fun x y H Q=>r x y H Q\/r' x y H Q):=by
 intro value slice pins s σ H x y v u Q I rx ry q hs;rcases q with q|q
 ·exact h value slice pins s σ H x y v u Q I rx ry q hs
 ·exact h' value slice pins s σ H x y v u Q I rx ry q hs
theorem Za6 {r:R2}(hr:IxR X r)(ha:PE X a ta)(hb:PE X b tb)(hs:Z2q b):PE X (.Subscript a b pos) (tOp r ta tb):=by
 intro pins s σ H Q I h;exact Subscript_ (binT ha hb I h fun v u s2 x y H2 I2 rx ry q=>hr a b pins s2 σ H2 x y v u Q I2 rx ry q (hs _ _))
def rIxL (K:L2.Fg):R2:=fun x y H Q=>∃ p xs i v,x=.ref p/\y=.int i/\SqL K H p xs/\atI xs i=some v/\Q v H
def rIxT (K:L2.Fg):R2:=fun x y H Q=>∃ p xs i v,x=.ref p/\y=.int i/\SqT K H p xs/\atI xs i=some v/\Q v H
theorem Zjl:IxR X (rIxL X.K):=by
 intro value slice pins s σ H x y v u Q I rx ry h hs;obtain⟨p,xs,i,z,rfl,rfl,hq,he,q⟩:=h
 cases rx;obtain⟨t,rfl⟩:=ry;obtain⟨its,r,pl,hz⟩:=I.list hq;obtain⟨j,h1,h2,h3,h4,h5⟩:=Zbw he;obtain⟨w,ew,rw'⟩:=r.get h2;have hl:=r.length;have hn:=Z8q;have fin:EP X pins σ Q w s:=⟨z,H,I,rw',q⟩
 by_cases h0:0<=i
 ·have hj:i.toNat=j:=by
   rw[seqIndex_of h0 h5]at h1;exact Option.some.inj h1
  exact item_listR pl.isList h0 (by omega) (by rw[hj];simpa using ew) fin hs
 ·have hj:(i+(its.toArray.size:Int)).toNat=j:=by
   rw[seqIndex_neg (by omega) h4]at h1;rw[List.size_toArray,<-hl];exact Option.some.inj h1
  exact subscriptTail_builtinR (x:=w) pl.isList.typeIs slot_list_getitem.lookup
   (wpAny_getItem_list_neg (Q:=fun r s'=>r=w/\EP X pins σ Q r s') pl.isList (by omega) (by rw[List.size_toArray]<;>omega) (by omega) (by rw[hj];simpa using ew) ⟨rfl,fin⟩) hs
theorem Znl:IxR X (rIxT X.K):=by
 intro value slice pins s σ H x y v u Q I rx ry h hs;obtain⟨p,xs,i,z,rfl,rfl,hq,he,q⟩:=h
 cases rx;obtain⟨t,rfl⟩:=ry;obtain⟨its,r,pl,hz⟩:=I.tuple hq;obtain⟨j,h1,h2,h3,h4,h5⟩:=Zbw he;obtain⟨w,ew,rw'⟩:=r.get h2;have hl:=r.length;have hn:=Z8q;have fin:EP X pins σ Q w s:=⟨z,H,I,rw',q⟩
 exact subscriptTail_builtinR (x:=w) pl.typeIs slot_tuple_getitem.lookup
  (getItem_tuple (j:=j) (Q:=fun r s'=>r=w/\EP X pins σ Q r s') pl (by omega) (by omega) (by rw[List.size_toArray,<-hl];exact h1) (by simpa using ew) ⟨rfl,fin⟩) hs
theorem Za7 (its:List Value)(n j:Nat)(u:Value):Obj.mapSeq (·.setIfInBounds j u) { cls:=.type "list",data:=.seq its.toArray n }={ cls:=.type "list",data:=.seq (its.set j u).toArray n }:=by
 simp[Obj.mapSeq]
theorem Inv.lst {pins:L2.AO}{σ:St}{H:Hp}{s:Shared}{p:Addr}{xs:List V}(I:Inv X pins σ H s)(h:H p=some (.lst xs)) :
  ∃(its:List Value) (n:Nat),Vals xs its/\s.heap.get? p=some { cls:=.type "list",data:=.seq its.toArray n }/\xs.length<=sizeLine:=by
 obtain⟨z,its,n,r,e⟩:=I.hok p _ h;exact⟨its,n,r,e,z⟩
theorem Inv.lstUpd {pins:L2.AO}{σ:St}{H:Hp}{s:Shared}{p:Addr}{xs ys:List V}{its its':List Value}{n n':Nat}{f:Obj->Obj}(I:Inv X pins σ H s)(h:H p=some (.lst xs))
  (ho:s.heap.get? p=some { cls:=.type "list",data:=.seq its.toArray n })(hf:f { cls:=.type "list",data:=.seq its.toArray n }={ cls:=.type "list",data:=.seq its'.toArray n' })(r:Vals ys its')(hz:ys.length<=sizeLine) (t:Nat) :
  Inv X pins σ (upd H p (.lst ys)) { s with heap:=s.heap.update p f,toks:=t }:=by
 have e:(s.heap.update p f).get? p=some { cls:=.type "list",data:=.seq its'.toArray n' }:=by
  rw[Heap.get?_update_self f ho (by rw[hf]<;>rfl),hf]
 refine I.write (x:=p) (e:=p) (by rw[h];trivial) (.inl rfl) (fun b u hb q=>(Heap.get?_update_other _ _ (Ne.symm hb)).trans q) ⟨_,e⟩ ?_;exact⟨hz,its',n',r,e⟩
def Zjm:V->V->V->Hp->(Hp->Prop)->Prop:=fun o i v H Q=>∃ p xs k j,o=.ref p/\i=.int k/\H p=some (.lst xs)/\ixN xs.length k=some j/\Q (upd H p (.lst (xs.set j v)))
theorem Z8t:PSet X Zjm:=by
 intro pins s σ H o i v ov iv u Q I ro ri rv h;obtain⟨p,xs,k,j,rfl,rfl,hp,hj,q⟩:=h
 cases ro;obtain⟨t,rfl⟩:=ri;obtain⟨its,n,r,ho,hz⟩:=I.lst hp;obtain⟨h1,h2,h3,h4⟩:=Zbv hj;have hl:=r.length;have hn:=Z8q;have I':Inv X pins σ (upd H p (.lst (xs.set j v))) { s with heap:=s.heap.update p (Obj.mapSeq (·.setIfInBounds j u)) }:=
  I.lstUpd hp ho (Za7 its n j u) (r.set rv j) (by rw[List.length_set];exact hz) s.toks
 by_cases h0:0<=k
 ·have hk:k.toNat=j:=by
   rw[seqIndex_of h0 h4]at h1;exact Option.some.inj h1
  exact PySem.W.ki_setAt ho h0 (by omega) (by rw[List.size_toArray,<-hl];exact h4) (by rw[hk];exact⟨_,I',q⟩)
 ·have hk:(k+(its.toArray.size:Int)).toNat=j:=by
   rw[seqIndex_neg (by omega) h3]at h1;rw[List.size_toArray,<-hl];exact Option.some.inj h1
  exact PySem.W.ki_setBack ho (by omega) (by rw[List.size_toArray,<-hl];exact h3) (by omega) (by rw[hk];exact⟨_,I',q⟩)
theorem Z6c (lo hi:Option Int) (n:Nat):(sliceBounds lo hi none n).1=((HT.sIx n 0 lo:Nat):Int)/\(sliceBounds lo hi none n).2.1=((HT.sIx n n hi:Nat):Int)/\(sliceBounds lo hi none n).2.2=1:=by
 refine⟨?_,?_,rfl⟩
 ·cases lo with
  |none=>simp[sliceBounds,HT.sIx]
  |some i=>
   simp only[sliceBounds,HT.sIx,Option.getD_none,show(1:Int) > 0 by decide,if_true];by_cases h:i<0
   ·simp only[h,if_true]<;>omega
   ·simp only[h,if_false]<;>omega
 ·cases hi with
  |none=>simp[sliceBounds,HT.sIx]
  |some i=>
   simp only[sliceBounds,HT.sIx,Option.getD_none,show(1:Int) > 0 by decide,if_true];by_cases h:i<0
   ·simp only[h,if_true]<;>omega
   ·simp only[h,if_false]<;>omega
theorem Z5h (its:List Value)(lo hi:Option Int):slicePick its.toArray lo hi none=((its.drop (HT.sIx its.length 0 lo)).take (HT.sIx its.length its.length hi-HT.sIx its.length 0 lo)).toArray:=by
 obtain⟨h1,h2,h3⟩:=Z6c lo hi its.toArray.size;unfold slicePick;rw[h1,h2,h3];simp only[sliceRange_one,pick_run,List.size_toArray]<;>rfl
def rSlL (K:L2.Fg):V->Option Int->Option Int->Hp->VK->Prop:=fun x lo hi H Q=>∃ a xs,x=.ref a/\SqL K H a xs/\∀ p,H p=none->Q (.ref p) (upd H p (.lst (cutV xs lo hi)))
theorem Zjn:SlR X (rSlL X.K):=by
 intro pins s σ H x v vl vu lo hi sl Q I rx hs pl pu h;obtain⟨a,xs,rfl,hx,q⟩:=h
 cases rx;obtain⟨its,r,ht,hz⟩:=I.list hx;have hlen:=r.length;refine⟨"list",_,slot_list_getitem.lookup,ht.isList.typeIs,?_⟩;refine wpAny_getItem_list_slice ht.isList hs pl pu .none (by simp) ?_ (by rw[List.size_toArray]<;>omega);rw[Z5h,<-hlen];refine⟨.ref s.heap.objs.size,_,I.laid (t':=s.toks) (o:=.lst (cutV xs lo hi)) (fun b ob q=>Heap.get?_push_of_some _ q) (Nat.le_refl _) ?_,rfl,q _ (I.hok.fresh (Nat.le_refl _))⟩;exact⟨Nat.le_trans (Z41 xs lo hi) hz,_,0,(r.drop (HT.sIx xs.length 0 lo)).take (HT.sIx xs.length xs.length hi-HT.sIx xs.length 0 lo),Heap.get?_push_size _ rfl⟩
def Z4s:V->Bool
 |.non=>true
 |.bl _=>true
 |.int _=>true
 |.str _=>true
 |_=>false
def eqV:V->V->Bool
 |.non,.non=>true
 |.bl a,.bl b=>a==b
 |.bl a,.int b=>(if a then 1 else 0)==b
 |.int a,.bl b=>a==(if b then 1 else 0)
 |.int a,.int b=>a==b
 |.str a,.str b=>a==b
 |_,_=>false
theorem Z19 {A:Around}{s:Shared}{y x:V}{u v:Value}(ry:RelV y u)(rx:RelV x v)(fy:Z4s y=true)(fx:Z4s x=true):SeqAt.EqAt A s u v (eqV y x):=by
 cases y with
 |non=>
  cases ry
  cases x with
  |non=>cases rx;exact SeqAt.EqAt.same _
  |bl b=>cases rx;exact SeqAt.EqAt.none_bool b
  |int b=>obtain⟨t,rfl⟩:=rx;exact SeqAt.EqAt.none_int b t
  |str b=>obtain⟨t,rfl⟩:=rx;exact SeqAt.EqAt.none_str b t
  |_=>exact absurd (show false=true from fx) Bool.false_ne_true
 |bl a=>
  cases ry
  cases x with
  |non=>cases rx;exact SeqAt.EqAt.bool_none a
  |bl b=>cases rx;exact SeqAt.EqAt.bool_bool a b
  |int b=>obtain⟨t,rfl⟩:=rx;exact SeqAt.EqAt.bool_int a b t
  |str b=>obtain⟨t,rfl⟩:=rx;exact SeqAt.EqAt.bool_str a b t
  |_=>exact absurd (show false=true from fx) Bool.false_ne_true
 |int a=>
  obtain⟨t',rfl⟩:=ry
  cases x with
  |non=>cases rx;exact SeqAt.EqAt.int_none a t'
  |bl b=>cases rx;exact SeqAt.EqAt.int_bool a t' b
  |int b=>obtain⟨t,rfl⟩:=rx;exact SeqAt.EqAt.int_int a t' b t
  |str b=>obtain⟨t,rfl⟩:=rx;exact SeqAt.EqAt.int_str a t' b t
  |_=>exact absurd (show false=true from fx) Bool.false_ne_true
 |str a=>
  obtain⟨t',rfl⟩:=ry
  cases x with
  |non=>cases rx;exact SeqAt.EqAt.str_none a t'
  |bl b=>cases rx;exact SeqAt.EqAt.str_bool a t' b
  |int b=>obtain⟨t,rfl⟩:=rx;exact SeqAt.EqAt.str_int a t' b t
  |str b=>obtain⟨t,rfl⟩:=rx;exact SeqAt.EqAt.str_str a t' b t
  |_=>exact absurd (show false=true from fx) Bool.false_ne_true
 |_=>exact absurd (show false=true from fy) Bool.false_ne_true
def eqU (x:V)(u:Value):Bool:=match u with
 |.none=>eqV .non x
 |.bool b=>eqV (.bl b) x
 |.int i _=>eqV (.int i) x
 |.str z _=>eqV (.str z) x
 |_=>false
theorem Zhi {x y:V}{u:Value}(r:RelV y u)(f:Z4s y=true):eqU x u=eqV y x:=by
 cases y with
 |non=>cases r;rfl
 |bl b=>cases r;rfl
 |int i=>obtain⟨t,rfl⟩:=r;rfl
 |str z=>obtain⟨t,rfl⟩:=r;rfl
 |_=>exact absurd (show false=true from f) Bool.false_ne_true
theorem Z7u {x:V}:∀{xs:List V}{us:List Value},Vals xs us->xs.all Z4s=true->us.any (eqU x)=xs.any fun y=>eqV y x
 |_,_,.nil,_=>rfl
 |y::xs,u::us,.cons r t,f=>by
  rw[List.all_cons,Bool.and_eq_true]at f;rw[List.any_cons,List.any_cons,Zhi r f.1,Z7u t f.2]
theorem Z5i {A:Around}{s:Shared}{x:V}{v:Value}(rx:RelV x v)(fx:Z4s x=true):∀{xs:List V}{us:List Value},Vals xs us->xs.all Z4s=true->∀ u∈us,SeqAt.EqAt A s u v (eqU x u)
 |_,_,.nil,_=>fun u hu=>by cases hu
 |y::xs,u::us,.cons r t,f=>fun u' hu=>by
  rw[List.all_cons,Bool.and_eq_true]at f;rcases List.mem_cons.mp hu with rfl|hu
  ·rw[Zhi r f.1];exact Z19 r rx f.1 fx
  ·exact Z5i rx fx t f.2 u' hu
def inV (x:V)(xs:List V):Bool:=xs.any fun y=>eqV y x
def rIn (K:L2.Fg)(neg:Bool):R2:=fun x y H Q=>∃ p xs,y=.ref p/\(SqL K H p xs\/SqT K H p xs)/\Z4s x=true/\xs.all Z4s=true/\Q (.bl (if neg then !inV x xs else inV x xs)) H
theorem Z6d:OpR X (compareOp .NotIn) (rIn X.K true):=by
 intro pins s σ H x y v u Q I rx ry h;obtain⟨p,xs,rfl,hq,fx,fs,q⟩:=h
 cases ry;rcases hq with hq|hq
 ·obtain⟨its,r,pl,hz⟩:=I.list hq;refine SeqAt.notIn_listAt (eqU x) pl.isList (fun w hw=>Z5i rx fx r fs w (by simpa using hw)) ⟨.bl _,H,I,rfl,?_⟩;rw[show its.toArray.any (eqU x)=its.any (eqU x)by simp,Z7u r fs];exact q
 ·obtain⟨its,r,pl,hz⟩:=I.tuple hq;refine SeqAt.notIn_tupleAt (eqU x) pl (fun w hw=>Z5i rx fx r fs w (by simpa using hw)) ⟨.bl _,H,I,rfl,?_⟩;rw[show its.toArray.any (eqU x)=its.any (eqU x)by simp,Z7u r fs];exact q
theorem Z6e:Z10 X (.builtin "len") (fun xs H Q=>∃ p ys,xs=[.ref p]/\(SqL X.K H p ys\/SqT X.K H p ys)/\Q (.int ys.length) H):=by
 intro pins s σ H xs us Q I r h;obtain⟨p,ys,rfl,hq,q⟩:=h;obtain⟨u,rfl,rx⟩:=Z2o r
 cases rx;have hn:=Z8q;rcases hq with hq|hq
 ·obtain⟨its,r',pl,hz⟩:=I.list hq;have hlen:=r'.length;exact Calls.call_len_list pl.isList (by simp only[List.size_toArray]<;>omega) ⟨.int ys.length,H,I.tok _,⟨s.toks+1,by rw[List.size_toArray,hlen]⟩,q⟩
 ·obtain⟨its,r',pl,hz⟩:=I.tuple hq;have hlen:=r'.length;exact len_tuple pl (by simp only[List.size_toArray]<;>omega) ⟨.int ys.length,H,I.tok _,⟨s.toks+1,by rw[List.size_toArray,hlen]⟩,q⟩
theorem Z6f:Z10 X (.type "list") (fun xs H Q=>∃ p ys,xs=[.ref p]/\(SqL X.K H p ys\/SqT X.K H p ys)/\∀ l,H l=none->Q (.ref l) (upd H l (.lst ys))):=by
 intro pins s σ H xs us Q I r h;obtain⟨p,ys,rfl,hq,q⟩:=h;obtain⟨u,rfl,rx⟩:=Z2o r
 cases rx;have fin:∀(its:List Value),Vals ys its->ys.length<=sizeLine->∀(h':Heap)(c':Nat),(∀ b o',s.heap.get? b=some o'->h'.get? b=some o') ->
   h'.get? s.heap.objs.size=some { cls:=.type "list",dict:=none,data:=.seq its.toArray c',slots:=#[] }->EP X pins σ Q (.ref s.heap.objs.size) { s with heap:=h' }:=fun its r' hz h' c' kp e=>
  ⟨.ref s.heap.objs.size,_,I.laid (t':=s.toks) kp (Nat.le_refl _) (show Z0s X.prog X.w _ h' _ (.lst ys)from⟨hz,its,c',r',e⟩),rfl,q _ (I.hok.fresh (Nat.le_refl _))⟩
 rcases hq with hq|hq
 ·obtain⟨its,r',pl,hz⟩:=I.list hq;have hlen:=r'.length;obtain⟨o,ho,hc,n,hd⟩:=pl.isList;exact call_list_seq p (.inl rfl) ho hc hd (fun h' c' kp e=>fin its r' hz h' c' kp e) (by simp only[List.size_toArray]<;>omega)
 ·obtain⟨its,r',pl,hz⟩:=I.tuple hq;have hlen:=r'.length;obtain⟨o,ho,hc,n,hd⟩:=pl;exact call_list_seq p (.inr rfl) ho hc hd (fun h' c' kp e=>fin its r' hz h' c' kp e) (by simp only[List.size_toArray]<;>omega)
theorem Z5j:Z10 X (.type "tuple") (fun xs H Q=>∃ p ys,xs=[.ref p]/\((SqL X.K H p ys/\∀ l,H l=none->Q (.ref l) (upd H l (.tup ys)))\/(SqT X.K H p ys/\Q (.ref p) H))):=by
 intro pins s σ H xs us Q I r h;obtain⟨p,ys,rfl,h⟩:=h;obtain⟨u,rfl,rx⟩:=Z2o r
 cases rx;rcases h with ⟨hq,q⟩|⟨hq,q⟩
 ·obtain⟨its,r',pl,hz⟩:=I.list hq;have hlen:=r'.length;refine call_tuple_list pl.isList (fun h' kp=>?_) (by simp only[List.size_toArray]<;>omega);have I1:Inv X pins σ H { s with heap:=h' }:=I.kept (t':=s.toks) kp;have I2:Inv X pins σ (upd H h'.objs.size (.tup ys)) { s with heap:=h'.push { cls:=.type "tuple",data:=.seq its.toArray } }:=
   I1.laid (t':=s.toks) (fun b o e=>Heap.get?_push_of_some _ e) (Nat.le_refl _) (show Z0s X.prog X.w _ _ _ (.tup ys)from⟨hz,its,r',IsTup.new _ _⟩)
  exact⟨.ref h'.objs.size,_,I2,rfl,q _ (I1.hok.fresh (Nat.le_refl _))⟩
 ·obtain⟨its,r',pl,hz⟩:=I.tuple hq;exact call_tuple_same pl ⟨.ref p,H,I,rfl,q⟩
def tyV (K:L2.Fg)(T:String)(x:V)(H:Hp):Prop:=match x with
 |.str _=>T = "str"
 |.int _=>T = "int"
 |.ref p=>(T = "list" /\ ∃ xs,SqL K H p xs)\/(T = "tuple" /\ ∃ o,K.lookup p=some o/\o.cls=.type "tuple" /\ o.dict=none) \/
   (T = "dict" /\ ((∃ kvs,H p=some (.dK kvs))\/∃ kvs,H p=some (.dT kvs)))\/(T = "set" /\ ∃ S n,H p=some (.set S n))
 |_=>False
theorem Znm {pins:L2.AO}{σ:St}{H:Hp}{s:Shared}{T:String}{x:V}{v:Value}(I:Inv X pins σ H s)(r:RelV x v)(ty:tyV X.K T x H) :
  s.TypeIs v T/\∀ a,v=.ref a->∃ ob,s.heap.get? a=some ob/\ob.dict=none:=by
 cases x with
 |str z=>
  obtain⟨t,rfl⟩:=r
  cases(show T = "str" from ty);exact⟨typeIs_str s z t,fun ψ e=>nomatch e⟩
 |int i=>
  obtain⟨t,rfl⟩:=r
  cases(show T = "int" from ty);exact⟨typeIs_int s i t,fun ψ e=>nomatch e⟩
 |ref p=>
  cases r;rcases ty with ⟨rfl,xs,hq⟩|⟨rfl,o,hk,hc,hd⟩|⟨rfl,hk⟩|⟨rfl,S,n,hk⟩
  ·obtain⟨its,_,pl,_⟩:=I.list hq;refine⟨pl.isList.typeIs,fun a e=>?_⟩
   cases e;obtain⟨o,n,e,c,hd,_⟩:=pl;exact⟨o,e,hd⟩
  ·refine⟨⟨o,I.kIn p o hk,hc⟩,fun a e=>?_⟩
   cases e;exact⟨o,I.kIn _ o hk,hd⟩
  ·have z:∃ o,s.heap.get? p=some o/\o.ExactDict:=by
    rcases hk with ⟨kvs,hk⟩|⟨kvs,hk⟩
    ·obtain⟨_,_,_,_,o,_,_,e,ex,_⟩:=I.hok p _ hk;exact⟨o,e,ex⟩
    ·obtain⟨_,_,_,_,o,_,_,e,ex,_⟩:=I.hok p _ hk;exact⟨o,e,ex⟩
   obtain⟨o,e,ex⟩:=z;refine⟨⟨o,e,ex.1⟩,fun a e2=>?_⟩
   cases e2;exact⟨o,e,ex.2.1⟩
  ·obtain⟨o,_,_,_,e,ex,_⟩:=I.hok p _ hk;refine⟨⟨o,e,ex.1⟩,fun a e2=>?_⟩
   cases e2;exact⟨o,e,ex.2.1⟩
 |_=>exact False.elim ty
def tBM (K:L2.Fg)(T:String)(r:V->List V->Hp->VK->Prop)(to:TE)(t:TA):TE:=fun σ H Q=>to σ H fun x H1=>tyV K T x H1/\t σ H1 fun xs H2=>r x xs H2 Q
variable {o e:Expr}{es:List Expr}{to:TE}{t:TA}{name:Str}{apos cpos:Pos}{T id:String}{r:V->List V->Hp->VK->Prop}
theorem Zjo (pa:PlainAttrs T)(slot:Slot T name id)(hty:typeOf (.builtin id)=pure (.type "method_descriptor"))(hm:MtR X id r)(ho:PE X o to)(ha:PA X (e::es) t)
  (hbase:attributeBase o name X.env (eval o X.env)=eval o X.env:=by rfl)
  (hfew:((backTo cpos (starEach (e::es) X.env)).all (fun x => !x.1)&&(backToKw cpos (keywordEach [] X.env)).all (fun x=>x.1.isSome)
   && decide ((e::es).length+([]:List Keyword).length+(if ([]:List Keyword).isEmpty then 0 else 1)<30))=true:=by rfl)
  (hline:(apos.endLine==cpos.line)=true:=by rfl)(hs:starEach (e::es) X.env=(false,eval e X.env)::starEach es X.env:=by rfl)(hplain:(backTo cpos (starEach es X.env)).any (·.1)=false:=by rfl) :
  PE X (.Call (.Attribute o name apos) (e::es) [] cpos) (tBM X.K T r to t):=by
 intro pins s σ H Q I h;refine wpAny_Call_method_late hbase hfew hline rfl (thn (ho pins s σ H _ I h) fun v s1 ⟨x,H1,I1,r1,ty,q1⟩=>?_);obtain⟨h1,h2⟩:=Znm I1 r1 ty;refine⟨T,id,pa,slot,hty,h1,h2,?_⟩;have hA:=ha cpos pins s1 σ H1 _ I1 q1;rw[hs]at hA ⊢;refine Calls.callWith_builtin (by show(false||(backTo cpos (starEach es X.env)).any (·.1))=false;rw[hplain]<;>rfl) (Calls.evalArgs_plain ?_);exact thn hA fun us s2 ⟨vs,H2,I2,r2,q2⟩=>hm pins s2 σ H2 x vs v us Q I2 r1 r2 q2
end
def MtM (X:Cx)(id:String)(r:V->List V->Hp->VK->Prop):Prop:=
 ∀(pins:L2.AO)(s:Shared)(σ:St)(H:Hp)(x:V)(xs:List V)(v:Value)(us:List Value)(Q:VK),Inv X pins σ H s->RelV x v->Vals xs us->r x xs H Q ->
  wpAny (model X.prog X.w) X.A (call (.builtin id) (v::us)) (EP X pins σ Q) X.xe s
theorem Vals.one:∀{x:V}{us:List Value},Vals [x] us->∃ u,us=[u]/\RelV x u
 |_,_,.cons r .nil=>⟨_,rfl,r⟩
theorem Vals.two:∀{x y:V}{us:List Value},Vals [x,y] us->∃ u v,us=[u,v]/\RelV x u/\RelV y v
 |_,_,_,.cons r (.cons q .nil)=>⟨_,_,rfl,r,q⟩
theorem Vals.zero:∀{us:List Value},Vals [] us->us=[]
 |_,.nil=>rfl
theorem Vals.eraseIdx:∀{xs:List V}{us:List Value} (i:Nat),Vals xs us->Vals (xs.eraseIdx i) (us.eraseIdx i)
 |_,_,_,.nil=>.nil
 |_,_,0,.cons _ t=>t
 |_,_,i+1,.cons r t=>.cons r (Vals.eraseIdx i t)
theorem Vals.reverse {xs:List V}{us:List Value}(h:Vals xs us):Vals xs.reverse us.reverse:=by
 induction h with
 |nil=>exact .nil
 |cons r t ih=>rw[List.reverse_cons,List.reverse_cons];exact Vals.append ih (.cons r .nil)
theorem Vals.rep {xs:List V}{us:List Value}(h:Vals xs us):∀ k:Nat,Vals (List.replicate k xs).flatten (List.replicate k us).flatten
 |0=>.nil
 |k+1=>by
  rw[List.replicate_succ,List.replicate_succ,List.flatten_cons,List.flatten_cons];exact Vals.append h (Vals.rep h k)
theorem Z6g {α:Type}:∀(l:List α) (i:Nat),(l.eraseIdx i).length<=l.length
 |[],_=>Nat.le_refl _
 |_::_,0=>Nat.le_succ _
 |_::r,i+1=>Nat.succ_le_succ (Z6g r i)
theorem Z6h (its:List Value):∀(k:Nat)(acc:List Value),
  List.foldl (fun x1 x2=>x1++x2) acc.toArray (List.replicate k its.toArray)=(acc++(List.replicate k its).flatten).toArray
 |0,acc=>by simp
 |k+1,acc=>by
  have e:acc.toArray++its.toArray=(acc++its).toArray:=by simp
  have e2:(acc++its)++(List.replicate k its).flatten=acc++(List.replicate (k+1) its).flatten:=by
   rw[List.replicate_succ,List.flatten_cons,List.append_assoc]
  rw[<-e2,<-Z6h its k (acc++its),<-e,List.replicate_succ,List.foldl_cons]
section
variable {X:Cx}{pins:L2.AO}{σ:St}{H:Hp}{s:Shared}{l:Addr}{xs ys:List V}
theorem Inv.lset {its its':List Value}{n:Nat}{f:Array Value->Array Value}{t':Nat}(I:Inv X pins σ H s)(hH:H l=some (.lst xs))
  (e:s.heap.get? l=some { cls:=.type "list",data:=.seq its.toArray n })(hf:f its.toArray=its'.toArray)(hv:Vals ys its')(hz:ys.length<=sizeLine) :
  Inv X pins σ (upd H l (.lst ys)) { s with heap:=s.heap.update l (Obj.mapSeq f),toks:=t' }:=by
 have q:=PySem.IsL.update e f;rw[hf]at q;refine I.write (x:=l) (e:=l) (by rw[hH];exact trivial) (.inl rfl) (fun b' u hb hu=>(Heap.get?_update_other s.heap (Obj.mapSeq f) (Ne.symm hb)).trans hu) ⟨_,q⟩ ?_;exact⟨hz,its',_,hv,q⟩
theorem Inv.lnew {its:List Value}{t':Nat}(I:Inv X pins σ H s)(hv:Vals ys its)(hz:ys.length<=sizeLine) :
  Inv X pins σ (upd H s.heap.objs.size (.lst ys)) { s with heap:=s.heap.push { cls:=.type "list",data:=.seq its.toArray },toks:=t' }:=
 I.laid (fun ψ ψ q=>Heap.get?_push_of_some _ q) (Nat.le_refl _) ⟨hz,its,0,hv,Heap.get?_push_size _ rfl⟩
theorem Inv.fresh (I:Inv X pins σ H s):H s.heap.objs.size=none:=I.hok.fresh (Nat.le_refl _)
theorem Inv.lstM (I:Inv X pins σ H s)(hH:H l=some (.lst xs)):xs.length<=sizeLine/\∃(its:List Value) (n:Nat),Vals xs its/\xs.length=its.length/\s.heap.get? l=some { cls:=.type "list",data:=.seq its.toArray n }:=by
 obtain⟨z,its,n,r,e⟩:=I.hok l _ hH;exact⟨z,its,n,r,r.length,e⟩
theorem Z8u {n:Nat}(h:n<=sizeLine):Builtin.List.listTooLong n=false:=by
 unfold Builtin.List.listTooLong;exact decide_eq_false (by omega)
end
section
variable {X:Cx}
def Z7v:V->List V->Hp->VK->Prop:=fun x vs H Q=>∃ l xs y,x=.ref l/\vs=[y]/\H l=some (.lst xs)/\xs.length<sizeLine/\Q .non (upd H l (.lst (xs++[y])))
theorem Z6i:MtM X "list.append" Z7v:=by
 intro pins s σ H x vs v us Q I rx rv h;obtain⟨l,xs,y,rfl,rfl,hH,hz,q⟩:=h
 cases rx;obtain⟨u,rfl,ru⟩:=rv.one;obtain⟨z,its,n,r,hl,e⟩:=I.lstM hH;refine call_meets F.slot_list_append ⟨_,e,rfl⟩ F.entry_list_append (F.args_list_append_2 _ _) (PySem.list_append l its.toArray n u (by rw[List.size_toArray];omega)) ⟨e,?_⟩;refine⟨.non,_,I.lset (its':=its++[u]) hH e (by simp) (r.append (.cons ru .nil)) ?_,rfl,q⟩;rw[List.length_append,List.length_singleton];omega
def Zjp:V->List V->Hp->VK->Prop:=fun x vs H Q=>∃ l b xs zs,x=.ref l/\vs=[.ref b]/\H l=some (.lst xs)/\H b=some (.lst zs)/\xs.length+zs.length<=sizeLine/\Q .non (upd H l (.lst (xs++zs)))
theorem Znn:MtM X "list.extend" Zjp:=by
 intro pins s σ H x vs v us Q I rx rv h;obtain⟨l,b,xs,zs,rfl,rfl,hH,hB,hz,q⟩:=h
 cases rx;obtain⟨u,rfl,ru⟩:=rv.one
 cases ru;obtain⟨z,its,n,r,hl,e⟩:=I.lstM hH;obtain⟨z2,its2,n2,r2,hl2,e2⟩:=I.lstM hB;have hsz:its.toArray.size+its2.toArray.size<=sizeLine:=by rw[List.size_toArray,List.size_toArray];omega
 have hlong:¬ (!its.toArray.isEmpty&&Builtin.List.listTooLong (its.toArray.size+its2.toArray.size))=true:=by
  rw[Z8u hsz,Bool.and_false];exact Bool.false_ne_true
 refine call_meets F.slot_list_extend ⟨_,e,rfl⟩ F.entry_list_extend (F.args_list_extend_2 _ _)
  (AutoSeq1.list_extend_list_list_0 l its.toArray n b its2.toArray n2 hlong (by rw[List.size_toArray];omega) (by omega)) ⟨e,e2,?_⟩
 refine⟨.non,_,I.lset (its':=its++its2) hH e (by simp) (r.append r2) ?_,rfl,q⟩;rw[List.length_append];omega
def Zhj:V->List V->Hp->VK->Prop:=fun x vs H Q=>∃ l xs i k y,x=.ref l/\vs=[.int i]/\H l=some (.lst xs) /\ -(2 ^ 63)<=i/\i<2 ^ 63/\seqIndex? i xs.length=some k/\xs[k]?=some y/\Q y (upd H l (.lst (xs.eraseIdx k)))
theorem Zfb:MtM X "list.pop" Zhj:=by
 intro pins s σ H x vs v us Q I rx rv h;obtain⟨l,xs,i,k,y,rfl,rfl,hH,h1,h2,hk,hy,q⟩:=h
 cases rx;obtain⟨u,rfl,ru⟩:=rv.one;obtain⟨t,rfl⟩:=ru;obtain⟨z,its,n,r,hl,e⟩:=I.lstM hH;obtain⟨w,hw,rw'⟩:=r.get hy;refine call_meets F.slot_list_pop ⟨_,e,rfl⟩ F.entry_list_pop (F.args_list_pop_2 _ _)
  (MeetsSeq.list_pop_at l its.toArray n i t k w (fitsIndex_both h1 h2) (by rw[List.size_toArray,<-hl];exact hk) (by rw[<-Array.getElem?_toList];exact hw) (by rw[List.size_toArray];omega)) ⟨e,?_⟩
 refine⟨y,_,I.lset (its':=its.eraseIdx k) hH e ?_ (r.eraseIdx k) ?_,rw',q⟩
 ·show its.toArray.eraseIdxIfInBounds k=(its.eraseIdx k).toArray;rw[List.eraseIdxIfInBounds_toArray]
 ·have:=Z6g xs k
  omega
def rCat:R2:=fun x y H Q=>∃ l b xs zs,x=.ref l/\y=.ref b/\H l=some (.lst xs)/\H b=some (.lst zs)/\xs.length+zs.length<=sizeLine/\∀ p,H p=none->Q (.ref p) (upd H p (.lst (xs++zs)))
theorem Zno:OpR X (binaryOp .Add) rCat:=by
 intro pins s σ H x y v u Q I rx ry h;obtain⟨l,b,xs,zs,rfl,rfl,hH,hB,hz,q⟩:=h
 cases rx
 cases ry;obtain⟨z,its,n,r,hl,e⟩:=I.lstM hH;obtain⟨z2,its2,n2,r2,hl2,e2⟩:=I.lstM hB;refine PySem.P.add_list e e2 ?_ (by rw[List.size_toArray,List.size_toArray];omega);have ea:its.toArray++its2.toArray=(its++its2).toArray:=by simp
 rw[ea];exact⟨.ref _,_,I.lnew (t':=s.toks) (r.append r2) (by rw[List.length_append];omega),rfl,q _ I.fresh⟩
def rRep:R2:=fun x y H Q=>∃ l k xs,x=.ref l/\y=.int k/\H l=some (.lst xs) /\ -(2 ^ 63)<=k/\k<2 ^ 63/\xs.length*k.toNat<=sizeLine /\
 ∀ p,H p=none->Q (.ref p) (upd H p (.lst (List.replicate k.toNat xs).flatten))
theorem Zjq {α:Type}(xs:List α) (k:Nat):(List.replicate k xs).flatten.length=k*xs.length:=by
 induction k with
 |zero=>simp
 |succ k ih=>rw[List.replicate_succ,List.flatten_cons,List.length_append,ih,Nat.succ_mul,Nat.add_comm]
theorem Znp:OpR X (binaryOp .Mult) rRep:=by
 intro pins s σ H x y v u Q I rx ry h;obtain⟨l,k,xs,rfl,rfl,hH,h1,h2,hz,q⟩:=h
 cases rx;obtain⟨t,rfl⟩:=ry;obtain⟨z,its,n,r,hl,e⟩:=I.lstM hH;have hlen:its.toArray.size*k.toNat<=sizeLine:=by rw[List.size_toArray,<-hl];exact hz
 have hcap:¬ its.toArray.size*k.toNat > (2 ^ 63-1)/8:=by
  have:(sizeLine:Nat)<=(2 ^ 63-1)/8:=by decide
  omega
 have hfit:¬ (!Builtin.List.listFitsIndex k)=true:=by
  rw[fitsIndex_both h1 h2];exact Bool.false_ne_true
 have hlong:¬ Builtin.List.listTooLong (its.toArray.size*k.toNat)=true:=by
  rw[Z8u hlen];exact Bool.false_ne_true
 have hnew:List.foldl (fun x1 x2=>x1++x2) #[] (List.replicate (if its.toArray.isEmpty=true then 0 else k.toNat) its.toArray)=(List.replicate k.toNat its).flatten.toArray:=by
  have f0:∀ m:Nat,List.foldl (fun x1 x2=>x1++x2) #[] (List.replicate m its.toArray)=(List.replicate m its).flatten.toArray:=fun m=>by
   have:=Z6h its m []
   rw[List.nil_append]at this;exact this
  rw[f0]
  cases its with
  |nil=>simp
  |cons a r'=>rw[if_neg (by simp)]
 refine wpAny_binaryOp_repeat_ref (T := "list") (U := "int") (by decide) ⟨_,e,rfl⟩ (fun s'=>typeIs_int s' k t) noFill_list_mul F.fills_int_mul F.slot_int_rmul repeat_list F.slot_int_index.lookup
  (call_meets F.slot_int_rmul (typeIs_int s k t) F.entry_int_rmul (F.args_int_rmul_2 _ _) (int___rmul___int_list k t l its.toArray n)
   ⟨e,rfl,⟨_,e,rfl⟩,call_meets F.slot_list_mul ⟨_,e,rfl⟩ F.entry_list_mul (F.args_list_mul_2 _ _) (AutoListH.list___mul___list_int_3 l its.toArray n k t hfit hcap hlong) ⟨e,?_⟩⟩)
 rw[hnew];exact⟨.ref _,_,I.lnew (t':=s.toks) (r.rep k.toNat) (by rw[Zjq,Nat.mul_comm];exact hz),rfl,q _ I.fresh⟩
end
end L2
namespace Att
open PySem PySem.W PySem.Calls PyProof.Rows
theorem Z42 {P:Params}{h:Heap}:∀(ns:List Int)(vs:List Value),WellAll P h vs (ns.map WData.int)->IntsAre vs ns:=by
 intro ns;induction ns with
 |nil=>
  intro vs w;rw[List.map_nil]at w
  cases w;exact .nil
 |cons n ns ih=>
  intro vs w;rw[List.map_cons]at w
  cases w with
  |cons a b=>
   cases a;exact .cons _ _ (ih _ b)
theorem Zbx {l:OpenLaw}{n:Nat}(hn:l.most=some n){P:Params}{h:Heap}{args:List WData}{vals:List Value}
  (hpre:l.row.toRowW.claim.pre args=true)(hwl:WellAll P h vals args) :
  ∃ a vs ns,vals=[Value.ref a]/\args=[WData.list (ns.map WData.int)]/\h.get? a=some { cls:=.type "list",data:=.seq vs.toArray }/\IntsAre vs ns/\ns.length<=n:=by
 have hsh:WShape.hasAll [] args [.list .int]=true:=(pre_splitW hpre).1;have hc:l.pre.holds [] { args:=args }=true:=(pre_splitW hpre).2;obtain⟨d,r,rfl,h1,h2⟩:=hasAllW_cons hsh;obtain rfl:=hasAllW_nil h2;obtain⟨xs,rfl,h3⟩:=hasW_list h1;obtain⟨ns,rfl⟩:=items_int h3;have hlen:ns.length<=n:=by
  unfold OpenLaw.pre at hc;have h4:(WTm.not (.lt (.lit (.int (n:Int))) (.len (.arg 0)))).holds [] { args:=[.list (ns.map .int)] }=true:=by
   have h4:=(holds_andW hc).1;rw[hn]at h4;exact h4
  have h5:=condW_of h4 (w_not (w_lt w_lit (w_len_list (w_arg rfl))));rw[List.length_map]at h5;refine Nat.le_of_not_lt fun q=>?_;have q':(n:Int)<((ns.length:Nat):Int):=by omega
  first
   |(rw[decide_eq_true q']at h5;exact absurd h5 (by decide))
   |(simp at h5;omega)
 cases hwl with
 |cons w1 w2=>
  cases w2
  cases w1 with
  |list ho hall=>exact⟨_,_,ns,rfl,rfl,ho,Z42 ns _ hall,hlen⟩
theorem Zby (l:OpenLaw)(args:List WData):l.row.toRowW.claim.post args (.bool true) args=true:=
 postW_of (r:=l.row.toRowW) (X:=(true==true))
  (show WShape.has [] (.bool true) .bool=true by first|rfl|decide|simp[WShape.has,WShape.arms,WShape.armsAll])
  (show(WTm.eq .res (.lit (.bool true))).value [] { args:=args,res:=some (.bool true),after:=args }=some (.bool (true==true))from w_eq_bool (w_res rfl) w_lit) rfl
theorem attach_call {l:OpenLaw}{n:Nat}{q:Program}{loose:List Str}{XP:(Str->Option Value)->Heap->Prop}{YP:World->Heap->Prop}{d:DefRec}
  (hn:l.most=some n)(hdf:d.params.defaults=[])
  (call:∀ (w:World)(s₀ s₁:Shared)(mg mb:L2.SV)(fa:Addr)(o:Obj)(pm cd doc:Value)(a:Addr)(vs:List Value)(ns:List Int),
   Ground q loose [] XP w s₀ mg mb s₁.heap->YP w s₁.heap ->
   s₁.heap.get? fa=some o->o.data=.func (docDef d.name d.params d.body d.scope pm cd doc)->s₁.heap.CodeRec cd d.name->mg d.name=some (.ref fa) ->
   s₁.heap.get? a=some { cls:=.type "list",data:=.seq vs.toArray }->IntsAre vs ns->ns.length<=n->s₁.gens=#[] ->
   codeAny (model l.prog w) callerA (.call (.ref fa) ⟨[.ref a],[]⟩) (fun r s'=>r=.ok (.ret (.bool true))/\OldK s₁.heap s'.heap/\s'.os=s₁.os/\AllBare s'.gens) s₁) :
  WalkO q loose XP YP l.row.toRowW d [] (fun f vs=>PySem.call f vs):=by
 intro w s₀ s₁ mg mb G Y fa o pm cd doc dV kV ho hd hcd hD hmg hg args vals as hpre hlay hrd hwl hlo;obtain rfl:dV=.none:=Dflts.none hD hdf;obtain rfl:kV=.none:=Dflts.noKw hD;obtain⟨a,vs,ns,rfl,rfl,hobj,hints,hlen⟩:=Zbx hn hpre hwl;refine enter_call (codeAny_mono (call w s₀ s₁ mg mb fa o pm cd doc a vs ns G Y ho (fd_plain hd) hcd hmg hobj hints hlen hg) fun r s' hq=>?_);obtain⟨rfl,h2,h3,h4⟩:=hq;exact⟨.inl ⟨.bool true,.bool true,[],rfl,fun ψ=>rfl,.bool true,Zby l _,fun ψ=>⟨List.Pairwise.nil,fun ψ hm=>(nomatch hm)⟩⟩,h2,h3,h4⟩
end Att
namespace L2
open PySem PySem.Spec PyProof.Rows
theorem Z6j:∀{vs:List Value}{ns:List Int},IntsAre vs ns->Vals (ns.map V.int) vs
 |_,_,.nil=>.nil
 |_,_,.cons n t h=>.cons ⟨t,rfl⟩ (Z6j h)
def Only (H:Hp):Prop:=∀ b,H b=none\/∃ o xs,H b=some (.frz o (.lst xs))
theorem Zfc {P:Program}{w:World}{K:L2.Fg}{mg mb:L2.SV}{CX:CXT}{k:Nat}{fa a:Addr}{fd:FuncData}{x:Str}{sp:Sp}{s₁:Shared}{vs:List Value}{ns:List Int}
  (KX:K.In s₁.heap)(hns:s₁.heap.Ns mainGlobals mg)(hb:s₁.heap.Ns builtinsNs mb)(hbb:∀ x:Str,x ≠ "__name__" -> mb x=bootBuiltins x)(hlim:s₁.heap.NoLimit)(hg:s₁.gens=#[])
  (ha:s₁.heap.get? a=some { cls:=.type "list",data:=.seq vs.toArray })(hi:IntsAre vs ns)(hl:ns.length<=sizeLine)(hr:Room k callerA)
  (F:∀ base:Heap,K.In base->base.Ns mainGlobals mg->FnOk P w K mg base CX k fa fd [x] sp)(hbind:∀(s:Shared)(u:Value),BindsTo s fd ⟨[u],[]⟩ [(x,u)])
  (hsp:∀ H:Hp,Only H->SqL K H a (ns.map V.int)->sp [.ref a] H (fun v ψ=>v=.bl true) fun ψ ψ ψ=>False)
  (hCX:∀ H e s',CX [] H s₁ (fun ψ ψ ψ=>False) e s'->False) :
  codeAny (model P w) callerA (.call (.ref fa) ⟨[.ref a],[]⟩) (fun r s'=>r=.ok (.ret (.bool true))/\OldK s₁.heap s'.heap/\s'.os=s₁.os/\AllBare s'.gens) s₁:=by
 have rv:=Z6j hi;have lenV:=hi.length;have core:∀ H:Hp,Only H->SqL K H a (ns.map V.int)->HOk P w H s₁.heap->(∀ b,H b≠none->b=a)->(H a≠none->K.lookup a=none) ->
   codeAny (model P w) callerA (.call (.ref fa) ⟨[.ref a],[]⟩) (fun r s'=>r=.ok (.ret (.bool true))/\OldK s₁.heap s'.heap/\s'.os=s₁.os/\AllBare s'.gens) s₁:=by
  intro H hO hS hok hA hK;have base_of:∀{b:Addr}{o:Obj},s₁.heap.get? b=some o->H b=none->(hidT s₁.heap H).get? b=some o:=fun e n=>Zf2 e n;have noA:∀{b:Addr}{o:Obj}{es:Array DictEntry}{ep:Nat},s₁.heap.get? b=some o->o.data=.dict es ep->H b=none:=fun{b o es ep} e d=>by
   cases q:H b with
   |none=>rfl
   |some u=>
    have e':b=a:=hA b (by rw[q];simp);subst e';rw[ha]at e;cases e;have d':Data.seq vs.toArray _=Data.dict es ep:=d
    cases d'
  have nsK:∀{b:Addr}{m:L2.SV},s₁.heap.Ns b m->(hidT s₁.heap H).Ns b m:=fun{b m} ⟨o,es,ep,e,d,r⟩=>⟨o,es,ep,base_of e (noA e d),d,r⟩
  have hKb:K.In (hidT s₁.heap H):=fun b o e=>base_of (KX b o e) (by
   cases q:H b with
   |none=>rfl
   |some u=>
    have e':b=a:=hA b (by rw[q];simp);subst e';rw[hK (by rw[q];simp)]at e;cases e)
  have hM:Mod K mg (hidT s₁.heap H):=⟨hKb,nsK hns,⟨mb,nsK hb,hbb⟩,let ⟨mc,h1,h2⟩:=hlim;⟨mc,nsK h1,h2⟩⟩
  have e0:Env0 P w K mg (hidT s₁.heap H) callerA [] s₁ H:=⟨rfl,hM,fun b o e=>Zj6 e,Nat.le_of_eq (Zbe _ _),trivial,fun b hb=>absurd (show b∈([]:List Addr)from hb) (by simp),hok,.of_eq hg⟩
  refine codeAny_mono ((F _ hKb (nsK hns)).run callerA [] s₁ H ⟨[.ref a],[]⟩ [.ref a] [.ref a] _ _ hr e0 (hbind s₁ (.ref a)) (.cons rfl .nil) (hsp H hO hS)) fun r s' h=>?_
  cases r with
  |error e=>exact(hCX H e s' h).elim
  |ok fl=>
   cases fl with
   |next=>exact False.elim h
   |brk=>exact False.elim h
   |cont=>exact False.elim h
   |ret u=>
    obtain⟨v,H',os,bare,un,hok',r',q⟩:=h;have q':v=.bl true:=q;subst q';obtain rfl:u=Value.bool true:=r';refine⟨rfl,OldK.of_keep fun b o e=>?_,os,bare⟩
    cases q:H b with
    |none=>exact un.keep b o e q (by intro z;exact absurd (show b∈([]:List Addr)from z) (by simp)) (by simp)
    |some u=>
     rcases hO b with z|⟨ob,xs,z⟩
     ·rw[q]at z;cases z
     ·have z2:=un.frzs b ob _ z;obtain⟨e1,_⟩:=hok b _ z;obtain⟨e2,_⟩:=hok' b _ z2;rw[e]at e1;cases e1;exact e2
 cases hk:K.lookup a with
 |some o=>
  have e:=KX a o hk;rw[ha]at e
  cases e;refine core (fun ψ=>none) (fun ψ=>.inl rfl) (.inr ⟨_,vs.toArray,_,hk,rfl,rfl,rfl,by rw[List.size_toArray,lenV];exact hl,by simpa using rv⟩) (fun b u z=>by have z':(none:Option HO)=some u:=z;cases z') (fun b z=>absurd rfl z) fun z=>absurd rfl z
 |none=>
  refine core (fun b=>if b=a then some (.frz { cls:=.type "list",data:=.seq vs.toArray } (.lst (ns.map V.int)))else none) (fun b=>?_) (.inl (.inr ⟨{ cls:=.type "list",data:=.seq vs.toArray },if_pos rfl⟩)) (fun b u z=>?_) (fun b z=>?_) fun ψ=>hk
  ·by_cases hb:b=a
   ·exact .inr ⟨_,_,if_pos hb⟩
   ·exact .inl (if_neg hb)
  ·by_cases hb:b=a
   ·have z':=(if_pos hb).symm.trans z
    cases z';subst hb;exact⟨ha,by rw[List.length_map];exact hl,vs,_,rv,ha⟩
   ·have z':=(if_neg hb).symm.trans z
    cases z'
  ·by_cases hb:b=a
   ·exact hb
   ·exact absurd (if_neg hb) z
theorem Zjr {l:PySem.W.OpenLaw}{n k:Nat}{q:Program}{loose:List Str}{XP:(Str->Option Value)->Heap->Prop}{YP:World->Heap->Prop}{d:DefRec}{K:Params->PySem.W.Frag}{CX:World->CXT}{sp:World->Sp}{x:Str}
  (hn:l.most=some n)(hn2:n<=sizeLine)(hdf:d.params.defaults=[])(hr:Room k callerA)
  (hY:∀(w:World)(h:Heap),YP w h->(K w.params).In h)
  (F:∀ (w:World)(mg:L2.SV)(fa:Addr)(h:Heap),(K w.params).In h->h.Ns mainGlobals mg->mg d.name=some (.ref fa) ->
   ∃ fd:FuncData,(∀(s:Shared)(u:Value),BindsTo s fd ⟨[u],[]⟩ [(x,u)]) /\
    ∀ base:Heap,(K w.params).In base->base.Ns mainGlobals mg->FnOk l.prog w (K w.params) mg base (CX w) k fa fd [x] (sp w))
  (hsp:∀(w:World)(H:Hp)(a:Addr)(ns:List Int),ns.length<=n->Only H->SqL (K w.params) H a (ns.map V.int)->sp w [.ref a] H (fun v ψ=>v=.bl true) fun ψ ψ ψ=>False)
  (hCX:∀(w:World)(H:Hp)(s:Shared)(e:Value)(s':Shared),CX w [] H s (fun ψ ψ ψ=>False) e s'->False) :
  PySem.W.WalkO q loose XP YP l.row.toRowW d [] (fun f vs=>PySem.call f vs):=by
 refine Att.attach_call hn hdf fun w s₀ s₁ mg mb fa o pm cd doc a vs ns G Y ho hd hcd hmg hobj hints hlen hg=>?_;have KX:=hY w _ Y;obtain⟨fd,hb,hF⟩:=F w mg fa _ KX G.T.g hmg;exact Zfc KX G.T.g G.T.b G.T.builtins G.T.nolimit hg hobj hints (Nat.le_trans hlen hn2) hr hF hb (fun H hO hS=>hsp w H a ns hlen hO hS) fun H e s'=>hCX w H s₁ e s'
theorem Zfd {l:PySem.W.OpenLaw}{n k:Nat}{q:Program}{loose:List Str}{XP:(Str->Option Value)->Heap->Prop}{YP:World->Heap->Prop}{d:DefRec}{K:Params->PySem.W.Frag}{CX:CXT}{sp:PySem.W.Frag->Sp}{x:Str}
  (hn:l.most=some n)(hn2:n<=sizeLine)(hdf:d.params.defaults=[])(hr:Room k callerA)
  (hY:∀(w:World)(h:Heap),YP w h->(K w.params).In h)
  (F:∀ (w:World)(mg:L2.SV)(fa:Addr)(h:Heap),(K w.params).In h->h.Ns mainGlobals mg->mg d.name=some (.ref fa) ->
   ∃ fd:FuncData,(∀(s:Shared)(u:Value),BindsTo s fd ⟨[u],[]⟩ [(x,u)]) /\
    ∀ base:Heap,(K w.params).In base->base.Ns mainGlobals mg->FnOk l.prog w (K w.params) mg base CX k fa fd [x] (sp (K w.params)))
  (hsp:∀(K:L2.Fg)(H:Hp)(a:Addr)(ns:List Int),ns.length<=n->Only H->SqL K H a (ns.map V.int)->sp K [.ref a] H (fun v ψ=>v=.bl true) fun ψ ψ ψ=>False)
  (hCX:∀(H:Hp)(s:Shared)(e:Value)(s':Shared),CX [] H s (fun ψ ψ ψ=>False) e s'->False) :
  PySem.W.WalkO q loose XP YP l.row.toRowW d [] (fun f vs=>PySem.call f vs):=
 Zjr (K:=K) (CX:=fun ψ=>CX) (sp:=fun w=>sp (K w.params)) hn hn2 hdf hr hY F (fun w H a ns h1 h2 h3=>hsp (K w.params) H a ns h1 h2 h3) fun ψ H s e s'=>hCX H s e s'
def Z0h (s:Stmt):Arguments:=match s with
 |.FunctionDef _ a _ _ _ _ _ _ _ _=>a
 |_=>{ posonlyargs:=[],args:=[],vararg:=none,kwonlyargs:=[],kw_defaults:=[],kwarg:=none,defaults:=[] }
def Z0e (s:Stmt):List Stmt:=match s with
 |.FunctionDef _ _ b _ _ _ _ _ _ _=>b
 |_=>[]
def Z02 (s:Stmt):Scope:=match s with
 |.FunctionDef _ _ _ _ _ _ sc _ _ _=>sc
 |_=>{ kind:=.function,names:=[],isGenerator:=false,isCoroutine:=false }
abbrev CX0:CXT:=fun ψ ψ ψ ψ ψ ψ=>False
abbrev E0:XK:=fun ψ ψ ψ=>False
structure Fun (K:L2.Fg)(x qual:Str)(st:Stmt)(f:Addr)(fd:FuncData):Prop where
 ex:∃(oc:Value)(od:Option Addr)(kV doc pm:Value)(an:Option Addr)(cdv ct:Value)(osl:Array (Option Value)),
  fd=PySem.W.fnOf x qual (Z0h st) (Z0e st) (Z02 st) .none kV doc pm an cdv ct/\K.lookup f=some ⟨oc,od,.func fd,osl⟩/\PySem.W.codeIn K cdv qual=true
 kp:PySem.W.keepIn K (.ref f)=true
section
variable {P:Program}{w:World}{K:L2.Fg}{mg:L2.SV}{base:Heap}
theorem Fun.ok {x qual:Str}{st:Stmt}{f:Addr}{fd:FuncData}{N ps:List Str}{k:Nat}{sp:Sp}(F:Fun K x qual st f fd)(S:Z0f N ps (Z02 st))(len:∀ vs H Q E,sp vs H Q E->vs.length=ps.length)
  (hbody:∀ (cdv:Value)(A:Around)(outer:List Env)(s:Shared)(H:Hp)(vs:List V)(Q:VK)(E:XK),Room k (A.deeper (envOfC qual (Z02 st) s.heap.objs.size f cdv))->sp vs H Q E ->
   ∃ t,PSs (cxOf CX0 P w K mg base N qual (Z02 st) f cdv A outer s H E).nox (Z0e st) t/\t { nx:=fun ψ H'=>Q .non H',rt:=Q } (start N vs) H):FnOk P w K mg base CX0 (k+1) f fd ps sp:=by
 obtain⟨oc,od,kV,doc,pm,an,cdv,ct,osl,rfl,lk,hcd⟩:=F.ex;refine Zng lk hcd S len fun A outer s H vs Q E hr hsp=>?_;obtain⟨t,h,q⟩:=hbody cdv A outer s H vs Q E hr hsp;exact⟨t,h.nox,q⟩
theorem Fun.binds {x qual:Str}{st:Stmt}{f:Addr}{fd:FuncData}{ps:List Str}(F:Fun K x qual st f fd)
  (h:∀(kV doc pm:Value)(an:Option Addr)(cdv ct:Value)(us:List Value),us.length=ps.length->bindArgs (PySem.W.fnOf x qual (Z0h st) (Z0e st) (Z02 st) .none kV doc pm an cdv ct) ⟨us,[]⟩=pure (ps.zip us)):Za2 K fd ps []:=by
 obtain⟨oc,od,kV,doc,pm,an,cdv,ct,osl,rfl,lk,hcd⟩:=F.ex;exact .all (h kV doc pm an cdv ct)
theorem Z0t {x qual:Str}{st:Stmt}{f:Addr}{oc:Value}{od an:Option Addr}{osl:Array (Option Value)}{kV doc pm cdv ct:Value}(l:K.lookup f=some ⟨oc,od,.func (PySem.W.fnOf x qual (Z0h st) (Z0e st) (Z02 st) .none kV doc pm an cdv ct),osl⟩)
  (c:PySem.W.codeIn K cdv qual=true)(k:PySem.W.keepIn K (.ref f)=true):Fun K x qual st f (PySem.W.fnOf x qual (Z0h st) (Z0e st) (Z02 st) .none kV doc pm an cdv ct):=⟨⟨oc,od,kV,doc,pm,an,cdv,ct,osl,rfl,l,c⟩,k⟩
end
def Same (H H':Hp):Prop:=∀ b o,H b=some o->H' b=some o
theorem Same.refl (H:Hp):Same H H:=fun ψ ψ h=>h
theorem Same.trans {H H1 H2:Hp}(a:Same H H1)(b:Same H1 H2):Same H H2:=fun c o h=>b c o (a c o h)
theorem Same.free {H H':Hp}(e:Same H H'){l:Addr}(h:H' l=Option.none):H l=Option.none:=by
 cases q:H l with
 |none=>rfl
 |some o=>
  rw[e l o q]at h
  cases h
theorem Same.seq {K:L2.Fg}{H H':Hp}{a:Addr}{xs:List V}(e:Same H H')(h:SqL K H a xs):SqL K H' a xs:=by
 rcases h with (h|⟨o,h⟩)|h
 ·exact .inl (.inl (e _ _ h))
 ·exact .inl (.inr ⟨o,e _ _ h⟩)
 ·exact .inr h
theorem Z6k {prog:Program}{w:World}{A:Around}{R:Result->Shared->Prop}{s:Shared}{elt target iter:Expr}{ifs:List Expr}{scope:Scope}{pos:Pos}{it acc:Value}{env:Env}(I:Nat->Shared->Prop)
  (turn:∀ n s,I n s->wpAny (model prog w) A (pyNext it) (fun r s₁=>match r with
   |none=>R (.ok .next) s₁
   | some v=>wpAny (model prog w) A (letOwnedTupleGo target it v) (fun ψ s₁'=>wpAny (model prog w) A (assign target env v) (fun ψ s₂ =>
     wpAny (model prog w) A (forIn ifs true fun c r=>if r=true then do let ok <- isTrue c env (eval c env);pure (ForInStep.yield ok)else pure (ForInStep.yield r)) (fun ok s₃ =>
      if ok=true then wpAny (model prog w) A (eval elt env) (fun x s₄ =>
       wpAny (model prog w) A (call (.builtin "list.append") [acc,x]) (fun ψ s₅=>∃ m,m<n/\I m s₅) (fun ψ ψ=>False) s₄) (fun ψ ψ=>False) s₃
      else ∃ m,m<n/\I m s₃) (fun ψ ψ=>False) s₂) (fun ψ ψ=>False) s₁') (fun ψ ψ=>False) s₁) (fun ψ ψ=>False) s)
  (n:Nat)(h:I n s):codeAny (model prog w) A (.compLoop (.ListComp elt [⟨target,iter,ifs,0⟩] scope pos) 0 it acc env) R s:=by
 refine codeAny_loop rfl I (fun n s hI=>?_) n h;show wpAny _ A ((compTurn (.ListComp elt [⟨target,iter,ifs,0⟩] scope pos) 0 it acc env).onRaise (fun x=>do noteFrame x env;theTreesLotGoes x)) _ _ s;refine wpAny_noted (wpAny_noRaise ?_);rw[compTurn_list];refine wpAny_bind (wpAny_standAt (wpAny_bind (thn (turn n s hI) fun r s₁ h₁=>?_)))
 cases r with
 |none=>exact wpAny_pure h₁
 |some v=>
  refine wpAny_bind (thn h₁ fun ψ s₁' h₁'=>?_);refine wpAny_bind (thn h₁' fun ψ s₂ h₂=>wpAny_bind (thn h₂ fun ok s₃ h₃=>?_))
  cases ok with
  |false=>exact wpAny_pure ⟨rfl,h₃⟩
  |true=>exact wpAny_bind (wpAny_bind (thn h₃ fun x s₄ h₄=>wpAny_bind (thn h₄ fun ψ s₅ h₅=>wpAny_pure (wpAny_pure ⟨rfl,h₅⟩))))
theorem Inv.adopt {X:Cx}{pins:L2.AO}{σ:St}{H:Hp}{s:Shared}{d:Addr}{o:HO}(I:Inv X pins σ H s)(f:FpOk X pins H d)(new:Z0s X.prog X.w (upd H d o) s.heap d o):Inv X pins σ (upd H d o) s:=by
 obtain⟨f0,f1,f2,f3,f4,f5⟩:=f;have nd:∀ b u,H b=some u->b≠d:=fun b u e z=>by rw[z,f0]at e;cases e
 refine I.step (h':=s.heap) (g':=s.gens) (d':=s.drawn) (t':=s.toks) (ch:=[d]) (fun b hb=>?_) (fun b u ψ ψ ψ e ψ=>e) (fun b u ψ ψ ψ e ψ=>⟨u.slots,e⟩) (fun b u hc e n=>?_) (fun b u ψ e=>⟨u,e⟩)
  (fun b xs e=>by rw[Z06 (nd b _ e)];exact e) (fun b u v e=>by rw[Z06 (nd b _ e)];exact e) (fun b ps e=>⟨#[],by rw[Z06 (nd b _ e),e];simp⟩) (fun m hm=>hm) (fun b u e=>?_) I.bare
 ·have z:b=d:=by simpa using hb
  subst z;exact⟨f3,f1,f4,f5⟩
 ·rw[Z06 (fun z=>hc (by simp[z]))];exact n
 ·by_cases hb:b=d
  ·subst hb;rw[Z05]at e;cases e;exact new
  ·rw[Z06 hb]at e;exact(I.hok b u e).stay (fun ψ ψ ψ q=>q) (fun c q=>by rw[Z06 (nd c _ q)];exact q) fun c xs q=>by rw[Z06 (nd c _ q)];exact q
inductive Caps (X:Cx)(sc:Scope)(cl:List (Str×Addr)):List Nat->List Str->Prop
 |nil:Caps X sc cl [] []
 |cons {j:Nat}{js:List Nat}{y:Str}{ys:List Str}(hN:X.N[j]?=some y)(hk:X.env.kindOf y=some .cell\/X.env.kindOf y=some .free)(hl:cl.lookup y=X.env.cells.lookup y)
   (hv:sc.names.lookup y=some .cell\/sc.names.lookup y=some .free)(r:Caps X sc cl js ys):Caps X sc cl (j::js) (y::ys)
def blk (k:Nat)(js:List Nat)(σ:St):St:=List.replicate k none++js.map fun j=>(σ[j]?).getD none
theorem Caps.get {X:Cx}{sc:Scope}{cl:List (Str×Addr)}{σ:St}:∀{js:List Nat}{ys:List Str}{i:Nat}{y:Str}{v:V},Caps X sc cl js ys->ys[i]?=some y->(js.map fun(j:Nat)=>(σ[j]?).getD none)[i]?=some (some v) ->
  ∃ j:Nat,X.N[j]?=some y/\σ[j]?=some (some v)/\(X.env.kindOf y=some .cell\/X.env.kindOf y=some .free)/\cl.lookup y=X.env.cells.lookup y/\(sc.names.lookup y=some .cell\/sc.names.lookup y=some .free)
 |_,_,_,_,_,.nil,e,_=>by simp at e
 |_,_,0,y,v,.cons (j:=j) hN hk hl hv _,e,e2=>by
  simp at e e2;subst e;refine⟨j,hN,?_,hk,hl,hv⟩
  cases q:σ[j]? with
  |none=>rw[q]at e2;simp at e2
  |some z=>rw[q]at e2;simp at e2;rw[e2]
 |_,_,i+1,y,v,.cons _ _ _ _ r,e,e2=>Caps.get (i:=i) r (by simpa using e) (by simpa using e2)
theorem Caps.len {X:Cx}{sc:Scope}{cl:List (Str×Addr)}:∀{js:List Nat}{ys:List Str},Caps X sc cl js ys->js.length=ys.length
 |_,_,.nil=>rfl
 |_,_,.cons _ _ _ _ r=>by simp[r.len]
def Z0u (X:Cx)(N:List Str)(scope:Scope)(cl:List (Str×Addr))(C:Addr)(pins:L2.AO)(fp:List Addr)(s2:Shared)(H2:Hp):Cx where
 prog:=X.prog
 w:=X.w
 K:=X.K
 mg:=X.mg
 base:=X.base
 A:=X.A
 N:=N
 s₀:=s2
 H₀:=H2
 env:=compEnvC scope cl C X.env
 outer:=X.stack
 stack:=X.stack
 ex:=fp
 fn:=fun ψ=>false
 calm:=X.calm
 pn:=X.pn++pins
 xe:=fun ψ ψ=>False
def PTs (X:Cx)(ifs:List Expr)(t:TT):Prop:=
 ∀(pins:L2.AO)(s:Shared)(σ:St)(H:Hp)(Q:Bool->Hp->Prop),Inv X pins σ H s->t σ H Q ->
  wpAny (model X.prog X.w) X.A (forIn ifs true fun c r=>if r=true then do let ok <- isTrue c X.env (eval c X.env);pure (ForInStep.yield ok)else pure (ForInStep.yield r)) (TP X pins σ Q) X.xe s
def Znq:TT:=fun ψ H Q=>Q true H
theorem Zjs {X:Cx}:PTs X [] Znq:=fun ψ ψ ψ H ψ I h=>wpAny_tests_nil ⟨H,I,h⟩
theorem Zjt {X:Cx}{c:Expr}{t:TT}(h:PT X c t):PTs X [c] t:=fun pins s σ H Q I hq=>wpAny_tests_one (h pins s σ H Q I hq)
def Zju (wi:TI) (k:Nat)(js:List Nat)(g:TG)(tc:TT)(te:TE):TE:=fun σ H Q=>wi σ H fun J H1=>∃ W:Nat->Nat->List V->Hp->Prop,(∃ m,W 0 m [] H1)/\∀ i m ys H,W i m ys H ->
 (J.stop i H/\ys.length<=sizeLine/\∀ p,H p=none->Q (.ref p) (upd H p (.lst ys))) \/
 (J.go i H/\ys.length<=sizeLine/\∀ x H',J.yld i H x H'->g x (blk k js σ) H' fun σ2 H2=>tc σ2 H2 fun b H3=>if b=true then te σ2 H3 fun v H4=>∃ m',m'<m/\W (i+1) m' (ys++[v]) H4 else ∃ m',m'<m/\W (i+1) m' ys H3)
section
variable {X:Cx}{elt tg iter:Expr}{ifs:List Expr}{scope:Scope}{pos:Pos}{cl:List (Str×Addr)}{bs caps:List Str}{js:List Nat}{wi:TI}{g:TG}{tc:TT}{te:TE}
structure Z43 (X:Cx)(scope:Scope)(cl:List (Str×Addr))(js:List Nat)(caps:List Str):Prop where
 clos:closureFor scope X.env=pure cl
 cell:∀ y∈scope.names,y.2≠.cell
 kind:scope.kind=.function
 names:∀ y∈scope.names,y.2=.local->scope.names.lookup y.1=some .local
 fr:∀ y∈scope.names,y.2=.free->(cl.lookup y.1).isSome=true
 sub:∀ y c,cl.lookup y=some c->X.env.cells.lookup y=some c
 cap:Caps X (relabel scope X.env) cl js caps
theorem Z3p {scope:Scope}{env:Env}{x:Str}{k:NameKind}(hc:∀ y∈scope.names,y.2≠.cell)(hk:k=.cell\/k=.free)(h:(relabel scope env).names.lookup x=some k):∃ y∈scope.names,y.1=x/\y.2=.free:=by
 have m:=PySem.mem_of_lookup h;obtain⟨y,hy,e⟩:=List.mem_map.mp m;obtain⟨n,k'⟩:=y;dsimp only at e;by_cases q:(k'==NameKind.free&&env.scope.kind==.function&&env.kindOf n==some .cell)=true
 ·rw[if_pos q]at e;have e1:n=x:=congrArg Prod.fst e;refine⟨(n,k'),hy,e1,?_⟩;simp only[Bool.and_eq_true,beq_iff_eq]at q;exact q.1.1
 ·rw[if_neg q]at e;have e1:n=x:=congrArg Prod.fst e;have e2:k'=k:=congrArg Prod.snd e;rcases hk with z|z
  ·exact absurd (e2.trans z) (hc (n,k') hy)
  ·exact⟨(n,k'),hy,e1,e2.trans z⟩
theorem Zbz {pins:L2.AO}{σ:St}{H2:Hp}{s2:Shared}{fp:List Addr}{C:Addr}(c:Z43 X scope cl js caps)(I2:Inv X pins σ H2 s2)(hC:s2.heap.objs.size<=C)(f2:∀ b∈fp,FpOk X pins H2 b)(ho:∀ b∈fp,∃ o,s2.heap.get? b=some o) :
  (Z0u X (bs++caps) scope cl C pins fp s2 H2).Ok:=by
 have lt:∀ b∈fp,b<C:=fun b hb=>let ⟨o,e⟩:=ho b hb;Nat.lt_of_lt_of_le (Heap.lt_size e) hC
 refine⟨I2.ok.mod,c.kind,I2.ok.glob,I2.ok.blt,hC,fun x y a h1 h2=>I2.ok.inj x y a (c.sub _ _ h1) (c.sub _ _ h2),fun x hx => ?_,fun x a h ψ=>absurd (show false=true from h) Bool.false_ne_true,I2.ok.hd,I2.ok.frames,.inl rfl,fun b hb=>⟨Nat.ne_of_lt (lt b hb),fun x a h=>(f2 b hb).2.2.2.2.1 x a (c.sub _ _ h)⟩,
  I2.bs,Nat.le_trans I2.ok.bsz I2.sz,fun b o e hb => ?_,fun b hb z => ?_,I2.stack,I2.stkFree⟩
 ·have hx':(relabel scope X.env).names.lookup x=some .cell\/(relabel scope X.env).names.lookup x=some .free:=hx;obtain⟨y,hy,e1,e2⟩: ∃ y∈scope.names,y.1=x/\y.2=.free:=by
   rcases hx' with q|q
   ·exact Z3p c.cell (.inl rfl) q
   ·exact Z3p c.cell (.inr rfl) q
  subst e1;exact Option.isSome_iff_exists.mp (c.fr y hy e2)
 ·rcases(f2 b hb).2.2.2.1 with z|z
  ·exact I2.ok.noex b o e z
  ·exact absurd (Nat.lt_of_lt_of_le (Heap.lt_size (I2.ok.bs b o e).1) z) (Nat.lt_irrefl _)
 ·have f:=f2 b hb;rcases List.mem_cons.mp (I2.stkSub b z)with q|q
  ·exact f.2.1 q
  ·exact f.2.2.1 q
theorem Z6l {pins:L2.AO}{σ:St}{H2:Hp}{s2:Shared}{fp:List Addr}{it:Addr}{tn:Nat->Heap->Prop}{J:It}{RR:Value->Addr->Result->Shared->Prop}{Z:List V->Hp->Prop}{E:L2.VSP}(hc:X.calm=true)(c:Z43 X scope cl js caps)
  (hg:∀ C pins fp s2 H2,PG (Z0u X (bs++caps) scope cl C pins fp s2 H2) tg g)(ht:∀ C pins fp s2 H2,PTs (Z0u X (bs++caps) scope cl C pins fp s2 H2) ifs tc)(he:∀ C pins fp s2 H2,PE (Z0u X (bs++caps) scope cl C pins fp s2 H2) elt te)
  (I2:Inv X pins σ H2 s2)(T:Turn X.prog X.w X.K tg J fp it tn)(st2:tn 0 s2.heap)(f2:∀ b∈fp,FpOk X pins H2 b)(W:Nat->Nat->List V->Hp->Prop){m0:Nat}(w0:W 0 m0 [] H2)
  (turn:∀ i m ys H,W i m ys H ->
   (J.stop i H/\ys.length<=sizeLine/\Z ys H) \/
   (J.go i H/\ys.length<=sizeLine/\∀ x H',J.yld i H x H'->g x (blk bs.length js σ) H' fun σ2 H2=>tc σ2 H2 fun b H3=>if b=true then te σ2 H3 fun v H4=>∃ m',m'<m/\W (i+1) m' (ys++[v]) H4 else ∃ m',m'<m/\W (i+1) m' ys H3))
  (hR:∀(D C:Addr)(s4:Shared)(H3:Hp)(ys:List V)(mC:L2.SV),Inv X pins σ (upd H3 D (.lst ys)) s4->H3 D=none->FpOk X pins (upd H3 D (.lst ys)) C->s4.heap.Ns C mC->Z ys H3->RR (.ref D) C (.ok .next) s4) :
  wpAny (model X.prog X.w) X.A (newList []) (fun acc s₃=>wpAny (model X.prog X.w) X.A (newFunctionEnv scope X.env.globals cl [] X.env.qual none .none (some X.env)) (fun cenv s₄ =>
   codeAny (model X.prog X.w) X.A (.compStart (.ListComp elt [⟨tg,iter,ifs,0⟩] scope pos) 0 (.ref it) acc { cenv with scope:=relabel scope X.env }) (RR acc cenv.locals) s₄) E s₃) E s2:=by
 refine wpAny_newObj_type (wpAny_newFunctionEnv c.cell (by intro y hy;simp at hy) (fun h₁ hns₁ hsb₁=>?_) c.kind);dsimp only at hns₁ hsb₁ ⊢;generalize hP:s2.heap.push { cls:=.type "list",dict:=none,data:=.seq ([]:List Value).toArray }=P2 at hns₁ hsb₁ ⊢;have hCs:P2.objs.size=s2.heap.objs.size+1:=by rw[<-hP,Heap.size_push]
 have hCle:s2.heap.objs.size<=P2.objs.size:=by rw[hCs];exact Nat.le_succ _
 have hDC:s2.heap.objs.size≠P2.objs.size:=by rw[hCs];exact Nat.ne_of_lt (Nat.lt_succ_self _)
 have below:∀ b,b<s2.heap.objs.size->b≠P2.objs.size:=fun b hb=>by rw[hCs];exact Nat.ne_of_lt (Nat.lt_succ_of_lt hb)
 have old:∀ b o,s2.heap.get? b=some o->h₁.get? b=some o:=fun b o e=>hsb₁.extBut b o (below b (Heap.lt_size e)) (Heap.get?_push_of_some _ (hP▸Heap.get?_push_of_some _ e));have hacc:h₁.get? s2.heap.objs.size=some { cls:=.type "list",data:=.seq ([]:List Value).toArray }:=hsb₁.extBut _ _ hDC (Heap.get?_push_of_some _ (hP▸Heap.get?_push_size _ rfl));have ob2:∀ b∈fp,∃ o,s2.heap.get? b=some o:=fun b hb=>let ⟨o,e,_⟩:=T.obj 0 _ st2 b hb;⟨o,e⟩
 have okY:=Zbz (bs:=bs) c I2 hCle f2 ob2;have fD:∀{H3:Hp},H3 s2.heap.objs.size=none->FpOk X pins H3 s2.heap.objs.size:=fun hn=>I2.fpOk (Nat.le_refl _) hn;have fC:∀{H3:Hp},H3 P2.objs.size=none->FpOk X pins H3 P2.objs.size:=fun hn=>I2.fpOk hCle hn;have stkne:∀ b,b∈frs X.stack->b<s2.heap.objs.size:=fun b hb=>by
  rcases List.mem_cons.mp (I2.stkSub b hb)with q|q
  ·rw[q];exact I2.lt
  ·obtain⟨_,o,e,_⟩:=I2.ok.funs.mem q;exact Nat.lt_of_lt_of_le (Heap.lt_size e) I2.sz
 have fpY:∀{H3:Hp}{o:Obj},(∀ b∈fp,H3 b=none)->∀ b∈fp,FpOk (Z0u X (bs++caps) scope cl P2.objs.size pins fp s2 H2) [(s2.heap.objs.size,o)] H3 b:=fun{H3 o} hn b hb=>by
  obtain⟨o',e'⟩:=ob2 b hb;have f:=f2 b hb;refine⟨hn b hb,below b (Heap.lt_size e'),okY.exfs b hb,.inl hb,fun x a h=>f.2.2.2.2.1 x a (c.sub _ _ h),fun p hp=>?_⟩;rcases List.mem_append.mp hp with z|z
  ·exact f.2.2.2.2.2 p z
  ·have z':p=(s2.heap.objs.size,o):=by simpa using z
   subst z';exact Ne.symm (Nat.ne_of_lt (Heap.lt_size e'))
 have IY:Inv (Z0u X (bs++caps) scope cl P2.objs.size pins fp s2 H2) [(s2.heap.objs.size,{ cls:=.type "list",data:=.seq ([]:List Value).toArray })] (blk bs.length js σ) H2 { s2 with heap:=h₁,toks:=s2.toks+([]:List (Str×Value)).length }:=by
  obtain⟨m,hn,hl⟩:=I2.loc;refine⟨okY,rfl,I2.bare,Un.kept old,⟨_,hns₁,fun i x v e1 e2 e3=>?_⟩,fun x a h=>?_,I2.hok.fresh hCle,fun x a h=>I2.freeC x a (c.sub _ _ h),fun p hp=>?_,I2.hok.kept old,?_⟩
  ·have hi:¬ i<bs.length:=fun hi=>by
    have e2':(List.replicate bs.length none++_)[i]?=some (some v):=e2;rw[List.getElem?_append_left (by simpa using hi),List.getElem?_replicate,if_pos hi]at e2'
    cases e2'
   have e1':(bs++caps)[i]?=some x:=e1;rw[List.getElem?_append_right (by lia)]at e1';have e2':(List.replicate bs.length none++js.map fun j=>(σ[j]?).getD none)[i]?=some (some v):=e2;rw[List.getElem?_append_right (by simpa using hi),List.length_replicate]at e2';obtain⟨j,q1,q2,q3,q4,q5⟩:=c.cap.get e1' e2';have vis:Vis X.env.scope x:=by rcases q3 with z|z;exact .inr (.inl z);exact .inr (.inr z)
   obtain⟨u,r,l⟩:=hl j x v q1 q2 vis;refine⟨u,r,.inr ⟨q5,?_⟩⟩;rcases l with ⟨z,_⟩|⟨_,a,z,z2⟩
   ·rcases q3 with y|y<;>(rw[y]at z;cases z)
   ·obtain⟨ob,eo,d⟩:=z2;exact⟨a,q4.trans z,ob,old _ _ eo,d⟩
  ·obtain⟨v,ob,eo,d⟩:=I2.cell x a (c.sub _ _ h);exact⟨v,ob,old _ _ eo,d⟩
  ·rcases List.mem_append.mp hp with z|z
   ·obtain⟨q1,q2,q3,q4,q5⟩:=I2.pin p z;refine⟨old _ _ q1,q2,below _ (Heap.lt_size q1),fun y=>?_,q5⟩;rcases List.mem_cons.mp (I2.stkSub p.1 y)with q|q
    ·exact q3 q
    ·exact q4 q
   ·have z':p=(s2.heap.objs.size,{ cls:=.type "list",data:=.seq ([]:List Value).toArray }):=by simpa using z
    subst z';refine⟨hacc,I2.hok.fresh (Nat.le_refl _),hDC,fun y=>absurd (stkne _ y) (Nat.lt_irrefl _),fun v y=>?_⟩;have y':Data.seq _ _=Data.cell v:=y
    cases y'
  ·show(List.replicate bs.length none++js.map fun j=>(σ[j]?).getD none).length=(bs++caps).length;rw[List.length_append,List.length_replicate,List.length_map,List.length_append,c.cap.len]
 have stat:∀{H3:Hp}{o:Obj},(∀ b∈fp,H3 b=none)->∀ b∈fp,FpOk (Z0u X (bs++caps) scope cl P2.objs.size pins fp s2 H2) [(s2.heap.objs.size,o)] H3 b:=fpY;have loop:codeAny (model X.prog X.w) X.A (.compLoop (.ListComp elt [⟨tg,iter,ifs,0⟩] scope pos) 0 (.ref it) (.ref s2.heap.objs.size) (compEnvC scope cl P2.objs.size X.env)) (RR (.ref s2.heap.objs.size) P2.objs.size)
   { s2 with heap:=h₁,toks:=s2.toks+([]:List (Str×Value)).length }:=by
  refine Z6k (fun n s'=>∃(i:Nat)(ys:List V)(its:List Value) (nn:Nat)(H':Hp),Inv (Z0u X (bs++caps) scope cl P2.objs.size pins fp s2 H2) [(s2.heap.objs.size,{ cls:=.type "list",data:=.seq its.toArray nn })] (blk bs.length js σ) H' s'/\Vals ys its/\tn i s'.heap/\(∀ b∈fp,H' b=none)/\W i n ys H') ?_ m0
   ⟨0,[],[],0,H2,IY,.nil,T.keep _ _ _ st2 fun b ψ o e=>old b o e,fun b hb=>(f2 b hb).1,w0⟩
  rintro n s3 ⟨i,ys,its,nn,H3,I3,rv,st3,fr3,w3⟩;rcases turn i n ys H3 w3 with ⟨stop,hz,hZ⟩|⟨go,hz,step⟩
  ·refine thn (T.done (Z0u X (bs++caps) scope cl P2.objs.size pins fp s2 H2) rfl rfl rfl hc i _ s3 _ H3 _ I3 (stat fr3) st3 stop) fun r s4 ⟨hr,I4⟩=>?_;subst hr;obtain⟨q1,q2,q3,q4,_⟩:=I4.pin (s2.heap.objs.size,{ cls:=.type "list",data:=.seq its.toArray nn }) (by simp);have JX:Inv X pins σ H3 s4:=I2.call' (ch:=fp) I4.os I4.base I4.hok I4.bare fun b hb=>let f:=f2 b hb;⟨f.2.2.2.1,f.2.1,f.2.2.2.2.1,f.2.2.2.2.2⟩
   have JD:Inv X pins σ (upd H3 s2.heap.objs.size (.lst ys)) s4:=JX.adopt (fD q2) ⟨hz,its,nn,rv,q1⟩;obtain⟨mC,hnC,_⟩:=I4.loc;exact hR _ _ s4 H3 ys mC JD q2 (fC (by rw[Z06 (Ne.symm hDC)];exact I4.free)) hnC hZ
  ·refine thn (T.item (Z0u X (bs++caps) scope cl P2.objs.size pins fp s2 H2) rfl rfl rfl hc i _ s3 _ H3 _ I3 (stat fr3) st3 go) fun r s4 ⟨u,hr,h4⟩=>?_;subst hr;refine thn h4 fun _ s5 ⟨x,H5,I5,r5,y5,st5,fr5⟩=>?_;have I5':=I5.pinned (stat fr5) (T.obj _ _ st5);refine thn (hg _ _ _ _ _ _ s5 _ H5 x u _ I5' r5 (step x H5 y5)) fun _ s6 ⟨σ6,H6,I6,q6⟩=>?_;refine thn (ht _ _ _ _ _ _ s6 σ6 H6 _ I6 q6) fun ok s7 ⟨H7,I7,q7⟩=>?_;have back:∀{σ8:St}{H8:Hp}{s8:Shared},Inv (Z0u X (bs++caps) scope cl P2.objs.size pins fp s2 H2) ([(s2.heap.objs.size,{ cls:=.type "list",data:=.seq its.toArray nn })]++Z67 fp s5.heap) σ8 H8 s8->tn (i+1) s8.heap/\∀ b∈fp,H8 b=none:=fun{σ8 H8 s8} I8=>
    ⟨T.keep _ _ _ st5 fun b hb o e=>(I8.pin (b,o) (List.mem_append_right _ (List.mem_append_right _ (Z2b hb e)))).1,fun b hb=>by
     obtain⟨o,e,d⟩:=T.obj _ _ st5 b hb;exact(I8.pin (b,o) (List.mem_append_right _ (List.mem_append_right _ (Z2b hb e)))).2.1⟩
   have base:∀{σ8:St}{H8:Hp}{s8:Shared}{o:Obj},Inv (Z0u X (bs++caps) scope cl P2.objs.size pins fp s2 H2) [(s2.heap.objs.size,o)] σ8 H8 s8->Inv (Z0u X (bs++caps) scope cl P2.objs.size pins fp s2 H2) [(s2.heap.objs.size,o)] (blk bs.length js σ) H8 s8:=fun{σ8 H8 s8 o} I8=>by
    obtain⟨mC,hnC,_⟩:=I8.loc;refine⟨I8.ok,I8.os,I8.bare,I8.base,⟨mC,hnC,fun i x v e1 e2 e3=>?_⟩,I8.cell,I8.free,I8.freeC,I8.pin,I8.hok,IY.len⟩;obtain⟨u,r,l⟩:=IY.loc.choose_spec.2 i x v e1 e2 e3;have hl0:=IY.loc.choose_spec.1;refine⟨u,r,?_⟩;rcases l with ⟨k,z⟩|⟨k,a,z,ob,eo,d⟩
    ·have hb:¬ i<bs.length:=fun hi=>by
      have e2':(List.replicate bs.length none++_)[i]?=some (some v):=e2;rw[List.getElem?_append_left (by simpa using hi),List.getElem?_replicate,if_pos hi]at e2'
      cases e2'
     have e1':(bs++caps)[i]?=some x:=e1;rw[List.getElem?_append_right (by lia)]at e1';have e2':(List.replicate bs.length none++js.map fun j=>(σ[j]?).getD none)[i]?=some (some v):=e2;rw[List.getElem?_append_right (by simpa using hb),List.length_replicate]at e2';obtain⟨j,q1,q2,q3,q4,q5⟩:=c.cap.get e1' e2';have k':(relabel scope X.env).names.lookup x=some .local:=k;rcases q5 with y|y<;>(rw[y]at k';cases k')
    ·
     obtain⟨v8,o8,e8,d8⟩:=I8.cell x a z;obtain⟨vX,oX,eX,dX⟩:=I2.cell x a (c.sub _ _ z);have h8:=I8.base.any eX (I2.freeC x a (c.sub _ _ z)) (fun hx=>(f2 a hx).2.2.2.2.1 x a (c.sub _ _ z) rfl);obtain⟨sl,h8⟩:=h8;have eo':h₁.get? a=some oX:=old _ _ eX;have eo2:h₁.get? a=some ob:=eo;rw[eo']at eo2
     cases eo2;exact .inr ⟨k,a,z,_,h8,d⟩
   cases ok with
   |false=>
    obtain⟨m',hm,w7⟩:=q7;obtain⟨st7,fr7⟩:=back I7;exact⟨m',hm,i+1,ys,its,nn,H7,base I7.unpinned,rv,st7,fr7,w7⟩
   |true=>
    refine thn (he _ _ _ _ _ _ s7 σ6 H7 _ I7 q7) fun y s8 ⟨v,H8,I8,r8,m',hm,w8⟩=>?_;obtain⟨st8,fr8⟩:=back I8;have I8':=I8.unpinned;obtain⟨q1,q2,q3,q4,_⟩:=I8'.pin (s2.heap.objs.size,{ cls:=.type "list",data:=.seq its.toArray nn }) (by simp);refine PySem.wpAny_list_append_plain (items:=its.toArray) (hsz:=by rw[List.size_toArray,<-rv.length];exact hz) ⟨_,q1⟩ fun h9 hl9 hs9=>?_;obtain⟨n9,e9⟩:=hl9;have I80:Inv (Z0u X (bs++caps) scope cl P2.objs.size pins fp s2 H2) [] σ6 H8 s8:=I8'.pins_of fun p hp=>absurd hp (by simp);have I9:Inv (Z0u X (bs++caps) scope cl P2.objs.size pins fp s2 H2) [] σ6 H8 { s8 with heap:=h9,toks:=s8.toks }:=I80.turned (it:=s2.heap.objs.size) (fun b o hb e=>(hs9.2 b hb).trans e) q2 q3 (.inr (Nat.le_refl _))
     (fun x a h z=>by
      obtain⟨v',ob,eo,_⟩:=I2.cell x a (c.sub _ _ h);exact absurd (Heap.lt_size eo) (by rw[z];exact Nat.lt_irrefl _))
     (fun p hp z=>by
      have hp':p∈X.pn++pins:=(List.mem_append.mp hp).elim (fun z=>z) fun z=>absurd z (by simp);exact absurd (Heap.lt_size (I2.pin p hp').1) (by rw[z];exact Nat.lt_irrefl _))
    have ea:its.toArray.push y=(its++[y]).toArray:=by simp
    rw[ea]at e9;have I10:Inv (Z0u X (bs++caps) scope cl P2.objs.size pins fp s2 H2) [(s2.heap.objs.size,{ cls:=.type "list",data:=.seq (its++[y]).toArray n9 })] σ6 H8 { s8 with heap:=h9 }:=I9.pins_of fun p hp=>by
     have z':p=(s2.heap.objs.size,{ cls:=.type "list",data:=.seq (its++[y]).toArray n9 }):=by simpa using hp
     subst z';refine⟨e9,q2,q3,q4,fun v' y'=>?_⟩;have y2:Data.seq _ _=Data.cell v':=y'
     cases y2
    have hDf:s2.heap.objs.size∉fp:=fun hb=>by
     obtain⟨o',e'⟩:=ob2 _ hb;exact absurd (Heap.lt_size e') (Nat.lt_irrefl _)
    exact⟨m',hm,i+1,ys++[v],its++[y],n9,H8,base I10,rv.append (.cons r8 .nil),T.keep _ _ _ st8 fun b hb o e=>(hs9.2 b (fun z=>hDf (z▸hb))).trans e,fr8,w8⟩
 exact codeAny_compStart_list loop (T.self _ 0 _ _ _ (T.keep _ _ _ st2 fun b ψ o e=>old b o e) loop)
theorem Zjv (hc:X.calm=true)(c:Z43 X scope cl js caps)(hi:PI X tg iter wi)
  (hg:∀ C pins fp s2 H2,PG (Z0u X (bs++caps) scope cl C pins fp s2 H2) tg g)(ht:∀ C pins fp s2 H2,PTs (Z0u X (bs++caps) scope cl C pins fp s2 H2) ifs tc)(he:∀ C pins fp s2 H2,PE (Z0u X (bs++caps) scope cl C pins fp s2 H2) elt te)
  (hs:∀ x,foldedSetIterable iter X.env x=pure x:=by intro ψ;rfl):PE X (.ListComp elt [⟨tg,iter,ifs,0⟩] scope pos) (Zju wi bs.length js g tc te):=by
 intro pins s σ H Q I h;rw[eval_ListComp];refine wpAny_comprehension_free (use:=none) rfl hs c.clos c.kind c.names (thn (hi pins s σ H _ I h) fun v s1 h1=>thn h1 fun itv s2 h2=>?_);obtain⟨it,fp,tn,J,H2,e,I2,T,st2,f2,W,⟨m0,w0⟩,turn⟩:=h2;subst e;refine Z6l (RR:=fun acc C=>compPost (model X.prog X.w) X.A X.xe none (EP X pins σ Q) acc C) (Z:=fun ys H=>∀ p,H p=none->Q (.ref p) (upd H p (.lst ys))) hc c hg ht he I2 T st2 f2 W w0 turn fun D C s4 H3 ys mC J4 hD fC hnC hZ=>?_;refine⟨mC,hnC,fun h' hs'=>⟨.ref D,upd H3 D (.lst ys),?_,rfl,hZ D hD⟩⟩;exact J4.turned (t':=s4.toks) (it:=C) (fun b o hb e=>(hs'.2 b hb).trans e) fC.1 fC.2.1 fC.2.2.2.1 fC.2.2.2.2.1 fC.2.2.2.2.2
theorem Zjw {i:Nat}{y:Str}{py spos:Pos}(hsw:swapsWith (.ListComp elt [⟨tg,iter,ifs,0⟩] scope pos) (some (.Name y py)) spos.line X.env=pure true)(hN:X.N.Nodup)(hy:X.N[i]?=some y)(hl:X.env.scope.names.lookup y=some .local)(hc:X.calm=true)(c:Z43 X scope cl js caps)(hi:PI X tg iter wi)
  (hg:∀ C pins fp s2 H2,PG (Z0u X (bs++caps) scope cl C pins fp s2 H2) tg g)(ht:∀ C pins fp s2 H2,PTs (Z0u X (bs++caps) scope cl C pins fp s2 H2) ifs tc)(he:∀ C pins fp s2 H2,PE (Z0u X (bs++caps) scope cl C pins fp s2 H2) elt te)
  (hs:∀ x,foldedSetIterable iter X.env x=pure x:=by intro ψ;rfl):PS X (.Assign [.Name y py] (.ListComp elt [⟨tg,iter,ifs,0⟩] scope pos) spos) (tAsg (Zju wi bs.length js g tc te) (Z7t i)):=by
 intro pins s σ H D I h;rw[exec_Assign_Name_used _ _ _ _ hsw];refine wpAny_bind (wpAny_standAt (wpAny_bind ?_));show wpAny _ X.A (do let _ <- comprehension (.ListComp elt [⟨tg,iter,ifs,0⟩] scope pos) scope X.env _ (newList []) false (eval iter X.env) (some (assign (.Name y py) X.env))) _ _ s;refine wpAny_bind (thn (wpAny_comprehension_free (use:=some (assign (.Name y py) X.env)) (Q:=fun ψ s'=>SP X pins D .next s') rfl hs c.clos c.kind c.names
  (thn (hi pins s σ H _ I h) fun xv s1 h1=>thn h1 fun itv s2 h2 => ?_)) fun ψ s' hq=>wpAny_pure (wpAny_pure hq))
 obtain⟨it,fp,tn,J,H2,e,I2,T,st2,f2,W,⟨m0,w0⟩,turn⟩:=h2;subst e;refine Z6l (RR:=fun acc C=>compPost (model X.prog X.w) X.A X.xe (some (assign (.Name y py) X.env)) (fun ψ s'=>SP X pins D .next s') acc C) (Z:=fun ys H=>∀ p,H p=none->D.nx (σ.set i (some (.ref p))) (upd H p (.lst ys))) hc c hg ht he I2 T st2 f2 W w0 turn fun d C s4 H3 ys mC J4 hD fC hnC hZ=>?_;show wpAny _ X.A (assign (.Name y py) X.env (.ref d)) _ _ s4;refine wpAny_assign_Name (Z66 J4 hN hy (.inl hl) (v:=.ref d) rfl (fun s5 J5 ⟨a,hsb,ha⟩=>?_) (.inr hl));have hCa:C≠a:=by
  rcases ha with z|z
  ·rw[z];exact fC.2.1
  ·exact fun q=>fC.2.2.2.2.1 _ _ z q.symm
 refine⟨mC,hnC.sameBut hsb hCa,fun h' hs'=>⟨_,_,J5.turned (t':=s5.toks) (it:=C) (fun b o hb e=>(hs'.2 b hb).trans e) fC.1 fC.2.1 fC.2.2.2.1 fC.2.2.2.2.1 fC.2.2.2.2.2,hZ d hD⟩⟩
end
section
variable {X:Cx}
def Zjx (i j:Int):Prop:=0<j/\j.natAbs<2 ^ 9000
theorem Z6m {n:Nat}(h0:0<n)(h:n<2 ^ 9000):n.log2<9000:=(Nat.log2_lt (Nat.ne_of_gt h0)).mpr h
theorem Zfe:OpR X (binaryOp .FloorDiv) (rI Zjx fun i j=>.int (i/j)):=opI fun i j ψ ψ ψ ψ ψ hc q=>by
 have h1:(0:Int)<j:=hc.1;exact floordiv_int (by lia) (by rw[Int.fdiv_eq_ediv_of_nonneg i (by lia)];exact q) (.inl (PyProof.noPylong_of_log2 (Z6m (by lia) hc.2)))
theorem Z51 {i:Int}(h:i.natAbs<2 ^ 9000):Builtin.Int.intBits i<=2 ^ 20:=by
 unfold Builtin.Int.intBits;split
 ·exact Nat.zero_le _
 ·have h2:i.natAbs.log2<9000:=by
   rcases Nat.eq_zero_or_pos i.natAbs with h0|hp
   ·rw[h0];decide
   ·exact Z6m hp h
  have e:(2:Nat) ^ 20=1048576:=by decide
  lia
def Zc0 (i j:Int):Prop:=(-(2 ^ 64)<i/\i<2 ^ 64)\/(-(2 ^ 64)<j/\j<2 ^ 64)\/(i.natAbs<2 ^ 9000/\j.natAbs<2 ^ 9000)
theorem Zc0.ok {i j:Int}(h:Zc0 i j):IntMulOk i j:=by
 rcases h with ⟨h1,h2⟩|⟨h1,h2⟩|⟨h1,h2⟩
 ·exact .of_left (intBits_le_64 h1 h2)
 ·exact .of_right (intBits_le_64 h1 h2)
 ·exact .of_bits (Z51 h1) (Z51 h2)
theorem Zjy:OpR X (binaryOp .Mult) (rI Zc0 fun i j=>.int (i*j)):=opI fun ψ ψ ψ ψ ψ ψ ψ hc q=>mul_int q hc.ok
end
inductive D where
 |non|bl (b:Bool)|int (i:Int)|str (x:Str)|tup (xs:List D)
mutual
def DV (K:L2.Fg)(H:Hp):D->V->Prop
 |.non,v=>v=.non
 |.bl b,v=>v=.bl b
 |.int i,v=>v=.int i
 |.str x,v=>v=.str x
 |.tup ds,v=>∃ a xs,v=.ref a/\SqT K H a xs/\DVs K H ds xs
def DVs (K:L2.Fg)(H:Hp):List D->List V->Prop
 |[],vs=>vs=[]
 |d::ds,vs=>∃ v r,vs=v::r/\DV K H d v/\DVs K H ds r
end
mutual
def D.eq:D->D->Bool
 |.non,.non=>true
 |.bl a,.bl b=>a==b
 |.bl a,.int b=>(if a then 1 else 0)==b
 |.int a,.bl b=>a==(if b then 1 else 0)
 |.int a,.int b=>a==b
 |.str a,.str b=>a==b
 |.tup xs,.tup ys=>D.eqs xs ys
 |_,_=>false
def D.eqs:List D->List D->Bool
 |[],[]=>true
 |x::xs,y::ys=>D.eq x y&&D.eqs xs ys
 |_,_=>false
end
mutual
def D.depth:D->Nat
 |.tup xs=>D.depths xs+1
 |_=>0
def D.depths:List D->Nat
 |[]=>0
 |x::xs=>max (D.depth x) (D.depths xs)
end
theorem DVs.length {K:L2.Fg}{H:Hp}:∀{ds:List D}{vs:List V},DVs K H ds vs->ds.length=vs.length
 |[],vs,h=>by rw[DVs]at h;subst h;rfl
 |d::ds,vs,h=>by
  rw[DVs]at h;obtain⟨v,r,rfl,_,h2⟩:=h;simp[DVs.length h2]
theorem DVs.get {K:L2.Fg}{H:Hp}:∀{ds:List D}{vs:List V}{j:Nat}{d:D},DVs K H ds vs->ds[j]?=some d->∃ v,vs[j]?=some v/\DV K H d v
 |[],vs,j,d,h,e=>by simp at e
 |d'::ds,vs,j,d,h,e=>by
  rw[DVs]at h;obtain⟨v,r,rfl,h1,h2⟩:=h
  cases j with
  |zero=>simp at e;subst e;exact⟨v,rfl,h1⟩
  |succ j=>
   obtain⟨v',e',h'⟩:=DVs.get (j:=j) h2 (by simpa using e);exact⟨v',by simpa using e',h'⟩
theorem Zff (n:Nat)(e:Nat->Bool):(List.range (n+1)).all e=(e 0&&(List.range n).all fun j=>e (j+1)):=by
 rw[List.range_succ_eq_map,List.all_cons,List.all_map];rfl
theorem Z39:∀(xs ys:List D),D.eqs xs ys=((List.range (min xs.length ys.length)).all (fun j=>D.eq (xs.getD j .non) (ys.getD j .non))&&xs.length==ys.length)
 |[],[]=>by simp[D.eqs]
 |[],y::ys=>by simp[D.eqs]
 |x::xs,[]=>by simp[D.eqs]
 |x::xs,y::ys=>by
  rw[D.eqs,Z39 xs ys];have e:min (x::xs).length (y::ys).length=min xs.length ys.length+1:=by simp only[List.length_cons];lia
  rw[e,Zff];simp[Bool.and_assoc]
section
variable {X:Cx}{pins:L2.AO}{σ:St}{H:Hp}{s:Shared}
theorem Z1e (A:Around):A.in1.units=A.units+1:=rfl
mutual
theorem Zc1 (I:Inv X pins σ H s):∀(d e:D)(x:V),DV X.K H d x->DV X.K H e x->D.eq d e=true
 |.non,e,x,hx,hy=>by
  rw[DV]at hx;subst hx
  cases e with
  |tup b=>rw[DV]at hy;obtain⟨p,ys,z,_⟩:=hy;cases z
  |_=>rw[DV]at hy;first|rfl|cases hy
 |.bl a,e,x,hx,hy=>by
  rw[DV]at hx;subst hx
  cases e with
  |tup b=>rw[DV]at hy;obtain⟨p,ys,z,_⟩:=hy;cases z
  |bl b=>rw[DV]at hy;cases hy;rw[D.eq];exact beq_self_eq_true _
  |_=>rw[DV]at hy;cases hy
 |.int a,e,x,hx,hy=>by
  rw[DV]at hx;subst hx
  cases e with
  |tup b=>rw[DV]at hy;obtain⟨p,ys,z,_⟩:=hy;cases z
  |int b=>rw[DV]at hy;cases hy;rw[D.eq];exact beq_self_eq_true _
  |_=>rw[DV]at hy;cases hy
 |.str a,e,x,hx,hy=>by
  rw[DV]at hx;subst hx
  cases e with
  |tup b=>rw[DV]at hy;obtain⟨p,ys,z,_⟩:=hy;cases z
  |str b=>rw[DV]at hy;cases hy;rw[D.eq];exact beq_self_eq_true _
  |_=>rw[DV]at hy;cases hy
 |.tup ds,e,x,hx,hy=>by
  rw[DV]at hx;obtain⟨a,xs,rfl,ha,hxs⟩:=hx
  cases e with
  |tup es=>
   rw[DV]at hy;obtain⟨b,ys,z,hb,hys⟩:=hy
   cases z;have e1:=I.tuple_inj ha hb;subst e1;rw[D.eq];exact Zc2 I ds es xs hxs hys
  |_=>rw[DV]at hy;cases hy
theorem Zc2 (I:Inv X pins σ H s):∀(ds es:List D)(xs:List V),DVs X.K H ds xs->DVs X.K H es xs->D.eqs ds es=true
 |[],es,xs,hx,hy=>by
  rw[DVs]at hx;subst hx
  cases es with
  |nil=>rfl
  |cons e es=>rw[DVs]at hy;obtain⟨v,r,z,_⟩:=hy;cases z
 |d::ds,es,xs,hx,hy=>by
  rw[DVs]at hx;obtain⟨x,xr,rfl,hx1,hx2⟩:=hx
  cases es with
  |nil=>rw[DVs]at hy;cases hy
  |cons e es=>
   rw[DVs]at hy;obtain⟨y,yr,z,hy1,hy2⟩:=hy
   cases z;rw[D.eqs,Zc1 I d e x hx1 hy1,Zc2 I ds es xr hx2 hy2];rfl
end
mutual
theorem Zc3 (I:Inv X pins σ H s):∀(d e:D)(A:Around)(x y:V)(u v:Value),RelV x u->RelV y v->DV X.K H d x->DV X.K H e y->A.units+d.depth<cLine->SeqAt.EqAt A s u v (D.eq d e)
 |.non,e,A,x,y,u,v,rx,ry,hx,hy,hu=>by
  rw[DV]at hx;subst hx
  cases e with
  |non=>rw[DV]at hy;subst hy;exact Z19 rx ry rfl rfl
  |bl b=>rw[DV]at hy;subst hy;exact Z19 rx ry rfl rfl
  |int b=>rw[DV]at hy;subst hy;exact Z19 rx ry rfl rfl
  |str b=>rw[DV]at hy;subst hy;exact Z19 rx ry rfl rfl
  |tup b=>
   rw[DV]at hy;obtain⟨p,ys,rfl,hp,_⟩:=hy
   cases rx;cases ry;obtain⟨its,_,pt,_⟩:=I.tuple hp;exact SeqAt.EqAt.none_tuple (show s.heap.IsTuple p its.toArray from pt) (by lia)
 |.bl a,e,A,x,y,u,v,rx,ry,hx,hy,hu=>by
  rw[DV]at hx;subst hx
  cases e with
  |non=>rw[DV]at hy;subst hy;exact Z19 rx ry rfl rfl
  |bl b=>rw[DV]at hy;subst hy;exact Z19 rx ry rfl rfl
  |int b=>rw[DV]at hy;subst hy;exact Z19 rx ry rfl rfl
  |str b=>rw[DV]at hy;subst hy;exact Z19 rx ry rfl rfl
  |tup b=>
   rw[DV]at hy;obtain⟨p,ys,rfl,hp,_⟩:=hy
   cases rx;cases ry;obtain⟨its,_,pt,_⟩:=I.tuple hp;exact SeqAt.EqAt.bool_tuple a (show s.heap.IsTuple p its.toArray from pt) (by lia)
 |.int a,e,A,x,y,u,v,rx,ry,hx,hy,hu=>by
  rw[DV]at hx;subst hx
  cases e with
  |non=>rw[DV]at hy;subst hy;exact Z19 rx ry rfl rfl
  |bl b=>rw[DV]at hy;subst hy;exact Z19 rx ry rfl rfl
  |int b=>rw[DV]at hy;subst hy;exact Z19 rx ry rfl rfl
  |str b=>rw[DV]at hy;subst hy;exact Z19 rx ry rfl rfl
  |tup b=>
   rw[DV]at hy;obtain⟨p,ys,rfl,hp,_⟩:=hy;obtain⟨t,rfl⟩:=rx
   cases ry;obtain⟨its,_,pt,_⟩:=I.tuple hp;exact SeqAt.EqAt.int_tuple a t (show s.heap.IsTuple p its.toArray from pt) (by lia)
 |.str a,e,A,x,y,u,v,rx,ry,hx,hy,hu=>by
  rw[DV]at hx;subst hx
  cases e with
  |non=>rw[DV]at hy;subst hy;exact Z19 rx ry rfl rfl
  |bl b=>rw[DV]at hy;subst hy;exact Z19 rx ry rfl rfl
  |int b=>rw[DV]at hy;subst hy;exact Z19 rx ry rfl rfl
  |str b=>rw[DV]at hy;subst hy;exact Z19 rx ry rfl rfl
  |tup b=>
   rw[DV]at hy;obtain⟨p,ys,rfl,hp,_⟩:=hy;obtain⟨t,rfl⟩:=rx
   cases ry;obtain⟨its,_,pt,_⟩:=I.tuple hp;exact SeqAt.EqAt.str_tuple a t (show s.heap.IsTuple p its.toArray from pt) (by lia)
 |.tup ds,e,A,x,y,u,v,rx,ry,hx,hy,hu=>by
  rw[DV]at hx;obtain⟨a,xs,rfl,ha,hxs⟩:=hx
  cases rx;obtain⟨its,r1,pt,_⟩:=I.tuple ha;have hu':A.units+(D.depths ds+1)<cLine:=by rw[D.depth]at hu;exact hu
  cases e with
  |non=>rw[DV]at hy;subst hy;cases ry;exact SeqAt.EqAt.tuple_none (show s.heap.IsTuple a its.toArray from pt) (by lia)
  |bl b=>rw[DV]at hy;subst hy;cases ry;exact SeqAt.EqAt.tuple_bool b (show s.heap.IsTuple a its.toArray from pt) (by lia)
  |int b=>rw[DV]at hy;subst hy;obtain⟨t,rfl⟩:=ry;exact SeqAt.EqAt.tuple_int b t (show s.heap.IsTuple a its.toArray from pt) (by lia)
  |str b=>rw[DV]at hy;subst hy;obtain⟨t,rfl⟩:=ry;exact SeqAt.EqAt.tuple_str b t (show s.heap.IsTuple a its.toArray from pt) (by lia)
  |tup es=>
   rw[DV]at hy;obtain⟨b,ys,rfl,hb,hys⟩:=hy
   cases ry;obtain⟨its2,r2,pt2,_⟩:=I.tuple hb;by_cases hab:a=b
   ·subst hab;have e1:=Zc1 I (.tup ds) (.tup es) (.ref a) (by rw[DV];exact⟨a,xs,rfl,ha,hxs⟩) (by rw[DV];exact⟨a,ys,rfl,hb,hys⟩);rw[e1];exact SeqAt.EqAt.same _
   ·have key:=SeqAt.RcAt.tuples (A:=A) (e:=fun j=>D.eq (ds.getD j .non) (es.getD j .non)) (show s.heap.IsTuple a its.toArray from pt) (show s.heap.IsTuple b its2.toArray from pt2) (by lia) fun j h1 h2=>?_
    ·have l1:=hxs.length;have l2:=hys.length;have l3:=r1.length;have l4:=r2.length;refine SeqAt.EqAt.of_refs hab ?_;rw[D.eq,Z39];rw[List.size_toArray,List.size_toArray,<-l3,<-l4,<-l1,<-l2]at key;exact key
    ·exact Z3a I ds es A.in1 xs ys its its2 r1 r2 hxs hys (by rw[Z1e];lia) j (by simpa using h1) (by simpa using h2)
theorem Z3a (I:Inv X pins σ H s):∀(ds es:List D)(A:Around)(xs ys:List V)(us vs:List Value),Vals xs us->Vals ys vs->DVs X.K H ds xs->DVs X.K H es ys->A.units+D.depths ds<cLine ->
  ∀ j (h1:j<us.length)(h2:j<vs.length),SeqAt.EqAt A s us[j] vs[j] (D.eq (ds.getD j .non) (es.getD j .non))
 |[],_,_,xs,_,us,_,r1,_,hx,_,_=>fun j h1 ψ=>by
  rw[DVs]at hx;subst hx
  cases r1;simp at h1
 |d::ds,[],_,_,ys,_,vs,_,r2,_,hy,_=>fun j ψ h2=>by
  rw[DVs]at hy;subst hy
  cases r2;simp at h2
 |d::ds,e::es,A,xs,ys,us,vs,r1,r2,hx,hy,hu=>fun j h1 h2=>by
  rw[DVs]at hx hy;obtain⟨x,xr,rfl,hx1,hx2⟩:=hx;obtain⟨y,yr,rfl,hy1,hy2⟩:=hy;rw[D.depths]at hu
  cases r1 with
  |cons q1 t1=>
   cases r2 with
   |cons q2 t2=>
    cases j with
    |zero=>exact Zc3 I d e A x y _ _ q1 q2 hx1 hy1 (by lia)
    |succ j=>exact Z3a I ds es A xr yr _ _ t1 t2 hx2 hy2 (by lia) j (by simpa using h1) (by simpa using h2)
end
end
section
variable {X:Cx}
def rEqT (K:L2.Fg)(neg:Bool):R2:=fun x y H Q=>∃ ds es,DV K H (.tup ds) x/\DV K H (.tup es) y/\D.depths ds<=40/\Q (.bl (if neg then !D.eqs ds es else D.eqs ds es)) H
theorem Znr (hu:X.A.units+64<cLine):OpR X (compareOp .Eq) (rEqT X.K false):=by
 intro pins s σ H x y v u Q I rx ry h;obtain⟨ds,es,hx,hy,hd,q⟩:=h;rw[DV]at hx hy;obtain⟨a,xs,rfl,ha,hxs⟩:=hx;obtain⟨b,ys,rfl,hb,hys⟩:=hy
 cases rx;cases ry;obtain⟨its,r1,pt,_⟩:=I.tuple ha;obtain⟨its2,r2,pt2,_⟩:=I.tuple hb;refine SeqAt.eq_tupleAt (e:=fun j=>D.eq (ds.getD j .non) (es.getD j .non)) (show s.heap.IsTuple a its.toArray from pt) (show s.heap.IsTuple b its2.toArray from pt2) (by lia) (fun j h1 h2=>?_) ⟨.bl _,H,I,rfl,?_⟩
 ·exact Z3a I ds es X.A.in1 xs ys its its2 r1 r2 hxs hys (by rw[Z1e];lia) j (by simpa using h1) (by simpa using h2)
 ·rw[List.size_toArray,List.size_toArray,<-r1.length,<-r2.length,<-hxs.length,<-hys.length,<-Z39];exact q
theorem Zns (hu:X.A.units+64<cLine):OpR X (compareOp .NotEq) (rEqT X.K true):=by
 intro pins s σ H x y v u Q I rx ry h;obtain⟨ds,es,hx,hy,hd,q⟩:=h;rw[DV]at hx hy;obtain⟨a,xs,rfl,ha,hxs⟩:=hx;obtain⟨b,ys,rfl,hb,hys⟩:=hy
 cases rx;cases ry;obtain⟨its,r1,pt,_⟩:=I.tuple ha;obtain⟨its2,r2,pt2,_⟩:=I.tuple hb;refine SeqAt.RcNeAt.tuples (e:=fun j=>D.eq (ds.getD j .non) (es.getD j .non)) (show s.heap.IsTuple a its.toArray from pt) (show s.heap.IsTuple b its2.toArray from pt2) (by lia) (fun j h1 h2=>?_) X.prog X.w X.xe _ ⟨.bl _,H,I,rfl,?_⟩
 ·exact Z3a I ds es X.A.in1 xs ys its its2 r1 r2 hxs hys (by rw[Z1e];lia) j (by simpa using h1) (by simpa using h2)
 ·rw[List.size_toArray,List.size_toArray,<-r1.length,<-r2.length,<-hxs.length,<-hys.length,<-Z39];exact q
def rEqL (K:L2.Fg)(neg:Bool):R2:=fun x y H Q=>∃ a b xs ys ds es,x=.ref a/\y=.ref b/\SqL K H a xs/\SqL K H b ys/\DVs K H ds xs/\DVs K H es ys/\D.depths ds<=40/\Q (.bl (if neg then !D.eqs ds es else D.eqs ds es)) H
theorem Z7w:∀{xs ys:List D},xs.length≠ys.length->D.eqs xs ys=false
 |[],[],h=>absurd rfl h
 |[],_::_,_=>rfl
 |_::_,[],_=>rfl
 |x::xs,y::ys,h=>by rw[D.eqs,Z7w (fun z=>h (by simp[z])),Bool.and_false]
theorem Znt (hu:X.A.units+64<cLine):OpR X (compareOp .Eq) (rEqL X.K false):=by
 intro pins s σ H x y v u Q I rx ry h;obtain⟨a,b,xs,ys,ds,es,rfl,rfl,ha,hb,hxs,hys,hd,q⟩:=h
 cases rx;cases ry;obtain⟨its,r1,pt,_⟩:=I.list ha;obtain⟨its2,r2,pt2,_⟩:=I.list hb;by_cases hl:its.length=its2.length
 ·refine SeqAt.eq_listAt (e:=fun j=>D.eq (ds.getD j .non) (es.getD j .non)) pt.isList pt2.isList (by simp[hl]) (by lia) (fun j h1 h2=>?_) ⟨.bl _,H,I,rfl,?_⟩
  ·exact Z3a I ds es X.A.in1 xs ys its its2 r1 r2 hxs hys (by rw[Z1e];lia) j (by simpa using h1) (by simpa using h2)
  ·have e:=Z39 ds es;have l1:=hxs.length;have l2:=hys.length;have l3:=r1.length;have l4:=r2.length;rw[show min ds.length es.length=its.toArray.size by rw[List.size_toArray];lia,show(ds.length==es.length)=true by rw[beq_iff_eq];lia,Bool.and_true]at e;rw[<-e];exact q
 ·refine SeqAt.eq_list_lengthsAt pt.isList pt2.isList (by simp[hl]) (by lia) ⟨.bl _,H,I,rfl,?_⟩;have e:D.eqs ds es=false:=Z7w (by have l1:=hxs.length;have l2:=hys.length;have l3:=r1.length;have l4:=r2.length;lia);simp only[Bool.false_eq_true,if_false]at q;rw[e]at q;exact q
theorem Znu (hu:X.A.units+64<cLine):OpR X (compareOp .NotEq) (rEqL X.K true):=by
 intro pins s σ H x y v u Q I rx ry h;obtain⟨a,b,xs,ys,ds,es,rfl,rfl,ha,hb,hxs,hys,hd,q⟩:=h
 cases rx;cases ry;obtain⟨its,r1,pt,_⟩:=I.list ha;obtain⟨its2,r2,pt2,_⟩:=I.list hb;by_cases hl:its.length=its2.length
 ·refine SeqAt.RcNeAt.lists (e:=fun j=>D.eq (ds.getD j .non) (es.getD j .non)) pt.isList pt2.isList (by simp[hl]) (by lia) (fun j h1 h2=>?_) X.prog X.w X.xe _ ⟨.bl _,H,I,rfl,?_⟩
  ·exact Z3a I ds es X.A.in1 xs ys its its2 r1 r2 hxs hys (by rw[Z1e];lia) j (by simpa using h1) (by simpa using h2)
  ·have e:=Z39 ds es;have l1:=hxs.length;have l2:=hys.length;have l3:=r1.length;have l4:=r2.length;rw[show min ds.length es.length=its.toArray.size by rw[List.size_toArray];lia,show(ds.length==es.length)=true by rw[beq_iff_eq];lia,Bool.and_true]at e;rw[<-e];exact q
 ·refine SeqAt.RcNeAt.lists_lengths pt.isList pt2.isList (by simp[hl]) (by lia) X.prog X.w X.xe _ ⟨.bl _,H,I,rfl,?_⟩;have e:D.eqs ds es=false:=Z7w (by have l1:=hxs.length;have l2:=hys.length;have l3:=r1.length;have l4:=r2.length;lia);simp only[if_true]at q;rw[e]at q;exact q
end
structure Zfg (F:List Addr)(e:Addr)(oe:Obj)(vs:Array Value)(hd:Value)(h h':Heap)(T':Addr)(fl:Value):Prop where
 keep:∀ b o,h.get? b=some o->b≠e->hd≠.ref b->b∉F->h'.get? b=some o
 slot:∀ b o,h.get? b=some o->b∈F->∃ sl,h'.get? b=some { o with slots:=sl }
 exc:h'.get? e=some { oe with data:=.fields (vs.setIfInBounds 1 (.ref T')) }
 new:h.objs.size<=T'
 ent:∃ oT ts,h'.get? T'=some oT/\oT.data=.fields ts/\ts[3]?=some fl
theorem mapF {o:Obj}{vs:Array Value}(hd:o.data=.fields vs)(f:Array Value->Array Value):Obj.mapFields f o={ o with data:=.fields (f vs) }:=by
 obtain⟨a,b,c,d⟩:=o;subst hd;rfl
section
variable {M:Model}{A:Around}{E:L2.VSP}{s:Shared}{base:Heap}{env:Env}{outer:List Env}{L e:Addr}{oe:Obj}{vs:Array Value}{hd:Value}
theorem Z52 {hn:Bool}{Q:Unit->Shared->Prop}(hfr:A.frames=some (env::outer))(hl:s.heap.FunFrames base (env::outer))(hf:env.frame=some L)(he:s.heap.get? e=some oe)(hdt:oe.data=.fields vs)(h1:1<vs.size)(nf:e∉frs (env::outer))
  (h:∀ h' T',Zfg (frs (env::outer)) e oe vs .none s.heap h' T' (rawInt L)->Q () { s with heap:=h' }) :
  wpAny M A (do setField (.ref e) 1 (<- EntryCells.newEntry hd (<- frameOf env) .none (rawInt L) .none (<- entryPlaceOf L hn))) Q E s:=by
 refine wpAny_bind (wpAny_frameOf_fun hfr hl hf fun g gs=>wpAny_bind (wpAny_entryPlaceOf fun pl ok=>?_));unfold EntryCells.newEntry newFields;refine wpAny_bind (wpAny_newObj_type ?_ (ok.sizeOk5 _ _ _ _ _));have sz:g.objs.size=s.heap.objs.size:=gs.1;have ge:g.get? e=some oe:=(gs.2.1 e nf).trans he;have pe:=Heap.get?_push_of_some (h:=g) { cls:=.type "traceback",dict:=none,data:=.fields ([hd,.ref L,.none,rawInt L,.none]++(if pl.isEmpty then List.replicate 6 Value.none else pl)).toArray } ge;refine wpAny_setField pe hdt h1 (h _ g.objs.size ⟨fun b o eb n1 ψ n3=>?_,fun b o eb hb=>?_,?_,Nat.le_of_eq sz.symm,?_⟩)
 ·rw[Heap.get?_update_other _ _ (Ne.symm n1)];exact Heap.get?_push_of_some _ ((gs.2.1 b n3).trans eb)
 ·obtain⟨sl,q⟩:=gs.2.2 b o eb;refine⟨sl,?_⟩;rw[Heap.get?_update_other _ _ (fun z:e=b=>nf (z.symm▸hb))];exact Heap.get?_push_of_some _ q
 ·rw[Heap.get?_update_self _ pe (by rw[mapF hdt];exact Obj.isFreed_of_fields rfl),mapF hdt]
 ·have ne:e≠g.objs.size:=Nat.ne_of_lt (Heap.lt_size ge);refine⟨_,_,by rw[Heap.get?_update_other _ _ ne];exact Heap.get?_push_size g rfl,rfl,?_⟩;simp
theorem Zc4 {Q:Unit->Shared->Prop}(hfr:A.frames=some (env::outer))(hl:s.heap.FunFrames base (env::outer))(hf:env.frame=some L)(he:s.heap.get? e=some oe)(hdt:oe.data=.fields vs)(h1:vs[1]?=some hd)(nf:e∉frs (env::outer))
  (hh:hd=.none\/∃ T oT ts,hd=.ref T/\T≠e/\T∉frs (env::outer)/\s.heap.get? T=some oT/\oT.data=.fields ts/\ts[3]?=some .none)
  (h:∀ h' T',Zfg (frs (env::outer)) e oe vs hd s.heap h' T' (rawInt L)->Q () { s with heap:=h' }):wpAny M A (noteFrame (.ref e) env) Q E s:=by
 have sz1:=(Array.getElem?_eq_some_iff.mp h1).1;unfold noteFrame;simp only[hf];refine wpAny_bind (wpAny_field he hdt h1 ?_);rcases hh with z|⟨T,oT,ts,z,ne,nF,eT,dT,t3⟩
 ·subst z;rw[if_neg (by decide)];exact Z52 hfr hl hf he hdt sz1 nf h
 ·subst z;rw[if_pos (show(Value.ref T != Value.none)=true from by simp)];refine wpAny_bind (wpAny_field eT dT t3 ?_);rw[if_neg (show ¬ ((Value.none==rawInt L)=true)from by simp[rawInt])];refine wpAny_bind (wpAny_setField eT dT (Array.getElem?_eq_some_iff.mp t3).1 ?_);have oth:∀ b,b≠T->(s.heap.update T (Obj.mapFields (·.setIfInBounds 3 Value.none))).get? b=s.heap.get? b:=fun b hb=>Heap.get?_update_other _ _ (Ne.symm hb);have szT:(s.heap.update T (Obj.mapFields (·.setIfInBounds 3 Value.none))).objs.size=s.heap.objs.size:=by simp[Heap.update]
  have fl:(s.heap.update T (Obj.mapFields (·.setIfInBounds 3 Value.none))).FunFrames base (env::outer):=hl.of_keeps fun b o eb nfb=>⟨o,(oth b (fun q=>by rw[q,eT]at eb;cases eb;exact nfb ts dT)).trans eb,rfl⟩
  refine Z52 (s:={ s with heap:=s.heap.update T (Obj.mapFields (·.setIfInBounds 3 Value.none)) }) hfr fl hf ((oth e (Ne.symm ne)).trans he) hdt sz1 nf fun h' T' N=>h h' T' ⟨fun b o eb n1 n2 n3=>?_,fun b o eb hb=>?_,N.exc,by have:=N.new;rw[szT]at this;exact this,N.ent⟩
  ·exact N.keep b o ((oth b (fun q=>n2 (by rw[q]))).trans eb) n1 (fun q=>by cases q) n3
  ·exact N.slot b o ((oth b (fun q=>nF (q▸hb))).trans eb) hb
theorem Z7x {h0:Heap}{F:List Addr}{T':Addr}{fl:Value}{Q:Unit->Shared->Prop}(h1:1<vs.size)(lt:e<h0.objs.size)(N:Zfg F e oe vs hd h0 s.heap T' fl)(hF:∀ b∈F,b<h0.objs.size)(h:∀ h',Zfg F e oe vs hd h0 h' T' .none->Q () { s with heap:=h' }):wpAny M A (setFlight (.ref e) none) Q E s:=by
 obtain⟨oT,ts,eT,dT,t3⟩:=N.ent;have sz3:=(Array.getElem?_eq_some_iff.mp t3).1;unfold setFlight;refine wpAny_bind (wpAny_field N.exc rfl (x:=.ref T') (by simp[h1]) ?_);rw[if_pos (show(Value.ref T' != Value.none)=true from by simp)];have oth:∀ b,b<h0.objs.size->(s.heap.update T' (Obj.mapFields (·.setIfInBounds 3 ((none:Option Addr).elim Value.none fun f=>rawInt f)))).get? b=s.heap.get? b:=fun b hb=>Heap.get?_update_other _ _ (Nat.ne_of_gt (Nat.lt_of_lt_of_le hb N.new));refine wpAny_setField eT dT sz3 (h _ ⟨fun b o eb n1 n2 n3=>(oth b (Heap.lt_size eb)).trans (N.keep b o eb n1 n2 n3),fun b o eb hb=>?_,(oth e lt).trans N.exc,N.new,?_⟩)
 ·obtain⟨sl,q⟩:=N.slot b o eb hb;exact⟨sl,(oth b (hF b hb)).trans q⟩
 ·refine⟨_,_,Heap.get?_update_self _ eT (by rw[mapF dT];exact Obj.isFreed_of_fields rfl),by rw[mapF dT],?_⟩;simp[sz3]
end
structure Flw (H:Hp)(n:Heap)(h:Heap)(e:Addr)(oc:Value)(od:Option Addr)(fresh:Bool):Prop where
 un:H e=none
 yn:n.get? e=none
 ob:∃ oe vs hd,h.get? e=some oe/\oe.cls=oc/\oe.dict=od/\oe.data=.fields vs/\vs[1]?=some hd /\
  (if fresh=true then hd=.none else ∃ T oT ts,hd=.ref T/\T≠e/\H T=none/\n.get? T=none/\h.get? T=some oT/\oT.data=.fields ts/\ts[3]?=some .none)
def CX1 (P:Program)(w:World):CXT:=fun outer H s E e s'=>∃ ea H' oc od,e=.ref ea/\s'.os=s.os/\AllBare s'.gens/\Un (frs outer) [] H H' s.heap s'.heap/\HOk P w H' s'.heap/\Flw H' s.heap s'.heap ea oc od false/\E oc od H'
section
variable {X:Cx}{pins:L2.AO}{σ:St}{H:Hp}{s:Shared}
theorem Inv.frmLt (I:Inv X pins σ H s):∀ b∈frs X.stack,b<s.heap.objs.size:=fun b hb=>by
 rcases List.mem_cons.mp (I.stkSub b hb)with q|q
 ·rw[q];exact I.lt
 ·obtain⟨_,o,e,_⟩:=I.ok.funs.mem q;exact Nat.lt_of_lt_of_le (Heap.lt_size e) I.sz
theorem Z53 (I:Inv X pins σ H s){b:Addr}{o:Obj}{vs:Array Value}(e:s.heap.get? b=some o)(d:o.data=.fields vs):b∉frs X.stack:=fun hb=>by
 obtain⟨_,o',e',n⟩:=I.stack.mem hb;rw[e]at e';cases e';exact n vs d
theorem land {env:Env}{outer:List Env}{L e:Addr}{oc:Value}{od:Option Addr}{n:Heap}{fr:Bool}{E:L2.VSP}{Q:Unit->Shared->Prop}(I:Inv X pins σ H s)(hle:∀ b o,n.get? b=some o->∃ o',s.heap.get? b=some o')(hst:X.stack=env::outer)(hf:env.frame=some L)(F:Flw H n s.heap e oc od fr)
  (h:∀ h',(∀ b o,s.heap.get? b=some o->n.get? b≠none->b∉frs X.stack->h'.get? b=some o)->(∀ b o,s.heap.get? b=some o->b∈frs X.stack->∃ sl,h'.get? b=some { o with slots:=sl })->(∀ b u o,H b=some u->s.heap.get? b=some o->h'.get? b=some o) ->
   (∀ b o,s.heap.get? b=some o->(∀ vs,o.data≠.fields vs)->b∉frs X.stack->h'.get? b=some o)->(∀ p∈X.pn++pins,n.get? p.1≠none->h'.get? p.1=some p.2)->Flw H n h' e oc od false->Q () { s with heap:=h' }) :
  wpAny (model X.prog X.w) X.A (noteFrame (.ref e) env) (fun ψ s1=>wpAny (model X.prog X.w) X.A (setFlight (.ref e) none) Q E s1) E s:=by
 obtain⟨oe,vs,hd,ge,c,d,dt,h1,hh⟩:=F.ob;have hfr:X.A.frames=some (env::outer):=by rw[<-hst];exact I.ok.frames
 have ffr:=I.stack;rw[hst]at ffr;have nf:e∉frs (env::outer):=by rw[<-hst];exact Z53 I ge dt
 have sz1:=(Array.getElem?_eq_some_iff.mp h1).1;have lt:=Heap.lt_size ge;have hF:∀ b∈frs (env::outer),b<s.heap.objs.size:=by rw[<-hst];exact I.frmLt
 refine Zc4 hfr ffr hf ge dt h1 nf ?_ fun g T' N=>?_
 ·cases fr with
  |true=>exact .inl hh
  |false=>
   obtain⟨T,oT,ts,z,ne,hT,_,eT,dT,t3⟩:=hh;exact .inr ⟨T,oT,ts,z,ne,by rw[<-hst];exact Z53 I eT dT,eT,dT,t3⟩
 ·refine Z7x (s:={ s with heap:=g }) sz1 lt N hF fun g' N'=>?_;have nh:∀ b,H b≠none->hd≠.ref b:=fun b hb z=>by
   cases fr with
   |true=>rw[show hd=.none from hh]at z;cases z
   |false=>
    obtain⟨T,oT,ts,z',_,hT,_⟩:=hh;rw[z']at z;cases z;exact hb hT
  have nl:∀ b,n.get? b≠none->hd≠.ref b:=fun b hb z=>by
   cases fr with
   |true=>rw[show hd=.none from hh]at z;cases z
   |false=>
    obtain⟨T,oT,ts,z',_,_,hT,_⟩:=hh;rw[z']at z;cases z;exact hb hT
  have nd:∀ b o,s.heap.get? b=some o->(∀ vs,o.data≠.fields vs)->hd≠.ref b:=fun b o eb hb z=>by
   cases fr with
   |true=>rw[show hd=.none from hh]at z;cases z
   |false=>
    obtain⟨T,oT,ts,z',_,_,_,eT,dT,_⟩:=hh;rw[z']at z;cases z;rw[eT]at eb;cases eb;exact hb ts dT
  have yn:=F.yn;refine h g' (fun b o eb hb hn=>N'.keep b o eb (fun z=>hb (by rw[z];exact yn)) (nl b hb) (by rw[<-hst];exact hn)) (fun b o eb hb=>N'.slot b o eb (by rw[<-hst];exact hb)) (fun b u o hb eb=>N'.keep b o eb (fun z=>by rw[z,F.un]at hb;cases hb) (nh b (by rw[hb];simp)) ?_)
   (fun b o eb hb hn=>N'.keep b o eb (fun z=>by rw[z,ge]at eb;cases eb;exact hb vs dt) (nd b o eb hb) (by rw[<-hst];exact hn)) (fun p hp lt=>?_) ⟨F.un,F.yn,_,_,_,N'.exc,c,d,rfl,(by simp[sz1];rfl),?_⟩
  ·intro z;have z2:=I.stkFree b (by rw[hst];exact z);rw[z2]at hb;cases hb
  ·obtain⟨q1,q2,q3,q4,q5⟩:=I.pin p hp;refine N'.keep p.1 p.2 q1 (fun z=>lt (by rw[z];exact yn)) (nl p.1 lt) fun z=>?_;rcases List.mem_cons.mp (I.stkSub p.1 (by rw[hst];exact z))with y|y
   ·exact q3 y
   ·exact q4 y
  ·obtain⟨oT,ts,eT,dT,t3⟩:=N'.ent;have hn:s.heap.objs.size<=T':=N'.new;refine⟨T',oT,ts,rfl,Nat.ne_of_gt (Nat.lt_of_lt_of_le lt hn),I.hok.fresh hn,?_,eT,dT,t3⟩
   cases z:n.get? T' with
   |none=>rfl
   |some o=>
    obtain⟨o',e'⟩:=hle T' o z;exact absurd (Nat.lt_of_lt_of_le (Heap.lt_size e') hn) (Nat.lt_irrefl _)
end
theorem Flw.mono {H:Hp}{m n:Heap}{h:Heap}{e:Addr}{oc:Value}{od:Option Addr}{fr:Bool}(F:Flw H n h e oc od fr)(le:∀ b,n.get? b=none->m.get? b=none):Flw H m h e oc od fr:=by
 obtain⟨a,b,oe,vs,hd,e1,e2,e3,e4,e5,e6⟩:=F;refine⟨a,le _ b,oe,vs,hd,e1,e2,e3,e4,e5,?_⟩
 cases fr with
 |true=>exact e6
 |false=>
  obtain⟨T,oT,ts,q1,q2,q3,q4,q5⟩:=e6;exact⟨T,oT,ts,q1,q2,q3,le _ q4,q5⟩
section
variable {P:Program}{w:World}{K:L2.Fg}{mg:L2.SV}{base:Heap}{N:List Str}{qual:Str}{scope:Scope}{f:Addr}{cd:Value}{A:Around}{outer:List Env}{s:Shared}{H:Hp}{E:XK}
theorem Znv {pins:L2.AO}{σ:St}{H':Hp}{s':Shared}{n:Heap}{e:Addr}{oc:Value}{od:Option Addr}{fr:Bool}(I:Inv (cxOf (CX1 P w) P w K mg base N qual scope f cd A outer s H E) pins σ H' s')
  (F:Flw H' n s'.heap e oc od fr)(le:∀ b,n.get? b=none->s.heap.get? b=none)(hle:∀ b o,n.get? b=some o->∃ o',s'.heap.get? b=some o')(q:E oc od H'):(cxOf (CX1 P w) P w K mg base N qual scope f cd A outer s H E).xe (.ref e) s':=by
 show wpAny (model P w) (A.deeper (envOfC qual scope s.heap.objs.size f cd)) (leaving (envOfC qual scope s.heap.objs.size f cd) (.ref e)) _ _ s';unfold leaving;have hfs:∀ b,b∈frs (envOfC qual scope s.heap.objs.size f cd::outer)->b=s.heap.objs.size\/b∈frs outer:=fun b hb=>List.mem_cons.mp hb;refine wpAny_bind (land (X:=cxOf (CX1 P w) P w K mg base N qual scope f cd A outer s H E) I hle rfl rfl F fun h' k1 k2 k3 k4 k5 F'=>?_);have nfr:∀ b,b<s.heap.objs.size->b∉frs outer->b∉frs (envOfC qual scope s.heap.objs.size f cd::outer):=fun b hb hn z=>by
  rcases hfs b z with y|y
  ·exact absurd hb (by rw[y];exact Nat.lt_irrefl _)
  ·exact hn y
 have B:=I.base;refine⟨e,H',oc,od,rfl,I.os,I.bare,⟨fun b o eb n hb hx=>?_,fun b o eb n hb hx=>?_,fun b o eb n hx=>B.free b o eb n hx,fun b o eb hx=>?_,B.tups,B.frzs,B.tbls⟩,fun b u eb=>?_,F'.mono le,q⟩
 ·exact k1 b o (B.keep b o eb n hb hx) (fun z=>by rw[le b z]at eb;cases eb) (nfr b (Heap.lt_size eb) hb)
 ·obtain⟨sl,e1⟩:=B.slot b o eb n hb hx;obtain⟨sl',e2⟩:=k2 b _ e1 (List.mem_cons_of_mem _ hb);exact⟨sl',e2⟩
 ·obtain⟨o',e1⟩:=B.there b o eb hx;by_cases hb:b∈frs outer
  ·obtain⟨sl',e2⟩:=k2 b _ e1 (List.mem_cons_of_mem _ hb);exact⟨_,e2⟩
  ·exact⟨o',k1 b o' e1 (fun z=>by rw[le b z]at eb;cases eb) (nfr b (Heap.lt_size eb) hb)⟩
 ·refine(I.hok b u eb).stay (fun c v hc r=>?_) (fun ψ r=>r) fun ψ ψ r=>r;rcases hc with rfl|hc
  ·exact k3 c _ v eb r
  ·exact k3 c _ v hc r
theorem Zjz {E1:XK}(h:∀ oc od H',E1 oc od H'->E oc od H'):Z8r (CX1 P w) (cxOf (CX1 P w) P w K mg base N qual scope f cd A outer s H E) E1:=by
 intro pins σ H1 s1 e s' I hx;obtain⟨ea,H',oc,od,rfl,os,bare,un,hok,F,q⟩:=hx;refine Znv (I.call' (ch:=[]) os un hok bare fun b z=>absurd z (by simp)) F (fun b z=>?_) (fun b o z=>un.there b o z (by simp)) (h _ _ _ q)
 cases y:s.heap.get? b with
 |none=>rfl
 |some o=>
  obtain⟨o',e'⟩:=I.base.there b o y (by simp[cxOf]);rw[z]at e';cases e'
end
theorem Zk0 {K:L2.Fg}{h:Heap}{C:Addr}{bmB:List Value}{newId:String}(KX:K.In h)(q:PySem.W.excIn K C bmB newId=true) :
  ∃ bm N nm qn bs hdct sn sub ab col dd k0 k1 k2 k3 k5 mN,h.get? C=some (excClassObj nm qn C N bs bm hdct sn sub ab col dd k0 k1 k2 k3 k5 newId)/\h.Ns N mN/\mN "__init__" = none/\OwnTail h bmB bm:=by
 unfold PySem.W.excIn at q;split at q
 ·rename_i dd cls slots there
  split at q
  ·rename_i C' up a0 a1 a2 a3 made a5 hmro hsl
   simp only[Bool.and_eq_true,beq_iff_eq,Bool.not_eq_true']at q;obtain⟨⟨⟨⟨⟨y1,y2⟩,y3⟩,y4⟩,y5⟩,y6⟩:=q;subst y1 y2;obtain⟨c1,c2,c3,c4,c5,c6,c7,c8,c9,c10,c11⟩:=cls;dsimp only at hmro y3 y5 y6;subst hmro y3;have z:slots=#[a0,a1,a2,a3,some (.builtin made),a5]:=by
    obtain⟨l⟩:=slots;dsimp only at hsl;rw[hsl]
   subst z;refine⟨up,c4,c1,c5,c2,c6,c7,c8,c9,c10,dd,a0,a1,a2,a3,a5,_,KX _ _ there,Heap.Ns.of_isNs (PySem.W.isNs_of_in KX y5),?_,PySem.W.tail_of_in KX y4⟩;exact PySem.W.nsMap_none_of_in KX y5 y6
  ·cases q
 ·cases q
def XP (X:Cx)(pins:L2.AO)(σ:St)(E:XK)(e:Value)(s':Shared):Prop:=∃ s0 H0,Inv X pins σ H0 s0/\CX1 X.prog X.w X.stack H0 s0 E e s'
section
variable {X:Cx}{pos:Pos}{es:List Expr}{t:TA}
theorem PA.nox {es:List Expr}{t:TA}(h:PA X.nox es t){Er:L2.VSP}{pos:Pos}{pins:L2.AO}{s:Shared}{σ:St}{H:Hp}{Q:List V->Hp->Prop}(I:Inv X pins σ H s)(q:t σ H Q) :
  wpAny (model X.prog X.w) X.A (spliced (backTo pos (starEach es X.env))) (AP X pins σ Q) Er s:=
 wpAny_mono (h pos pins s σ H Q (I.wish _) q) (fun _ _ ⟨vs,H',I',r,q⟩=>⟨vs,H',I'.unwish,r,q⟩) fun ψ ψ z=>False.elim z
end
def excO (e C:Addr):HO:=.ext fun h=>∃ o,h.get? e=some o/\o.cls=.ref C/\o.dict=none/\PySem.W.notCls o=true
section
variable {X:Cx}{pins:L2.AO}{σ:St}{H:Hp}{s:Shared}
theorem Inv.adoptX {d:Addr}{o:HO}(I:Inv X pins σ H s)(hn:H d=none)(h0:X.s₀.heap.get? d=none)(hL:d≠X.env.locals)(hc:∀ x c,X.env.cells.lookup x=some c->c≠d)(hp:∀ p∈X.pn++pins,p.1≠d)
  (new:Z0s X.prog X.w (upd H d o) s.heap d o):Inv X pins σ (upd H d o) s:=by
 have nd:∀ b u,H b=some u->b≠d:=fun b u e z=>by rw[z,hn]at e;cases e
 have B:=I.base;refine⟨I.ok,I.os,I.bare,⟨B.keep,B.slot,fun b u e n hx=>?_,B.there,fun b xs e=>?_,fun b u v e=>?_,fun b ps e=>?_⟩,I.loc,I.cell,by rw[Z06 (Ne.symm hL)];exact I.free,fun x c e=>by rw[Z06 (hc x c e)];exact I.freeC x c e,fun p hq=>?_,fun b u e=>?_,I.len⟩
 ·rw[Z06 (fun z=>by rw[z,h0]at e;cases e)];exact B.free b u e n hx
 ·have q:=B.tups b xs e;rw[Z06 (nd _ _ q)];exact q
 ·have q:=B.frzs b u v e;rw[Z06 (nd _ _ q)];exact q
 ·obtain⟨mo,q⟩:=B.tbls b ps e;exact⟨mo,by rw[Z06 (nd _ _ q)];exact q⟩
 ·obtain⟨q1,q2,q3⟩:=I.pin p hq;exact⟨q1,by rw[Z06 (hp p hq)];exact q2,q3⟩
 ·by_cases hb:b=d
  ·subst hb;rw[Z05]at e;cases e;exact new
  ·rw[Z06 hb]at e;exact(I.hok b u e).stay (fun ψ ψ ψ q=>q) (fun c q=>by rw[Z06 (nd c _ q)];exact q) fun c xs q=>by rw[Z06 (nd c _ q)];exact q
end
structure ExcK (K:L2.Fg)(C:Addr):Prop where
 ga:PySem.W.findIn K (.ref C) "__getattribute__" = some (some (.builtin "BaseException.__getattribute__"))
 hk:PySem.W.findIn K (.ref C) "__getattr__" = some none
 cl:(PySem.W.clsIn K C).isSome=true
 at_:PySem.W.findIn K (.ref C) "__class__" = some (some (.builtin "object.__class__"))
 gt:PySem.W.specialIn K (.builtin "object.__class__") "__get__" = some (some (.builtin "getset_descriptor.__get__"))
 tk:PySem.W.takesIn K (.builtin "object.__class__")=some true
 mo:PySem.W.mroIn K C (.type "object")=some true
 mb:PySem.W.mroIn K C (.type "BaseException")=some true
structure Kp (L:List Addr)(H H':Hp):Prop where
 keep:∀ b o,b∉L->H b=some o->H' b=some o
 tup:∀ b xs,H b=some (.tup xs)->H' b=some (.tup xs)
theorem Kp.refl {L:List Addr}{H:Hp}:Kp L H H:=⟨fun ψ ψ ψ h=>h,fun ψ ψ h=>h⟩
theorem Kp.trans {L:List Addr}{H H1 H2:Hp}(a:Kp L H H1)(b:Kp L H1 H2):Kp L H H2:=⟨fun c o n h=>b.keep c o n (a.keep c o n h),fun c xs h=>b.tup c xs (a.tup c xs h)⟩
theorem Kp.new {L:List Addr}{H:Hp}{p:Addr}{o:HO}(n:H p=none):Kp L H (upd H p o):=⟨fun b u ψ h=>by rw[Z06 (Z0k h n)];exact h,fun b xs h=>by rw[Z06 (Z0k h n)];exact h⟩
theorem Kp.set {L:List Addr}{H:Hp}{l:Addr}{xs ys:List V}(m:l∈L)(h:H l=some (.lst xs)):Kp L H (upd H l (.lst ys)):=
 ⟨fun b u n e=>by rw[Z06 (fun z:b=l=>n (by rw[z];exact m))];exact e,fun b zs e=>by rw[Z06 (Zmm e h (by intro z;cases z))];exact e⟩
theorem Kp.get {H H':Hp}(k:Kp [] H H'){b:Addr}{o:HO}(h:H b=some o):H' b=some o:=k.keep b o (by simp) h
theorem Kp.non {H H':Hp}(k:Kp [] H H'){b:Addr}(h:H' b=none):H b=none:=by
 cases q:H b with
 |none=>rfl
 |some o=>rw[k.get q]at h;cases h
def Ints (H:Hp)(v:V)(ns:List Int):Prop:=∃ a,v=.ref a/\H a=some (.tup (ns.map V.int))
theorem Ints.kp {L:List Addr}{H H':Hp}{v:V}{ns:List Int}(h:Ints H v ns)(k:Kp L H H'):Ints H' v ns:=let ⟨a,e,q⟩:=h;⟨a,e,k.tup _ _ q⟩
def Scl (H:Hp)(v:V)(hd rg:List Int):Prop:=∃ a x y,v=.ref a/\H a=some (.tup [x,y])/\Ints H x hd/\Ints H y rg
theorem Scl.kp {L:List Addr}{H H':Hp}{v:V}{hd rg:List Int}(h:Scl H v hd rg)(k:Kp L H H'):Scl H' v hd rg:=let ⟨a,x,y,e,q,i,j⟩:=h;⟨a,x,y,e,k.tup _ _ q,i.kp k,j.kp k⟩
section
variable {X:Cx}{K:L2.Fg}{σ:St}{H:Hp}{Q:VK}{x y:V}
theorem Zk1 {sp:Sp}{E:XK}{tr:TA}(h:tr σ H fun vs H1=>sp vs H1 Q E):Zf8 sp [] E tr σ H Q:=by
 unfold Zf8;have e:(fun(vs:List V) H1=>sp (vs++[]) H1 Q E)=fun vs H1=>sp vs H1 Q E:=by funext vs H1;rw[List.append_nil]
 rw[e];exact h
def rIxA (K:L2.Fg):R2:=fun x y H Q=>rIxL K x y H Q\/rIxT K x y H Q
theorem Znw:IxR X (rIxA X.K):=Zjl.or Znl
def rEqA (K:L2.Fg):R2:=fun x y H Q=>rEq x y H Q\/rEqT K false x y H Q\/rEqL K false x y H Q
def rNeA (K:L2.Fg):R2:=fun x y H Q=>rNe x y H Q\/rEqT K true x y H Q\/rEqL K true x y H Q
theorem Znx (hu:X.A.units+64<cLine):OpR X (compareOp .Eq) (rEqA X.K):=Zs4.or ((Znr hu).or (Znt hu))
theorem Zny (hu:X.A.units+64<cLine):OpR X (compareOp .NotEq) (rNeA X.K):=Zs5.or ((Zns hu).or (Znu hu))
end
theorem Zfh {K:L2.Fg}{H:Hp}:∀ ns:List Int,DVs K H (ns.map D.int) (ns.map V.int)
 |[]=>by rw[List.map_nil,DVs];rfl
 |n::ns=>by rw[List.map_cons,DVs];exact⟨_,_,rfl,by rw[DV],Zfh ns⟩
theorem Z44:∀ ns:List Int,D.depths (ns.map D.int)=0
 |[]=>by rw[List.map_nil,D.depths]
 |n::ns=>by
  have e:D.depth (.int n)=0:=by simp[D.depth]
  rw[List.map_cons,D.depths,Z44 ns,e];rfl
theorem Z8v:∀ ns ms:List Int,D.eqs (ns.map D.int) (ms.map D.int)=decide (ns=ms)
 |[],[]=>by simp[D.eqs]
 |[],m::ms=>by simp[D.eqs]
 |n::ns,[]=>by simp[D.eqs]
 |n::ns,m::ms=>by
  rw[List.map_cons,List.map_cons,D.eqs,D.eq,Z8v ns ms];by_cases h1:n=m<;>by_cases h2:ns=ms<;>simp[h1,h2]
structure Fn (P:Program)(w:World)(K:L2.Fg)(mg:L2.SV)(base:Heap)(CX:CXT) (k:Nat)(x:Str)(f:Addr)(fd:FuncData)(ps:List Str)(sp:Sp):Prop where
 F:FnOk P w K mg base CX k f fd ps sp
 hm:mg x=some (.ref f)
 kp:PySem.W.keepIn K (.ref f)=true
 hb:Za2 K fd ps []
section
variable {P:Program}{w:World}{K:L2.Fg}{mg:L2.SV}{base:Heap}
theorem Fun.okX {x qual:Str}{st:Stmt}{f:Addr}{fd:FuncData}{N ps:List Str}{k:Nat}{sp:Sp}(F:Fun K x qual st f fd)(S:Z0f N ps (Z02 st))(len:∀ vs H Q E,sp vs H Q E->vs.length=ps.length)
  (hbody:∀ (cdv:Value)(A:Around)(outer:List Env)(s:Shared)(H:Hp)(vs:List V)(Q:VK)(E:XK),Room k (A.deeper (envOfC qual (Z02 st) s.heap.objs.size f cdv))->A.handled=none->sp vs H Q E ->
   ∃ t,PSs (cxOf (CX1 P w) P w K mg base N qual (Z02 st) f cdv A outer s H E) (Z0e st) t/\t { nx:=fun ψ H'=>Q .non H',rt:=Q } (start N vs) H):FnOk P w K mg base (CX1 P w) (k+1) f fd ps sp:=by
 obtain⟨oc,od,kV,doc,pm,an,cdv,ct,osl,rfl,lk,hcd⟩:=F.ex;exact Zng lk hcd S len fun A outer s H vs Q E hr hsp=>hbody cdv A outer s H vs Q E hr hr.hd hsp
theorem PS.nox {X:Cx}{st:Stmt}{t:TS}(h:PS X.nox st t):PS X st t:=fun pins s σ H D I hw=>
 wpAny_mono (h pins s σ H D (I.wish _) hw) (fun ψ ψ q=>q.unwish) fun ψ ψ z=>False.elim z
end
inductive ClOf (cells:List (Str×Addr)):List (Str×Addr)->Prop
 |nil:ClOf cells []
 |cons {y:Str}{c:Addr}{r:List (Str×Addr)}(h:cells.lookup y=some c)(t:ClOf cells r):ClOf cells ((y,c)::r)
theorem ClOf.sub {cells:List (Str×Addr)}:∀{cl:List (Str×Addr)},ClOf cells cl->∀ y c,cl.lookup y=some c->cells.lookup y=some c
 |_,.nil,y,c,h=>by simp at h
 |_,.cons (y:=y') (c:=c') q t,y,c,h=>by
  rw[List.lookup_cons]at h;by_cases e:y=y'
  ·subst e;simp at h;subst h;exact q
  ·have e':(y==y')=false:=by simpa using e
   rw[e']at h;exact t.sub y c h
theorem Z2r {X:Cx}{scope:Scope}{cl:List (Str×Addr)}{js:List Nat}{caps:List Str}(clos:closureFor scope X.env=pure cl)(a:(scope.names.all fun y=>y.2 != .cell)=true)(kind:scope.kind=.function)
  (b:(scope.names.all fun y=>y.2 != .local||scope.names.lookup y.1==some .local)=true)(c:(scope.names.all fun y=>y.2 != .free||(cl.lookup y.1).isSome)=true)(d:ClOf X.env.cells cl)(cap:Caps X (relabel scope X.env) cl js caps):Z43 X scope cl js caps:=by
 refine⟨clos,fun y hy=>?_,kind,fun y hy e=>?_,fun y hy e=>?_,d.sub,cap⟩
 ·have z:=List.all_eq_true.mp a y hy;simpa using z
 ·have z:=List.all_eq_true.mp b y hy;rw[e]at z;simpa using z
 ·have z:=List.all_eq_true.mp c y hy;rw[e]at z;simpa using z
section
variable {X:Cx}{K:L2.Fg}{H:Hp}{Q:VK}
def rLen (K:L2.Fg):List V->Hp->VK->Prop:=fun xs H Q=>∃ p ys,xs=[.ref p]/\(SqL K H p ys\/SqT K H p ys)/\Q (.int ys.length) H
theorem Zc5:Z10 X (.builtin "len") (rLen X.K):=Z6e
def Zc6 (K:L2.Fg):List V->Hp->VK->Prop:=fun xs H Q=>∃ p ys,xs=[.ref p]/\((SqL K H p ys/\∀ l,H l=none->Q (.ref l) (upd H l (.tup ys)))\/(SqT K H p ys/\Q (.ref p) H))
theorem Zc7:Z10 X (.type "tuple") (Zc6 X.K):=Z5j
def Zc8 (K:L2.Fg):List V->Hp->VK->Prop:=fun xs H Q=>∃ p ys,xs=[.ref p]/\(SqL K H p ys\/SqT K H p ys)/\∀ l,H l=none->Q (.ref l) (upd H l (.lst ys))
theorem Zc9:Z10 X (.type "list") (Zc8 X.K):=Z6f
def rMax:List V->Hp->VK->Prop:=fun xs H Q=>∃ i j,xs=[.int i,.int j]/\Q (.int (if j > i then j else i)) H
theorem Zca (hc:X.calm=true):Z10 X (.builtin "max") rMax:=Zbq hc
def Znz:List V->Hp->VK->Prop:=fun xs H Q=>(∃ i,xs=[.int i]/\Q (.int i) H)\/∃ k,xs=[.bl k]/\Q (.int (if k then 1 else 0)) H
theorem Zcb:Z10 X (.type "int") Znz:=Zbr
theorem Z8w:∀{bs:List Bool}{us:List Value},Vals (bs.map V.bl) us->us=bs.map Value.bool
 |[],us,r=>by rw[List.map_nil]at r;cases r;rfl
 |c::cs,us,r=>by
  rw[List.map_cons]at r
  cases r with
  |cons q t=>cases q;rw[Z8w t];rfl
end
end L2
namespace L2
open PySem PySem.Spec PyProof.Rows
def Scls (H:Hp)(ps:List (List Int×List Int))(vs:List V):Prop:=Paired (fun p v=>Scl H v p.1 p.2) ps vs
theorem Scls.kp {L:List Addr}{H H':Hp}(k:Kp L H H'){ps:List (List Int×List Int)}{vs:List V}(h:Scls H ps vs):Scls H' ps vs:=Paired.mapP h fun ψ ψ s=>s.kp k
theorem Scls.get {H:Hp}:∀{ps:List (List Int×List Int)}{vs:List V}{i:Nat},Scls H ps vs->i<ps.length->∃ p v,p∈ps/\vs[i]?=some v/\Scl H v p.1 p.2
 |_,_,_,.nil,h=>by simp at h
 |_,_,0,.cons a t,h=>⟨_,_,List.mem_cons_self,rfl,a⟩
 |_,_,i+1,.cons a t,h=>by
  obtain⟨p,v,m,e,s⟩:=Scls.get (i:=i) t (by simpa using h);exact⟨p,v,List.mem_cons_of_mem _ m,by simpa using e,s⟩
end L2
namespace L2
open PySem
theorem Z27 {es:List Expr}{p:Pos}{t:Option Expr}{l:Nat}{env:Env}:swapsWith (.List es p) t l env=pure false:=rfl
theorem Z1q {a b:Expr}{o:Operator}{p:Pos}{t:Option Expr}{l:Nat}{env:Env}:swapsWith (.BinOp a o b p) t l env=pure false:=rfl
theorem Zcc {a b:Expr}{p:Pos}{t:Option Expr}{l:Nat}{env:Env}:swapsWith (.Subscript a b p) t l env=pure false:=rfl
end L2
namespace L2
open PySem PySem.Spec PyProof.Rows
section
variable {X:Cx}{K:L2.Fg}
theorem Z6n (h:X.K=K):Z10 X (.builtin "len") (rLen K):=h▸Zc5
theorem Z3b (h:X.K=K):IxR X (rIxA K):=h▸Znw
end
section
variable {X:Cx}{pins:L2.AO}{σ:St}{H:Hp}{s:Shared}{h':Heap}
theorem Inv.turnedL {t':Nat}{fp:List Addr}(I:Inv X pins σ H s)(k:∀ b o,b∉fp->s.heap.get? b=some o->h'.get? b=some o)(hf:∀ b∈fp,FpOk X pins H b):Inv X pins σ H { s with heap:=h',toks:=t' }:=by
 have nf:∀ b u,H b=some u->b∉fp:=fun b u e z=>by rw[(hf b z).1]at e;cases e
 refine I.step (g':=s.gens) (d':=s.drawn) (ch:=fp) (fun b hb=>⟨(hf b hb).2.2.2.1,(hf b hb).2.1,(hf b hb).2.2.2.2.1,(hf b hb).2.2.2.2.2⟩) (fun b o ψ ψ hc e ψ=>k b o hc e) (fun b o ψ ψ hc e ψ=>⟨o.slots,k b o hc e⟩) (fun ψ ψ ψ ψ n=>n)
  (fun b o hc e=>⟨o,k b o hc e⟩) (fun ψ ψ e=>e) (fun ψ ψ ψ e=>e) (fun b ps e=>⟨#[],by rw[e];simp⟩) (fun m hm=>?_) (fun b u e=>?_) I.bare
 ·obtain⟨o,es,ep,ho,r⟩:=hm;exact⟨o,es,ep,k _ o (fun z=>(hf _ z).2.1 rfl) ho,r⟩
 ·refine(I.hok b u e).stay (fun c v hc q=>k c v ?_ q) (fun ψ q=>q) fun ψ ψ q=>q;rcases hc with z|z
  ·rw[z];exact nf b u e
  ·exact nf c _ z
theorem Inv.adoptT {fp:List Addr}{t':Nat}{vs:List V}{us:List Value}{n:Nat}(I:Inv X pins σ H s)(k:∀ b o,b∉fp->s.heap.get? b=some o->h'.get? b=some o)(hf:∀ b∈fp,FpOk X pins H b)
  (ht:∃ o,h'.get? s.heap.objs.size=some o/\o.cls=.type "tuple" /\ ∃ n,o.data=.seq us.toArray n)(r:Vals vs us)(hl:vs.length<=sizeLine):H s.heap.objs.size=none/\Inv X pins σ (upd H s.heap.objs.size (.tup vs)) { s with heap:=h',toks:=t' }:=by
 have I1:=I.turnedL (t':=t') k hf;have hn:H s.heap.objs.size=none:=I.hok.fresh (Nat.le_refl _);have lt:∀{b:Addr}{o:Obj},s.heap.get? b=some o->s.heap.objs.size≠b:=fun e z=>absurd (Heap.lt_size e) (by rw[<-z];exact Nat.lt_irrefl _);refine⟨hn,I1.adoptX hn ?_ ?_ (fun x c e z=>?_) (fun p hp z=>?_) ⟨hl,us,r,ht⟩⟩
 ·cases z:X.s₀.heap.get? s.heap.objs.size with
  |none=>rfl
  |some o=>exact absurd (Nat.lt_of_lt_of_le (Heap.lt_size z) I.sz) (Nat.lt_irrefl _)
 ·intro z;exact absurd I.lt (by rw[<-z];exact Nat.lt_irrefl _)
 ·obtain⟨v,q⟩:=I.cell x c e;exact absurd q.lt (by rw[z];exact Nat.lt_irrefl _)
 ·exact lt (I.pin p hp).1 z.symm
end
theorem Zs9 (t b:Addr)(xs ys:Array Value)(n n2:Nat)(dd dd2:Option Addr)(sl sl2:Array (Option Value))(h0:xs.isEmpty=true) :
  Meets (Builtin.«tuple.__add__» ⟨[.ref t,.ref b],[]⟩) (fun ψ R s=>s.heap.get? t=some ⟨.type "tuple",dd,.seq xs n,sl⟩/\s.heap.get? b=some ⟨.type "tuple",dd2,.seq ys n2,sl2⟩/\R (.ok (.ret (.ref b))) s):=
 .of_wp fun prog w A R s h=>by
  obtain⟨g0,gn,dr,tk,os⟩:=s;obtain⟨e1,e2,h⟩:=h;have sb:=AutoSeq1.sub_tuple_tuple;wp_walk using AutoSeq1.wpAny_loadPart' e1,AutoSeq1.wpAny_loadPart' e2;exact⟨_,rfl,h⟩
section
variable {X:Cx}{K:L2.Fg}{H:Hp}{Q:VK}
theorem Z3v:fillsNumberSlot (.type "tuple") "mul" = pure false:=PySem.fillsNumberSlot_seq (id := "tuple.__mul__") (r:=some (.builtin "tuple.__rmul__")) F.slot_tuple_mul.lookup (by decide +kernel) F.slot_tuple_rmul.lookup (by decide +kernel)
theorem Z6o:seqRepeat? (.type "tuple")=pure (some (.builtin "tuple.__mul__")):=by
 unfold seqRepeat?;rw[PySem.seqSlot_of (T := "tuple") (name := "__mul__") (id := "tuple.__mul__") F.slot_tuple_mul.lookup (by decide +kernel),PySem.seqSlot_of (T := "tuple") (name := "__rmul__") (id := "tuple.__rmul__") F.slot_tuple_rmul.lookup (by decide +kernel)];rfl
theorem Zsa (k:Int)(t:Tok)(l:Addr)(xs:Array Value) (n:Nat)(dd:Option Addr)(sl:Array (Option Value)) :
  Meets (Builtin.«int.__rmul__» ⟨[.int k t,.ref l],[]⟩) (fun ψ R s=>s.heap.get? l=some ⟨.type "tuple",dd,.seq xs n,sl⟩/\R (.ok (.ret Value.notImplemented)) s):=
 .of_wp fun prog w A R s h=>by obtain⟨g0,gn,dr,tk,os⟩:=s;obtain⟨e1,h⟩:=h;wp_walk using AutoSeq1.wpAny_loadPart' e1;exact⟨_,rfl,h⟩
theorem Zsb (k:Int)(t:Tok)(l:Addr)(x:Value) (n:Nat)(dd:Option Addr)(sl:Array (Option Value))(hk:k=1) :
  Meets (Builtin.«tuple.__mul__» ⟨[.ref l,.int k t],[]⟩) (fun ψ R s=>s.heap.get? l=some ⟨.type "tuple",dd,.seq #[x] n,sl⟩/\R (.ok (.ret (.ref l))) s):=
 .of_wp fun prog w A R s h=>by subst hk;obtain⟨g0,gn,dr,tk,os⟩:=s;obtain⟨e1,h⟩:=h;wp_walk using AutoSeq1.wpAny_loadPart' e1;exact⟨_,rfl,h⟩
theorem Zsc (k:Int)(t:Tok)(l:Addr)(x:Value) (n:Nat)(dd:Option Addr)(sl:Array (Option Value))(c1:(decide (k < -2 ^ 63)||decide (k≥2 ^ 63))=false)(c2:((#[x]:Array Value).isEmpty||k==1)=false)(c3:(decide (k<=0)||(#[x]:Array Value).isEmpty)=true) :
  Meets (Builtin.«tuple.__mul__» ⟨[.ref l,.int k t],[]⟩) (fun ψ R s=>s.heap.get? l=some ⟨.type "tuple",dd,.seq #[x] n,sl⟩/\R (.ok (.ret (.ref s.heap.objs.size))) { s with heap:=s.heap.push { cls:=.type "tuple",data:=.seq #[] } }):=
 .of_wp fun prog w A R s h=>by
  obtain⟨g0,gn,dr,tk,os⟩:=s;obtain⟨e1,h⟩:=h;have f1:=AutoSeq1.idx_int;have sb:=AutoSeq1.sub_tuple_tuple;wp_walk using AutoSeq1.wpAny_loadPart' e1
  refine wpAny_ite_false (by rw[c1];rfl) ?_;wp_walk using AutoSeq1.wpAny_loadPart' e1
  refine wpAny_ite_false (by rw[c2];rfl) ?_;wp_walk using AutoSeq1.wpAny_loadPart' e1
  refine wpAny_ite_true (by rw[c3];rfl) ?_;wp_walk using AutoSeq1.wpAny_loadPart' e1
  exact⟨_,rfl,h⟩
theorem Zsd (k:Int)(t:Tok)(l:Addr)(x:Value) (n:Nat)(dd:Option Addr)(sl:Array (Option Value))(c1:(decide (k < -2 ^ 63)||decide (k≥2 ^ 63))=false)(c2:((#[x]:Array Value).isEmpty||k==1)=false)(c3:(decide (k<=0)||(#[x]:Array Value).isEmpty)=false)
  (c4:¬ (((#[x]:Array Value).size:Int)*k > (2 ^ 63-1)/8))(c5:Builtin.Tuple.tupleTooMany (((#[x]:Array Value).size:Int)*k)=false)(c6:((List.replicate k.toNat (#[x]:Array Value)).foldl (· ++ ·) #[]).size<=sizeLine) :
  Meets (Builtin.«tuple.__mul__» ⟨[.ref l,.int k t],[]⟩) (fun ψ R s=>s.heap.get? l=some ⟨.type "tuple",dd,.seq #[x] n,sl⟩/\R (.ok (.ret (.ref s.heap.objs.size))) { s with heap:=s.heap.push { cls:=.type "tuple",data:=.seq ((List.replicate k.toNat (#[x]:Array Value)).foldl (· ++ ·) #[]) } }):=
 .of_wp fun prog w A R s h=>by
  obtain⟨g0,gn,dr,tk,os⟩:=s;obtain⟨e1,h⟩:=h;have f1:=AutoSeq1.idx_int;have sb:=AutoSeq1.sub_tuple_tuple;wp_walk using AutoSeq1.wpAny_loadPart' e1
  refine wpAny_ite_false (by rw[c1];rfl) ?_;wp_walk using AutoSeq1.wpAny_loadPart' e1
  refine wpAny_ite_false (by rw[c2];rfl) ?_;wp_walk using AutoSeq1.wpAny_loadPart' e1
  refine wpAny_ite_false (by rw[c3];rfl) ?_;wp_walk using AutoSeq1.wpAny_loadPart' e1
  refine wpAny_ite_false (decide_eq_false c4) ?_;wp_walk using AutoSeq1.wpAny_loadPart' e1
  first
   |(refine wpAny_ite_false (by rw[c5];rfl) ?_;wp_walk using AutoSeq1.wpAny_loadPart' e1;exact⟨_,rfl,h⟩)
   |exact⟨_,rfl,h⟩
theorem Z5k (u:Value):∀(m:Nat)(acc:Array Value),(List.replicate m (#[u]:Array Value)).foldl (fun x1 x2=>x1++x2) acc=acc++(List.replicate m u).toArray
 |0,acc=>by simp
 |m+1,acc=>by rw[List.replicate_succ,List.foldl_cons,Z5k u m];apply Array.ext';simp[List.replicate_succ]
theorem Z8x {v:V}{u:Value}(r:RelV v u):∀ m:Nat,Vals (List.replicate m v) (List.replicate m u)
 |0=>.nil
 |m+1=>.cons r (Z8x r m)
theorem Za8 {prog:Program}{w:World}{A:Around}{E:L2.VSP}{s:Shared}{t sl:Addr}{items:Array Value}{vl vu:Value}{lo hi:Option Int}{Q:L2.VSP}(ht:IsTup s.heap t items)(hs:s.heap.IsSliceOf sl vl vu .none)(pl:IsPart vl lo)(pu:IsPart vu hi)
  (hw:HT.sIx items.size 0 lo=0/\HT.sIx items.size items.size hi=items.size)(h:Q (.ref t) s):wpAny (model prog w) A (getItem (.ref t) (.ref sl)) Q E s:=by
 obtain⟨os,hos,hcs,hds⟩:=id hs;have ts:s.TypeIs (.ref sl) "slice" := ⟨os,hos,hcs⟩
 unfold getItem;(try with_reducible refine wpAny_holding ?_);(first|refine wpAny_bind (wpAny_pure ?_)|skip);refine wpAny_bind (wpAny_sequenceKey ht.typeIs (by decide) ?_);refine wpAny_bind (wpAny_callSpecial?_slot (name:=Str.ofString "__getitem__") ht.typeIs PyProof.Rows.slot_tuple_getitem (wpAny_call_entry PyProof.Rows.slot_tuple_getitem ht.typeIs entry_tuple_getitem ?_ (args_tuple_getitem _ _)));show wpAny _ _ (Builtin.Tuple.tupleItemsOf (.ref t) >>= _) _ _ s;refine wpAny_bind (tupleItemsOf_ ht ?_);refine wpAny_bind (wpAny_typeOf ts ?_);rw[if_pos (by decide)];refine wpAny_bind (HT.sliceApplied_gen hs pl pu ?_);show wpAny _ _ (if (((HT.sIx items.size 0 lo:Nat):Int)==0&&(1:Int)==1&&(HT.sIx items.size items.size hi-HT.sIx items.size 0 lo)==items.size)=true then _ else _) _ _ s;rw[if_pos (by rw[hw.1,hw.2];simp)];unfold Builtin.Tuple.tupleIsExact;refine wpAny_bind (wpAny_bind (wpAny_typeOf ht.typeIs (wpAny_pure ?_)));rw[if_pos (by decide)];refine wpAny_bind (wpAny_rule ?_);first
  |exact wpAny_pure ⟨_,rfl,wpAny_pure h⟩
  |exact wpAny_bind (wpAny_pure (wpAny_pure ⟨_,rfl,wpAny_pure h⟩))
def rSlW (K:L2.Fg):V->Option Int->Option Int->Hp->VK->Prop:=fun x lo hi H Q=>∃ a xs,x=.ref a/\SqT K H a xs/\(HT.sIx xs.length 0 lo=0/\HT.sIx xs.length xs.length hi=xs.length)/\Q (.ref a) H
theorem Zcd:SlR X (rSlW X.K):=by
 intro pins s σ H x v vl vu lo hi sl Q I rx hs pl pu h;obtain⟨a,xs,rfl,hx,hw,q⟩:=h
 cases rx;obtain⟨its,r,ht,hz⟩:=I.tuple hx;have hlen:its.toArray.size=xs.length:=by rw[List.size_toArray];exact r.length.symm
 exact⟨"tuple",_,PyProof.Rows.slot_tuple_getitem.lookup,ht.typeIs,Za8 ht hs pl pu (by rw[hlen];exact hw) ⟨.ref a,H,I,rfl,q⟩⟩
end
theorem Zk2 {X:Cx}{K:L2.Fg}{es:List Expr}{k:Nat}{t:TGs}{n:Nat}{pos:Pos}(hK:X.K=K)(hc:X.calm=true)(h:PGs X es t)(hn:(assignEach es X.env).length=n:=by rfl)(hst:(assignEach es X.env).findIdx? (·.1)=none:=by rfl):PG X (.Tuple es k pos) (gTup K n t):=
 hK▸Zn0 hc h hn hst
section
variable {X:Cx}{K:L2.Fg}{H:Hp}{Q:VK}
theorem Zhk:∀(bs:List Bool),((List.range bs.length).any fun i=>(bs[i]?).getD false)=bs.any id
 |[]=>rfl
 |b::r=>by
  rw[List.length_cons,List.range_succ_eq_map,List.any_cons,List.any_map,List.any_cons,<-Zhk r];rfl
def rAny (K:L2.Fg):List V->Hp->VK->Prop:=fun xs H Q=>∃(p:Addr)(bs:List Bool),xs=[.ref p]/\SqL K H p (bs.map V.bl)/\Q (.bl (bs.any id)) H
theorem Zce (hc:X.calm=true):Z10 X (.builtin "any") (rAny X.K):=by
 intro pins s σ H xs us Q I r h;obtain⟨p,bs,rfl,hq,q⟩:=h;obtain⟨u,rfl,ru⟩:=Z2o r
 cases ru;obtain⟨its,rv,pl,hz⟩:=I.list hq;have ei:=Z8w rv;subst ei;have lt:p<s.heap.objs.size:=by obtain⟨o,e,_⟩:=pl.isList;exact Heap.lt_size e
 refine call_any_walk (wpAny_pyIter_list pl.isList ?_);refine⟨s.heap.objs.size,[s.heap.objs.size,p],[s.heap.objs.size],(bs.map Value.bool).toArray.size,_,_,fun i=>(bs[i]?).getD false,rfl,Walks.list (A:=X.A.in1) (I.ok.hd hc) _ p (Nat.ne_of_lt lt) (bs.map Value.bool).toArray,
  ⟨⟨_,Heap.get?_push_size _ rfl,rfl,rfl⟩,pl.isList.push _⟩,fun i v s' Q' E' hP hQ => ?_,fun h' tk hk => ?_⟩
 ·have hP':(bs.map Value.bool)[i]?=some v:=by simpa using hP
  rw[List.getElem?_map]at hP'
  cases e:bs[i]? with
  |none=>rw[e]at hP';cases hP'
  |some b=>
   rw[e]at hP'
   cases hP';simp only[e,Option.getD_some]at hQ;exact wpAny_truthy_bool hQ
 ·have e:((List.range (bs.map Value.bool).toArray.size).any fun i=>(bs[i]?).getD false)=bs.any id:=by
   rw[List.size_toArray,List.length_map];exact Zhk bs
  rw[e];refine⟨.bl _,H,I.kept (t':=tk) fun b o e=>hk b o (fun hm=>?_) (Heap.get?_push_of_some _ e),rfl,q⟩;rw[List.mem_singleton.mp hm]at e;exact Nat.lt_irrefl _ (Heap.lt_size e)
end
theorem Zcf {X:Cx}{K:L2.Fg}(h:X.K=K):Z10 X (.type "list") (Zc8 K):=h▸Zc9
theorem Zcg {X:Cx}{K:L2.Fg}(h:X.K=K):Z10 X (.type "tuple") (Zc6 K):=h▸Zc7
inductive U where
 |non|bl (b:Bool)|int (i:Int)|str (x:Str)|ty (n:String)|nm (x:Str)|exc (c:Str)(pl:Option Int)|pile
 |tup (xs:List U)|lst (xs:List U)|scr (ns:List Int)|dic (ks vs:List U)
structure Om where
 cs:List Int
 rs:List Int
structure Wd where
 K:PySem.W.Frag
 mg:Str->Option Value
 pa:Addr
 L:List Addr
 pl:Om->Hp->Prop
 st:∀ ω H H',pl ω H->(∀ b o,H b=some o->(b∈L\/∃ x y,o=.frz x y)->H' b=some o)->pl ω H'
def DOb (ob:Obj)(kvs:List (Int×V)):Prop:=∃ es ep,ob.ExactDict/\ob.data=.dict es ep/\Paired (fun(e:DictEntry)(p:Int×V)=>Z38 (.inl p.1) e.key=true/\(∀ w,e.hash=keyH w (.inl p.1))/\RelV p.2 e.val) es.toList kvs/\(kvs.map (·.1)).Nodup
def dE (a:Addr)(ob:Obj)(kvs:List (Int×V)):HO:=.ext fun h=>h.get? a=some ob/\(a==sysModules)=false/\kvs.length<=sizeLine/\DOb ob kvs
def excD (e C d:Addr):HO:=.ext fun h=>∃ o,h.get? e=some o/\o.cls=.ref C/\o.dict=some d/\PySem.W.notCls o=true
mutual
def RU (W:Wd)(H:Hp):U->V->Prop
 |.non,v=>v=.non
 |.bl b,v=>v=.bl b
 |.int i,v=>v=.int i
 |.str x,v=>v=.str x
 |.ty n,v=>v=.ty n
 |.nm x,v=>∃ a,v=.ref a/\W.mg x=some (.ref a)
 |.exc c none,v=>∃ a C,v=.ref a/\W.mg c=some (.ref C)/\H a=some (excO a C)
 |.exc c (some n),v=>∃ a C d,v=.ref a/\W.mg c=some (.ref C)/\H a=some (excD a C d)/\H d=some (.xd [("place",.int n)])
 |.pile,v=>v=.ref W.pa
 |.tup xs,v=>∃ a vs,v=.ref a/\H a=some (.tup vs)/\RUs W H xs vs
 |.lst xs,v=>∃ a vs,v=.ref a/\H a=some (.lst vs)/\RUs W H xs vs
 |.scr ns,v=>∃ a,v=.ref a/\SqL W.K H a (ns.map V.int)
 |.dic ks vs,v=>∃ a ob kvs,v=.ref a/\H a=some (dE a ob kvs)/\ks=kvs.map (fun p=>.int p.1)/\RUs W H vs (kvs.map (·.2))
def RUs (W:Wd)(H:Hp):List U->List V->Prop
 |[],vs=>vs=[]
 |u::us,vs=>∃ v r,vs=v::r/\RU W H u v/\RUs W H us r
end
mutual
theorem RU.mono {W:Wd}{H H':Hp}(s:Same H H'):∀{u:U}{v:V},RU W H u v->RU W H' u v
 |.non,_,h=>by rw[RU]at h ⊢;exact h
 |.bl _,_,h=>by rw[RU]at h ⊢;exact h
 |.int _,_,h=>by rw[RU]at h ⊢;exact h
 |.str _,_,h=>by rw[RU]at h ⊢;exact h
 |.ty _,_,h=>by rw[RU]at h ⊢;exact h
 |.nm _,_,h=>by rw[RU]at h ⊢;exact h
 |.exc _ none,_,h=>by rw[RU]at h ⊢;obtain⟨a,C,e,m,q⟩:=h;exact⟨a,C,e,m,s _ _ q⟩
 |.exc _ (some _),_,h=>by rw[RU]at h ⊢;obtain⟨a,C,d,e,m,q,r⟩:=h;exact⟨a,C,d,e,m,s _ _ q,s _ _ r⟩
 |.pile,_,h=>by rw[RU]at h ⊢;exact h
 |.tup xs,_,h=>by rw[RU]at h ⊢;obtain⟨a,vs,e,q,r⟩:=h;exact⟨a,vs,e,s _ _ q,RUs.mono s r⟩
 |.lst xs,_,h=>by rw[RU]at h ⊢;obtain⟨a,vs,e,q,r⟩:=h;exact⟨a,vs,e,s _ _ q,RUs.mono s r⟩
 |.scr ns,_,h=>by rw[RU]at h ⊢;obtain⟨a,e,q⟩:=h;exact⟨a,e,s.seq q⟩
 |.dic ks vs,_,h=>by rw[RU]at h ⊢;obtain⟨a,ob,kvs,e,q,z,r⟩:=h;exact⟨a,ob,kvs,e,s _ _ q,z,RUs.mono s r⟩
theorem RUs.mono {W:Wd}{H H':Hp}(s:Same H H'):∀{us:List U}{vs:List V},RUs W H us vs->RUs W H' us vs
 |[],_,h=>by rw[RUs]at h ⊢;exact h
 |u::us,_,h=>by rw[RUs]at h ⊢;obtain⟨v,r,e,q,z⟩:=h;exact⟨v,r,e,RU.mono s q,RUs.mono s z⟩
end
section
variable {W:Wd}{H:Hp}
theorem RUs.nil:RUs W H [] []:=by rw[RUs]
theorem RUs.cons {u:U}{us:List U}{v:V}{vs:List V}(h:RU W H u v)(t:RUs W H us vs):RUs W H (u::us) (v::vs):=by rw[RUs];exact⟨v,vs,rfl,h,t⟩
theorem RUs.len:∀{us:List U}{vs:List V},RUs W H us vs->us.length=vs.length
 |[],_,h=>by rw[RUs]at h;subst h;rfl
 |_::us,_,h=>by rw[RUs]at h;obtain⟨v,r,e,_,z⟩:=h;subst e;simp[z.len]
theorem RUs.at {i:Nat}:∀{us:List U}{vs:List V}{u:U}{i:Nat},RUs W H us vs->us[i]?=some u->∃ v,vs[i]?=some v/\RU W H u v
 |[],_,_,_,_,e=>by simp at e
 |_::us,_,u,0,h,e=>by rw[RUs]at h;obtain⟨v,r,e',q,z⟩:=h;subst e';simp at e;subst e;exact⟨v,rfl,q⟩
 |_::us,_,u,i+1,h,e=>by rw[RUs]at h;obtain⟨v,r,e',q,z⟩:=h;subst e';obtain⟨w,g,k⟩:=RUs.at (i:=0) z (show us[i]?=some u by simpa using e);exact⟨w,by simpa using g,k⟩
theorem RUs.app:∀{us ws:List U}{vs xs:List V},RUs W H us vs->RUs W H ws xs->RUs W H (us++ws) (vs++xs)
 |[],_,_,_,h,t=>by rw[RUs]at h;subst h;exact t
 |_::us,_,_,_,h,t=>by rw[RUs]at h;obtain⟨v,r,e,q,z⟩:=h;subst e;exact .cons q (z.app t)
theorem RUs.one {u:U}{v:V}(h:RU W H u v):RUs W H [u] [v]:=.cons h .nil
theorem RUs.drop:∀{us:List U}{vs:List V} (n:Nat),RUs W H us vs->RUs W H (us.drop n) (vs.drop n)
 |_,_,0,h=>h
 |[],_,_+1,h=>by rw[RUs]at h;subst h;exact .nil
 |_::us,_,n+1,h=>by rw[RUs]at h;obtain⟨v,r,e,q,z⟩:=h;subst e;exact z.drop n
theorem RUs.take:∀{us:List U}{vs:List V} (n:Nat),RUs W H us vs->RUs W H (us.take n) (vs.take n)
 |_,_,0,h=>.nil
 |[],_,_+1,h=>by rw[RUs]at h;subst h;exact .nil
 |_::us,_,n+1,h=>by rw[RUs]at h;obtain⟨v,r,e,q,z⟩:=h;subst e;exact .cons q (z.take n)
theorem RUs.rev:∀{us:List U}{vs:List V},RUs W H us vs->RUs W H us.reverse vs.reverse
 |[],_,h=>by rw[RUs]at h;subst h;exact .nil
 |_::us,_,h=>by rw[RUs]at h;obtain⟨v,r,e,q,z⟩:=h;subst e;rw[List.reverse_cons,List.reverse_cons];exact z.rev.app (.one q)
theorem RUs.set:∀{us:List U}{vs:List V}{u:U}{v:V} (n:Nat),RUs W H us vs->RU W H u v->RUs W H (us.set n u) (vs.set n v)
 |[],_,_,_,_,h,_=>by rw[RUs]at h;subst h;exact .nil
 |_::us,_,_,_,0,h,k=>by rw[RUs]at h;obtain⟨v,r,e,q,z⟩:=h;subst e;exact .cons k z
 |_::us,_,_,_,n+1,h,k=>by rw[RUs]at h;obtain⟨v,r,e,q,z⟩:=h;subst e;exact .cons q (z.set n k)
theorem RUs.rep {u:U}{v:V}(h:RU W H u v):∀ n:Nat,RUs W H (List.replicate n u) (List.replicate n v)
 |0=>.nil
 |n+1=>.cons h (RUs.rep h n)
theorem RUs.ints:∀{ns:List Int}{vs:List V},RUs W H (ns.map U.int) vs->vs=ns.map V.int
 |[],_,h=>by rw[List.map_nil,RUs]at h;exact h
 |_::ns,_,h=>by rw[List.map_cons,RUs]at h;obtain⟨v,r,e,q,z⟩:=h;rw[RU]at q;rw[e,q,z.ints];rfl
theorem RUs.bls:∀{ns:List Bool}{vs:List V},RUs W H (ns.map U.bl) vs->vs=ns.map V.bl
 |[],_,h=>by rw[List.map_nil,RUs]at h;exact h
 |_::ns,_,h=>by rw[List.map_cons,RUs]at h;obtain⟨v,r,e,q,z⟩:=h;rw[RU]at q;rw[e,q,z.bls];rfl
theorem RUs.ofInts:∀{ns:List Int},RUs W H (ns.map U.int) (ns.map V.int)
 |[]=>.nil
 |_::ns=>.cons (by rw[RU]) .ofInts
end
inductive Res (α:Type) where
 |ok (a:α)(ω:Om)|err (c:Str)(pl:Option Int)(ω:Om)|stk
def Res.bnd {α β:Type}(r:Res α)(k:α->Om->Res β):Res β:=match r with
 |.ok a ω=>k a ω
 |.err c p ω=>.err c p ω
 |.stk=>.stk
@[simp] theorem Res.bnd_ok {α β:Type}{a:α}{ω:Om}{k:α->Om->Res β}:(Res.ok a ω).bnd k=k a ω:=rfl
@[simp] theorem Res.bnd_err {α β:Type}{c:Str}{p:Option Int}{ω:Om}{k:α->Om->Res β}:(Res.err c p ω:Res α).bnd k=.err c p ω:=rfl
@[simp] theorem Res.bnd_stk {α β:Type}{k:α->Om->Res β}:(Res.stk:Res α).bnd k=.stk:=rfl
def Res.of {α:Type}(o:Option α)(ω:Om):Res α:=match o with
 |some a=>.ok a ω
 |none=>.stk
@[simp] theorem Res.of_some {α:Type}{a:α}{ω:Om}:Res.of (some a) ω=.ok a ω:=rfl
@[simp] theorem Res.of_none {α:Type}{ω:Om}:(Res.of (none:Option α) ω)=.stk:=rfl
abbrev En:=List (Option U)
inductive Fl where
 |nx (ρ:En)(ω:Om)|rt (u:U)(ω:Om)|bk (ρ:En)(ω:Om)|ct (ρ:En)(ω:Om)|err (c:Str)(pl:Option Int)(ω:Om)|stk
structure Md where
 B:List Nat
 M:List Nat
structure Ext (W:Wd)(Hc H Hc' H':Hp):Prop where
 same:∀ b o,b∉W.L->H b=some o->H' b=some o
 sc:Same Hc Hc'
 sub:Same Hc' H'
 new:∀ b,Hc b=none->H b≠none->Hc' b=none
 frz:∀ b,H b≠none->H' b≠none
theorem Ext.refl {W:Wd}{Hc H:Hp}(s:Same Hc H):Ext W Hc H Hc H:=⟨fun ψ ψ ψ h=>h,fun ψ ψ h=>h,s,fun ψ h ψ=>h,fun ψ h=>h⟩
theorem Ext.trans {W:Wd}{Hc H Hc1 H1 Hc2 H2:Hp}(a:Ext W Hc H Hc1 H1)(b:Ext W Hc1 H1 Hc2 H2):Ext W Hc H Hc2 H2:=
 ⟨fun c o n h=>b.same c o n (a.same c o n h),fun c o h=>b.sc c o (a.sc c o h),b.sub,fun c h k=>b.new c (a.new c h k) (a.frz c k),fun c h=>b.frz c (a.frz c h)⟩
structure PlOk (W:Wd)(ω:Om)(Hc H:Hp):Prop where
 pl:W.pl ω H
 out:∀ b∈W.L,Hc b=none/\H b≠none
def XR (Hc:Hp)(pl:Option Int)(od:Option Addr):Prop:=match pl with
 |none=>od=none
 |some n=>∃ d,od=some d/\Hc d=some (.xd [("place",.int n)])
def Aft {α:Type}(W:Wd)(E:XK)(Hc H:Hp)(r:Res α)(k:α->Om->Hp->Hp->Prop):Prop:=match r with
 |.ok a ω=>∀ Hc' H',Ext W Hc H Hc' H'->PlOk W ω Hc' H'->k a ω Hc' H'
 |.err c pl ω=>∀ C od Hc' H',Ext W Hc H Hc' H'->PlOk W ω Hc' H'->W.mg c=some (.ref C)->XR Hc' pl od->E (.ref C) od H'
 |.stk=>False
theorem Aft.ext {α:Type}{W:Wd}{E:XK}{Hc H Hc1 H1:Hp}{r:Res α}{k:α->Om->Hp->Hp->Prop}(e:Ext W Hc H Hc1 H1)(h:Aft W E Hc H r k):Aft W E Hc1 H1 r k:=by
 cases r with
 |ok a ω=>exact fun Hc' H' e' p=>h Hc' H' (e.trans e') p
 |err c pl ω=>exact fun C od Hc' H' e' p=>h C od Hc' H' (e.trans e') p
 |stk=>exact h
theorem Aft.imp {α:Type}{W:Wd}{E:XK}{Hc H:Hp}{r:Res α}{k k':α->Om->Hp->Hp->Prop}(h:Aft W E Hc H r k)(i:∀ a ω Hc' H',Ext W Hc H Hc' H'->PlOk W ω Hc' H'->k a ω Hc' H'->k' a ω Hc' H'):Aft W E Hc H r k':=by
 cases r with
 |ok a ω=>exact fun Hc' H' e p=>i a ω Hc' H' e p (h Hc' H' e p)
 |err c pl ω=>exact h
 |stk=>exact h
theorem Aft.bnd {α β:Type}{W:Wd}{E:XK}{Hc H:Hp}{r:Res α}{g:α->Om->Res β}{k:β->Om->Hp->Hp->Prop}(h:Aft W E Hc H (r.bnd g) k):Aft W E Hc H r fun a ω Hc' H'=>Aft W E Hc' H' (g a ω) k:=by
 cases r with
 |ok a ω=>exact fun Hc' H' e p=>Aft.ext e h
 |err c pl ω=>exact h
 |stk=>exact h
def OwO (W:Wd)(Hc:Hp)(a:Addr):U->HO->Prop
 |.lst us,o=>∃ vs,o=.lst vs/\RUs W Hc us vs
 |.dic ks us,o=>∃ ob kvs,o=dE a ob kvs/\ks=kvs.map (fun p=>.int p.1)/\RUs W Hc us (kvs.map (·.2))
 |_,_=>False
theorem OwO.mono {W:Wd}{Hc Hc':Hp}{u:U}{o:HO}{a:Addr}(s:Same Hc Hc')(h:OwO W Hc a u o):OwO W Hc' a u o:=by
 cases u with
 |lst us=>obtain⟨vs,e,r⟩:=h;exact⟨vs,e,r.mono s⟩
 |dic ks us=>obtain⟨ob,kvs,e,k,r⟩:=h;exact⟨ob,kvs,e,k,r.mono s⟩
 |_=>exact h
theorem OwO.ru {W:Wd}{Hc:Hp}{u:U}{o:HO}{a:Addr}(h:OwO W Hc a u o)(q:Hc a=some o):RU W Hc u (.ref a):=by
 cases u with
 |lst us=>obtain⟨vs,e,r⟩:=h;subst e;rw[RU];exact⟨a,vs,rfl,q,r⟩
 |dic ks us=>obtain⟨ob,kvs,e,k,r⟩:=h;subst e;rw[RU];exact⟨a,ob,kvs,rfl,q,k,r⟩
 |_=>exact h.elim
theorem OwO.nfrz {W:Wd}{Hc:Hp}{u:U}{x:Obj}{y:HO}{a:Addr}(h:OwO W Hc a u (.frz x y)):False:=by
 cases u with
 |lst us=>obtain⟨vs,e,r⟩:=h;cases e
 |dic ks us=>obtain⟨ob,kvs,e,k,r⟩:=h;cases e
 |_=>exact h
def RB (W:Wd)(Hc H:Hp)(u:U)(v:V):Prop:=RU W Hc u v\/∃ a o,v=.ref a/\a∉W.L/\H a=some o/\OwO W Hc a u o
theorem RB.ext {W:Wd}{Hc H Hc' H':Hp}{u:U}{v:V}(h:RB W Hc H u v)(e:Ext W Hc H Hc' H'):RB W Hc' H' u v:=by
 rcases h with h|⟨a,o,e2,n,q,r⟩
 ·exact .inl (h.mono e.sc)
 ·exact .inr ⟨a,o,e2,n,e.same _ _ n q,r.mono e.sc⟩
structure Sr (W:Wd)(m:Md)(ρ:En)(ω:Om)(σ:St)(H0 Hc H:Hp)(ow:Nat->Addr):Prop where
 sub:Same Hc H
 s0:∀ b o,b∉W.L->H0 b=some o->H b=some o
 p0:∀ b∈W.L,H0 b≠none
 len:ρ.length=σ.length
 pl:PlOk W ω Hc H
 cl:∀ i u,i∉m.B->i∉m.M->ρ[i]?=some (some u)->∃ v,σ[i]?=some (some v)/\RU W Hc u v
 bo:∀ i u,i∈m.B->i∉m.M->ρ[i]?=some (some u)->∃ v,σ[i]?=some (some v)/\(RU W Hc u v\/∃ a o,v=.ref a/\a∉W.L/\H0 a=some o/\OwO W Hc a u o)
 mu:∀ i u,i∈m.M->ρ[i]?=some (some u)->∃ o,σ[i]?=some (some (.ref (ow i)))/\H (ow i)=some o/\Hc (ow i)=none/\H0 (ow i)=none/\OwO W Hc (ow i) u o
 di:∀ i j u w,i∈m.M->j∈m.M->i≠j->ρ[i]?=some (some u)->ρ[j]?=some (some w)->ow i≠ow j
section
variable {W:Wd}{m:Md}{ρ:En}{ω ω':Om}{σ:St}{H0 Hc H Hc' H':Hp}{ow:Nat->Addr}
theorem Sr.nl (S:Sr W m ρ ω σ H0 Hc H ow){i:Nat}(h:H0 (ow i)=none):ow i∉W.L:=fun z=>S.p0 _ z h
theorem Sr.ext (S:Sr W m ρ ω σ H0 Hc H ow)(e:Ext W Hc H Hc' H')(p:PlOk W ω' Hc' H'):Sr W m ρ ω' σ H0 Hc' H' ow:=by
 refine⟨e.sub,fun b o n h=>e.same b o n (S.s0 b o n h),S.p0,S.len,p,fun i u n1 n2 h=>?_,fun i u n1 n2 h=>?_,fun i u n h=>?_,S.di⟩
 ·obtain⟨v,q,r⟩:=S.cl i u n1 n2 h;exact⟨v,q,r.mono e.sc⟩
 ·obtain⟨v,q,r⟩:=S.bo i u n1 n2 h;refine⟨v,q,?_⟩;rcases r with r|⟨a,o,z2,z3,z4,z5⟩
  ·exact .inl (r.mono e.sc)
  ·exact .inr ⟨a,o,z2,z3,z4,z5.mono e.sc⟩
 ·obtain⟨o,z2,z3,z4,z5,z6⟩:=S.mu i u n h;exact⟨o,z2,e.same _ _ (S.nl z5) z3,e.new _ z4 (by rw[z3];simp),z5,z6.mono e.sc⟩
theorem Sr.muL (S:Sr W m ρ ω σ H0 Hc H ow) (i:Nat)(us:List U)(hi:i∈m.M)(h:ρ[i]?=some (some (.lst us))):∃ us' vs,U.lst us=.lst us'/\σ[i]?=some (some (.ref (ow i)))/\H (ow i)=some (.lst vs)/\Hc (ow i)=none/\H0 (ow i)=none/\RUs W Hc us' vs:=by
 obtain⟨o,z2,z3,z4,z5,vs,e,r⟩:=S.mu i _ hi h;subst e;exact⟨us,vs,rfl,z2,z3,z4,z5,r⟩
theorem Sr.muD (S:Sr W m ρ ω σ H0 Hc H ow) (i:Nat)(ks us:List U)(hi:i∈m.M)(h:ρ[i]?=some (some (.dic ks us))):∃ ob kvs,σ[i]?=some (some (.ref (ow i)))/\H (ow i)=some (dE (ow i) ob kvs)/\Hc (ow i)=none/\H0 (ow i)=none/\ks=kvs.map (fun p=>.int p.1)/\RUs W Hc us (kvs.map (·.2)):=by
 obtain⟨o,z2,z3,z4,z5,ob,kvs,e,k,r⟩:=S.mu i _ hi h;subst e;exact⟨ob,kvs,z2,z3,z4,z5,k,r⟩
theorem Sr.get (S:Sr W m ρ ω σ H0 Hc H ow){i:Nat}{u:U}(h:ρ[i]?=some (some u)):∃ v,σ[i]?=some (some v)/\RB W Hc H u v:=by
 by_cases n2:i∈m.M
 ·obtain⟨o,z2,z3,z4,z5,z6⟩:=S.mu i u n2 h;exact⟨_,z2,.inr ⟨_,o,rfl,S.nl z5,z3,z6⟩⟩
 ·by_cases n1:i∈m.B
  ·obtain⟨v,q,r⟩:=S.bo i u n1 n2 h;refine⟨v,q,?_⟩;rcases r with r|⟨a,o,z2,z3,z4,z5⟩
   ·exact .inl r
   ·exact .inr ⟨a,o,z2,z3,S.s0 _ _ z3 z4,z5⟩
  ·obtain⟨v,q,r⟩:=S.cl i u n1 n2 h;exact⟨v,q,.inl r⟩
end
theorem Ext.laid {W:Wd}{Hc H:Hp}{p:Addr}{o:HO}(s:Same Hc H)(n:H p=none):Ext W Hc H (upd Hc p o) (upd H p o)/\Ext W Hc H Hc (upd H p o):=by
 have nc:Hc p=none:=s.free n;refine⟨⟨fun b u ψ h=>by rw[Z06 (Z0k h n)];exact h,fun b u h=>by rw[Z06 (Z0k h nc)];exact h,fun b u h=>?_,fun b h k=>?_,fun b h=>?_⟩,⟨fun b u ψ h=>by rw[Z06 (Z0k h n)];exact h,fun b u h=>h,fun b u h=>by rw[Z06 (Z0k h nc)];exact s b u h,fun b h k=>h,fun b h=>?_⟩⟩
 ·by_cases e:b=p
  ·subst e;rw[Z05]at h ⊢;exact h
  ·rw[Z06 e]at h ⊢;exact s b u h
 ·rw[Z06 (fun z=>k (by rw[z];exact n))];exact h
 ·by_cases e:b=p
  ·subst e;rw[Z05];simp
  ·rw[Z06 e];exact h
 ·by_cases e:b=p
  ·subst e;rw[Z05];simp
  ·rw[Z06 e];exact h
theorem PlOk.same {W:Wd}{ω:Om}{Hc H Hc' H':Hp}(P:PlOk W ω Hc H)(e:Ext W Hc H Hc' H')(s:Same H H'):PlOk W ω Hc' H':=
 ⟨W.st _ _ _ P.pl fun b o h ψ=>s b o h,fun b hb=>⟨e.new b (P.out b hb).1 (P.out b hb).2,e.frz b (P.out b hb).2⟩⟩
theorem Same.laid {H:Hp}{p:Addr}{o:HO}(n:H p=none):Same H (upd H p o):=fun b u h=>by rw[Z06 (Z0k h n)];exact h
abbrev Ef:=En->Om->Res U
abbrev Tf:=En->Om->Res Bool
abbrev Af:=En->Om->Res (List U)
abbrev Sf:=En->Om->Fl
def DE (W:Wd)(m:Md)(E:XK)(t:TE)(f:Ef):Prop:=∀ H0 ρ ω σ Hc H ow,Sr W m ρ ω σ H0 Hc H ow->∀ Q:VK,Aft W E Hc H (f ρ ω) (fun u ψ Hc' H'=>∀ v,RU W Hc' u v->Q v H')->t σ H Q
def DB (W:Wd)(m:Md)(E:XK)(t:TE)(f:Ef):Prop:=∀ H0 ρ ω σ Hc H ow,Sr W m ρ ω σ H0 Hc H ow->∀ Q:VK,Aft W E Hc H (f ρ ω) (fun u ψ Hc' H'=>∀ v,RB W Hc' H' u v->Q v H')->t σ H Q
def DF (W:Wd)(m:Md)(E:XK)(t:TE)(f:Ef):Prop:=∀ H0 ρ ω σ Hc H ow,Sr W m ρ ω σ H0 Hc H ow->∀ Q:VK,Aft W E Hc H (f ρ ω) (fun u ψ Hc' H'=>∀ us a vs,u=.lst us->Hc' a=none->H a=none->H' a=some (.lst vs)->RUs W Hc' us vs->Q (.ref a) H')->t σ H Q
def DT (W:Wd)(m:Md)(E:XK)(t:TT)(f:Tf):Prop:=∀ H0 ρ ω σ Hc H ow,Sr W m ρ ω σ H0 Hc H ow->∀ Q:Bool->Hp->Prop,Aft W E Hc H (f ρ ω) (fun b ψ ψ H'=>Q b H')->t σ H Q
def RBs (W:Wd)(Hc H:Hp):List Bool->List U->List V->Prop
 |b::bs,u::us,v::vs=>(if b=true then RB W Hc H u v else RU W Hc u v)/\RBs W Hc H bs us vs
 |[],[],[]=>True
 |_,_,_=>False
def DA (W:Wd)(m:Md)(E:XK)(bs:List Bool)(t:TA)(f:Af):Prop:=∀ H0 ρ ω σ Hc H ow,Sr W m ρ ω σ H0 Hc H ow->∀ Q:List V->Hp->Prop,Aft W E Hc H (f ρ ω) (fun us ψ Hc' H'=>∀ vs,RBs W Hc' H' bs us vs->Q vs H')->t σ H Q
def Cont (W:Wd)(m:Md)(E:XK)(Hc0 H0:Hp)(D:Ends)(r:Fl):Prop:=match r with
 |.nx ρ' ω'=>∀ σ' Hc' H' ow',Sr W m ρ' ω' σ' H0 Hc' H' ow'->Ext W Hc0 H0 Hc' H'->D.nx σ' H'
 |.bk ρ' ω'=>∀ σ' Hc' H' ow',Sr W m ρ' ω' σ' H0 Hc' H' ow'->Ext W Hc0 H0 Hc' H'->D.bk σ' H'
 |.ct ρ' ω'=>∀ σ' Hc' H' ow',Sr W m ρ' ω' σ' H0 Hc' H' ow'->Ext W Hc0 H0 Hc' H'->D.ct σ' H'
 |.rt u ω'=>∀ v Hc' H',Ext W Hc0 H0 Hc' H'->PlOk W ω' Hc' H'->RU W Hc' u v->D.rt v H'
 |.err c pl ω'=>∀ C od Hc' H',Ext W Hc0 H0 Hc' H'->PlOk W ω' Hc' H'->W.mg c=some (.ref C)->XR Hc' pl od->E (.ref C) od H'
 |.stk=>False
def DS (W:Wd)(m:Md)(E:XK)(t:TS)(g:Sf):Prop:=∀ H0 Hc0 ρ ω σ Hc H ow,Sr W m ρ ω σ H0 Hc H ow->Ext W Hc0 H0 Hc H->∀ D:Ends,Cont W m E Hc0 H0 D (g ρ ω)->t D σ H
section
variable {W:Wd}{Hc H:Hp}{v:V}
theorem RB.int {i:Int}(h:RB W Hc H (.int i) v):v=.int i:=by rcases h with h|⟨_,_,_,_,_,e⟩;(rw[RU]at h;exact h);cases e
theorem RB.bl {i:Bool}(h:RB W Hc H (.bl i) v):v=.bl i:=by rcases h with h|⟨_,_,_,_,_,e⟩;(rw[RU]at h;exact h);cases e
theorem RB.non (h:RB W Hc H .non v):v=.non:=by rcases h with h|⟨_,_,_,_,_,e⟩;(rw[RU]at h;exact h);cases e
theorem RB.str {i:Str}(h:RB W Hc H (.str i) v):v=.str i:=by rcases h with h|⟨_,_,_,_,_,e⟩;(rw[RU]at h;exact h);cases e
theorem RB.ty {i:String}(h:RB W Hc H (.ty i) v):v=.ty i:=by rcases h with h|⟨_,_,_,_,_,e⟩;(rw[RU]at h;exact h);cases e
theorem RB.tup {us:List U}(h:RB W Hc H (.tup us) v):∃ a vs,v=.ref a/\Hc a=some (.tup vs)/\RUs W Hc us vs:=by
 rcases h with h|⟨_,_,_,_,_,e⟩
 ·rw[RU]at h;exact h
 ·cases e
theorem RB.lst {us:List U}(h:RB W Hc H (.lst us) v)(s:Same Hc H):∃ a vs,v=.ref a/\H a=some (.lst vs)/\RUs W Hc us vs:=by
 rcases h with h|⟨a,o,e2,_,q,vs,e,r⟩
 ·rw[RU]at h;obtain⟨a,vs,e,q,r⟩:=h;exact⟨a,vs,e,s _ _ q,r⟩
 ·subst e;exact⟨a,vs,e2,q,r⟩
theorem RB.dic {ks us:List U}(h:RB W Hc H (.dic ks us) v)(s:Same Hc H):∃ a ob kvs,v=.ref a/\H a=some (dE a ob kvs)/\ks=kvs.map (fun p=>.int p.1)/\RUs W Hc us (kvs.map (·.2)):=by
 rcases h with h|⟨a,o,e2,_,q,ob,kvs,e,k,r⟩
 ·rw[RU]at h;obtain⟨a,ob,kvs,e,q,k,r⟩:=h;exact⟨a,ob,kvs,e,s _ _ q,k,r⟩
 ·subst e;exact⟨a,ob,kvs,e2,q,k,r⟩
theorem RB.scr {ns:List Int}(h:RB W Hc H (.scr ns) v):∃ a,v=.ref a/\SqL W.K Hc a (ns.map V.int):=by
 rcases h with h|⟨_,_,_,_,_,e⟩
 ·rw[RU]at h;exact h
 ·cases e
theorem RB.nm {x:Str}(h:RB W Hc H (.nm x) v):∃ a,v=.ref a/\W.mg x=some (.ref a):=by
 rcases h with h|⟨_,_,_,_,_,e⟩
 ·rw[RU]at h;exact h
 ·cases e
theorem RB.pile (h:RB W Hc H .pile v):v=.ref W.pa:=by
 rcases h with h|⟨_,_,_,_,_,e⟩
 ·rw[RU]at h;exact h
 ·cases e
theorem RU.int {i:Int}:RU W H (.int i) (.int i):=by rw[RU]
theorem RU.bl {i:Bool}:RU W H (.bl i) (.bl i):=by rw[RU]
theorem RU.non:RU W H .non .non:=by rw[RU]
theorem RU.str {i:Str}:RU W H (.str i) (.str i):=by rw[RU]
theorem RU.ty {i:String}:RU W H (.ty i) (.ty i):=by rw[RU]
theorem RU.tup {us:List U}{a:Addr}{vs:List V}(h:H a=some (.tup vs))(r:RUs W H us vs):RU W H (.tup us) (.ref a):=by rw[RU];exact⟨a,vs,rfl,h,r⟩
theorem RU.lst {us:List U}{a:Addr}{vs:List V}(h:H a=some (.lst vs))(r:RUs W H us vs):RU W H (.lst us) (.ref a):=by rw[RU];exact⟨a,vs,rfl,h,r⟩
end
theorem Ext.own {W:Wd}{Hc H Hc' H':Hp}{a:Addr}{o:HO}(e:Ext W Hc H Hc' H')(n1:Hc' a=none)(n2:H a=none)(h:H' a=some o):Ext W Hc H (upd Hc' a o) H':=by
 refine⟨e.same,fun b u q=>?_,fun b u q=>?_,fun b q k=>?_,e.frz⟩
 ·rw[Z06 (Z0k (e.sc b u q) n1)];exact e.sc b u q
 ·by_cases z:b=a
  ·subst z;rw[Z05]at q;cases q;exact h
  ·rw[Z06 z]at q;exact e.sub b u q
 ·rw[Z06 (fun z=>k (by rw[z];exact n2))];exact e.new b q k
theorem PlOk.own {W:Wd}{ω:Om}{Hc H:Hp}{a:Addr}{o:HO}(p:PlOk W ω Hc H)(n:a∉W.L):PlOk W ω (upd Hc a o) H:=⟨p.pl,fun b hb=>⟨by rw[Z06 (fun z:b=a=>n (by rw[<-z];exact hb))];exact(p.out b hb).1,(p.out b hb).2⟩⟩
theorem Ext.frz' {W:Wd}{Hc H Hc' H':Hp}{a:Addr}(e:Ext W Hc H Hc' H')(h:H' a=none):H a=none:=by
 cases q:H a with
 |none=>rfl
 |some o=>exact absurd h (e.frz a (by rw[q];simp))
theorem Same.own {Hc':Hp}{a:Addr}{o:HO}(n1:Hc' a=none):Same Hc' (upd Hc' a o):=Same.laid n1
section
variable {W:Wd}{m:Md}{E:XK}{ta tb:TE}{fa fb:Ef}{i:Nat}{r:R2}{g:U->U->Option U}
theorem DE.b (h:DE W m E ta fa):DB W m E ta fa:=fun H0 ρ ω σ Hc H ow S Q k=>h H0 ρ ω σ Hc H ow S Q (k.imp fun u ψ Hc' H' ψ ψ q v r=>q v (.inl r))
theorem DF.e (h:DF W m E ta fa):DE W m E ta fa:=by
 intro H0 ρ ω σ Hc H ow S Q k;refine h H0 ρ ω σ Hc H ow S Q ?_;revert k
 cases fa ρ ω with
 |ok u ω'=>
  intro k Hc' H' e p us a vs hu n1 n2 ha rr;subst hu;have nl:a∉W.L:=fun z=>(S.pl.out a z).2 n2;exact k (upd Hc' a (.lst vs)) H' (e.own n1 n2 ha) (p.own nl) (.ref a) (.lst Z05 (rr.mono (Same.own n1)))
 |err c pl ω'=>exact fun k=>k
 |stk=>exact fun k=>k
def eVar (i:Nat):Ef:=fun ρ ω=>match ρ[i]? with
 |some (some u)=>.ok u ω
 |_=>.stk
theorem Zhl (h1:i∉m.B)(h2:i∉m.M):DE W m E (tVar i) (eVar i):=by
 intro H0 ρ ω σ Hc H ow S Q h;unfold eVar at h;split at h
 ·rename_i u e
  obtain⟨v,q,r⟩:=S.cl i u h1 h2 e;exact⟨v,q,h Hc H (Ext.refl S.sub) S.pl v r⟩
 ·exact h.elim
theorem Zo0:DB W m E (tVar i) (eVar i):=by
 intro H0 ρ ω σ Hc H ow S Q h;unfold eVar at h;split at h
 ·rename_i u e
  obtain⟨v,q,r⟩:=S.get e;exact⟨v,q,h Hc H (Ext.refl S.sub) S.pl v r⟩
 ·exact h.elim
def eC (u:U):Ef:=fun ψ ω=>.ok u ω
theorem de_c {u:U}{v:V}(h:∀ H,RU W H u v):DE W m E (tC v) (eC u):=fun H0 ρ ω σ Hc H ow S Q k=>k Hc H (Ext.refl S.sub) S.pl v (h Hc)
def eOp (g:U->U->Option U)(fa fb:Ef):Ef:=fun ρ ω=>(fa ρ ω).bnd fun a ω1=>(fb ρ ω1).bnd fun b ω2=>.of (g a b) ω2
def OpU (W:Wd)(r:R2)(g:U->U->Option U):Prop:=∀ Hc H ω u1 u2 x y,Same Hc H->PlOk W ω Hc H->RB W Hc H u1 x->RB W Hc H u2 y->∀ u,g u1 u2=some u->∀ Q:VK,(∀ v Hc' H',Ext W Hc H Hc' H'->PlOk W ω Hc' H'->RU W Hc' u v->Q v H')->r x y H Q
theorem Zfi (o:OpU W r g)(ha:DB W m E ta fa)(hb:DB W m E tb fb):DE W m E (tOp r ta tb) (eOp g fa fb):=by
 intro H0 ρ ω σ Hc H ow S Q h;refine ha H0 ρ ω σ Hc H ow S _ ((Aft.bnd h).imp fun a ω1 Hc1 H1 e1 p1 h1 x rx=>?_);refine hb H0 ρ ω1 σ Hc1 H1 ow (S.ext e1 p1) _ ((Aft.bnd h1).imp fun b ω2 Hc2 H2 e2 p2 h2 y ry=>?_);revert h2
 cases hg:g a b with
 |none=>exact fun h2=>h2.elim
 |some u=>exact fun h2=>o Hc2 H2 ω2 a b x y e2.sub p2 (rx.ext e2) ry u hg Q fun v Hc' H' e p rv=>h2 Hc' H' e p v rv
def eUn (g:U->Option U)(fa:Ef):Ef:=fun ρ ω=>(fa ρ ω).bnd fun a ω1=>.of (g a) ω1
theorem Zse {q:V->Hp->VK->Prop}{g:U->Option U}(o:∀ Hc H ω u1 x,Same Hc H->PlOk W ω Hc H->RB W Hc H u1 x->∀ u,g u1=some u->∀ Q:VK,(∀ v Hc' H',Ext W Hc H Hc' H'->PlOk W ω Hc' H'->RU W Hc' u v->Q v H')->q x H Q)(ha:DB W m E ta fa):DE W m E (tUn q ta) (eUn g fa):=by
 intro H0 ρ ω σ Hc H ow S Q h;refine ha H0 ρ ω σ Hc H ow S _ ((Aft.bnd h).imp fun a ω1 Hc1 H1 e1 p1 h1 x rx=>?_);revert h1
 cases hg:g a with
 |none=>exact fun h2=>h2.elim
 |some u=>exact fun h2=>o Hc1 H1 ω1 a x e1.sub p1 rx u hg Q fun v Hc' H' e p rv=>h2 Hc' H' e p v rv
def uNeg:U->Option U
 |.int a=>some (.int (-a))
 |_=>none
theorem Zo1 (ha:DB W m E ta fa):DE W m E (tUn (rU fun i=>.int (-i)) ta) (eUn uNeg fa):=Zse (fun Hc H ω u1 x s p rx u hg Q k=>by
 unfold uNeg at hg;split at hg
 ·cases hg;have:=rx.int;subst this;exact⟨_,rfl,k _ Hc H (Ext.refl s) p .int⟩
 ·cases hg) ha
theorem OpU.I0 {g:U->U->Option U}{q:Int->Int->V}{f:Int->Int->U}(hq:∀ H a b,RU W H (f a b) (q a b))(hg:∀ a b u,g a b=some u->∃ i j,a=.int i/\b=.int j/\u=f i j):OpU W (rI0 q) g:=by
 intro Hc H ω u1 u2 x y s p rx ry u e Q k;obtain⟨i,j,rfl,rfl,rfl⟩:=hg _ _ _ e;have:=rx.int;subst this;have:=ry.int;subst this
 exact⟨i,j,rfl,rfl,k _ Hc H (Ext.refl s) p (hq _ _ _)⟩
theorem OpU.IC {g:U->U->Option U}{C:Int->Int->Prop}{q:Int->Int->V}{f:Int->Int->U}(hq:∀ H a b,RU W H (f a b) (q a b))(hg:∀ a b u,g a b=some u->∃ i j,a=.int i/\b=.int j/\C i j/\u=f i j):OpU W (rI C q) g:=by
 intro Hc H ω u1 u2 x y s p rx ry u e Q k;obtain⟨i,j,rfl,rfl,c,rfl⟩:=hg _ _ _ e;have:=rx.int;subst this;have:=ry.int;subst this
 exact⟨i,j,rfl,rfl,c,k _ Hc H (Ext.refl s) p (hq _ _ _)⟩
def uSub:U->U->Option U
 |.int a,.int b=>some (.int (a-b))
 |_,_=>none
theorem Zo2:OpU W (rI0 fun i j=>.int (i-j)) uSub:=.I0 (fun ψ ψ ψ=>.int) fun a b u h=>by
 unfold uSub at h;split at h<;>cases h;exact⟨_,_,rfl,rfl,rfl⟩
def uLt:U->U->Option U
 |.int a,.int b=>some (.bl (decide (a<b)))
 |_,_=>none
def uLe:U->U->Option U
 |.int a,.int b=>some (.bl (decide (a<=b)))
 |_,_=>none
def uGt:U->U->Option U
 |.int a,.int b=>some (.bl (decide (b<a)))
 |_,_=>none
def uGe:U->U->Option U
 |.int a,.int b=>some (.bl (decide (b<=a)))
 |_,_=>none
theorem Zsf:OpU W (rI0 fun i j=>.bl (decide (i<j))) uLt:=.I0 (fun ψ ψ ψ=>.bl) fun a b u h=>by
 unfold uLt at h;split at h<;>cases h;exact⟨_,_,rfl,rfl,rfl⟩
theorem Zsg:OpU W (rI0 fun i j=>.bl (decide (i<=j))) uLe:=.I0 (fun ψ ψ ψ=>.bl) fun a b u h=>by
 unfold uLe at h;split at h<;>cases h;exact⟨_,_,rfl,rfl,rfl⟩
theorem Zo3:OpU W (rI0 fun i j=>.bl (decide (j<i))) uGt:=.I0 (fun ψ ψ ψ=>.bl) fun a b u h=>by
 unfold uGt at h;split at h<;>cases h;exact⟨_,_,rfl,rfl,rfl⟩
theorem Zsh:OpU W (rI0 fun i j=>.bl (decide (j<=i))) uGe:=.I0 (fun ψ ψ ψ=>.bl) fun a b u h=>by
 unfold uGe at h;split at h<;>cases h;exact⟨_,_,rfl,rfl,rfl⟩
open Classical in
def uDiv:U->U->Option U
 |.int a,.int b=>if Zjx a b then some (.int (a/b))else none
 |_,_=>none
theorem Zo4:OpU W (rI Zjx fun i j=>.int (i/j)) uDiv:=.IC (fun ψ ψ ψ=>.int) fun a b u h=>by
 unfold uDiv at h;split at h
 ·split at h<;>cases h;exact⟨_,_,rfl,rfl,by assumption,rfl⟩
 ·cases h
open Classical in
def uMod:U->U->Option U
 |.int a,.int b=>if 0<b then some (.int (a%b))else none
 |_,_=>none
theorem Zo5:OpU W (rI (fun ψ j=>0<j) fun i j=>.int (i%j)) uMod:=.IC (fun ψ ψ ψ=>.int) fun a b u h=>by
 unfold uMod at h;split at h
 ·split at h<;>cases h;exact⟨_,_,rfl,rfl,by assumption,rfl⟩
 ·cases h
open Classical in
def uPow:U->U->Option U
 |.int a,.int b=>if CPow a b then some (.int (a ^ b.toNat))else none
 |_,_=>none
theorem Zo6:OpU W (rI CPow fun i j=>.int (i ^ j.toNat)) uPow:=.IC (fun ψ ψ ψ=>.int) fun a b u h=>by
 unfold uPow at h;split at h
 ·split at h<;>cases h;exact⟨_,_,rfl,rfl,by assumption,rfl⟩
 ·cases h
open Classical in
def uMul:U->U->Option U
 |.int a,.int b=>if Zc0 a b then some (.int (a*b))else none
 |_,_=>none
theorem Zo7:OpU W (rI Zc0 fun i j=>.int (i*j)) uMul:=.IC (fun ψ ψ ψ=>.int) fun a b u h=>by
 unfold uMul at h;split at h
 ·split at h<;>cases h;exact⟨_,_,rfl,rfl,by assumption,rfl⟩
 ·cases h
theorem Z1k {ω:Om}{Hc H:Hp}{p:Addr}{o:HO}(s:Same Hc H)(P:PlOk W ω Hc H)(n:H p=none):Ext W Hc H (upd Hc p o) (upd H p o)/\PlOk W ω (upd Hc p o) (upd H p o):=
 ⟨(Ext.laid s n).1,P.same (Ext.laid s n).1 (Same.laid n)⟩
theorem Z0v {ω:Om}{Hc H:Hp}{p:Addr}{o:HO}(s:Same Hc H)(P:PlOk W ω Hc H)(n:H p=none):Ext W Hc H Hc (upd H p o)/\PlOk W ω Hc (upd H p o):=
 ⟨(Ext.laid s n).2,P.same (Ext.laid s n).2 (Same.laid n)⟩
def Zo8:R2:=fun x y H Q=>∃ a b ys,x=.ref a/\y=.ref b/\H a=some (.tup [])/\H b=some (.tup ys)/\Q (.ref b) H
theorem Zk3 {X:Cx}:OpR X (binaryOp .Add) Zo8:=by
 intro pins s σ H x y v u Q I rx ry h;obtain⟨a,b,ys,rfl,rfl,ha,hb,q⟩:=h
 cases rx
 cases ry;obtain⟨its,r1,p1,_⟩:=I.tuple (SqT.of (K:=X.K) ha);obtain⟨jts,r2,p2,_⟩:=I.tuple (SqT.of (K:=X.K) hb);have e1:its=[]:=r1.nil_iff.mpr rfl;obtain⟨⟨c1,d1,t1,l1⟩,g1,hc1,n1,hd1⟩:=id p1;obtain⟨⟨c2,d2,t2,l2⟩,g2,hc2,n2,hd2⟩:=id p2;simp only at hc1 hd1 hc2 hd2;subst hc1 hd1 hc2 hd2;exact concat_meets ⟨_,g1,rfl⟩ ⟨_,g2,rfl⟩ noFill_tuple_add seq_tuple_add PySem.F.slot_tuple_add PySem.F.entry_tuple_add (PySem.F.args_tuple_add_2 _ _) (Zs9 a b its.toArray jts.toArray n1 n2 d1 d2 l1 l2 (by simp[e1])) ⟨g1,g2,⟨.ref b,H,I,rfl,q⟩⟩
def Zo9 (K:L2.Fg):R2:=fun x y H Q=>rI0 (fun i j=>.int (i+j)) x y H Q\/rCat x y H Q\/Znk K x y H Q\/Zo8 x y H Q
theorem Zk4 {X:Cx}{K:L2.Fg}(h:X.K=K):OpR X (binaryOp .Add) (Zo9 K):=h▸Zn5.or (Zno.or (Zjk.or Zk3))
open Classical in
def uAdd:U->U->Option U
 |.int a,.int b=>some (.int (a+b))
 |.lst a,.lst b=>if a.length+b.length<=sizeLine then some (.lst (a++b))else none
 |.tup a,.tup b=>if a.length+b.length<=sizeLine then some (.tup (a++b))else none
 |_,_=>none
theorem Zsi {ω:Om}{Hc H:Hp}{us ws:List U}{x y:V}{Q:VK}(s:Same Hc H)(p:PlOk W ω Hc H)(rx:RB W Hc H (.lst us) x)(ry:RB W Hc H (.lst ws) y)(hl:us.length+ws.length<=sizeLine)
  (k:∀ a vs,H a=none->RUs W Hc (us++ws) vs->Q (.ref a) (upd H a (.lst vs))):rCat x y H Q:=by
 obtain⟨a,vs,rfl,h1,r1⟩:=rx.lst s;obtain⟨b,zs,rfl,h2,r2⟩:=ry.lst s;exact⟨a,b,vs,zs,rfl,rfl,h1,h2,by rw[<-r1.len,<-r2.len];exact hl,fun q n=>k q _ n (r1.app r2)⟩
theorem Zoa:OpU W (Zo9 W.K) uAdd:=by
 intro Hc H ω u1 u2 x y s p rx ry u e Q k;unfold uAdd at e;split at e
 ·cases e;have:=rx.int;subst this;have:=ry.int;subst this
  exact .inl ⟨_,_,rfl,rfl,k _ Hc H (Ext.refl s) p .int⟩
 ·split at e<;>cases e
  exact .inr (.inl (Zsi s p rx ry (by assumption) fun a vs n rr=>k _ _ _ (Z1k s p n).1 (Z1k s p n).2 (.lst Z05 (rr.mono (Same.laid (s.free n))))))
 ·split at e<;>cases e
  obtain⟨a,vs,rfl,h1,r1⟩:=rx.tup;obtain⟨b,zs,rfl,h2,r2⟩:=ry.tup;by_cases z:vs=[]
  ·subst z;have l:=r1.len;have l0:(_:List U)=[]:=List.length_eq_zero_iff.mp l;exact .inr (.inr (.inr ⟨a,b,zs,rfl,rfl,s _ _ h1,s _ _ h2,k _ Hc H (Ext.refl s) p (.tup h2 (by rw[l0];exact r2))⟩))
  ·refine .inr (.inr (.inl ⟨a,b,vs,zs,rfl,rfl,.of (s _ _ h1),.of (s _ _ h2),z,by rw[<-r1.len,<-r2.len];assumption,fun z2=>?_,fun ψ q n=>?_⟩))
   ·subst z2;have l0:(_:List U)=[]:=List.length_eq_zero_iff.mp r2.len;exact k _ Hc H (Ext.refl s) p (.tup h1 (by rw[l0,List.append_nil];exact r1))
   ·exact k _ _ _ (Z1k s p n).1 (Z1k s p n).2 (.tup Z05 ((r1.app r2).mono (Same.laid (s.free n))))
 ·cases e
def Zob:R2:=fun x y H Q=>∃ a k v,x=.ref a/\y=.int k/\H a=some (.tup [v]) /\ -10000<=k/\k<=10000/\(k=1->Q (.ref a) H)/\(k≠1->∀ p,H p=none->Q (.ref p) (upd H p (.tup (List.replicate k.toNat v))))
theorem Zfj {X:Cx}:OpR X (binaryOp .Mult) Zob:=by
 intro pins s σ H x y v u Q I rx ry h;obtain⟨a,k,w,rfl,rfl,ha,k0,k1,qa,qb⟩:=h
 cases rx;obtain⟨t,rfl⟩:=ry;obtain⟨its,r1,p1,_⟩:=I.tuple (SqT.of (K:=X.K) ha);obtain⟨u,rfl,ru⟩:=Vals.one r1;obtain⟨⟨c1,d1,t1,l1⟩,g1,hc1,n1,hd1⟩:=id p1;simp only at hc1 hd1;subst hc1 hd1;have c1:(decide (k < -2 ^ 63)||decide (k≥2 ^ 63))=false:=by rw[decide_eq_false (by lia),decide_eq_false (by lia)];rfl
 refine wpAny_binaryOp_repeat_ref (T := "tuple") (U := "int") (by decide) ⟨_,g1,rfl⟩ (fun s'=>typeIs_int s' k t) Z3v F.fills_int_mul F.slot_int_rmul Z6o F.slot_int_index.lookup
  (call_meets F.slot_int_rmul (typeIs_int s k t) F.entry_int_rmul (F.args_int_rmul_2 _ _) (Zsa k t a #[u] n1 d1 l1) ⟨g1,rfl,⟨_,g1,rfl⟩,?_⟩)
 by_cases e1:k=1
 ·exact call_meets F.slot_tuple_mul ⟨_,g1,rfl⟩ F.entry_tuple_mul (F.args_tuple_mul_2 _ _) (Zsb k t a u n1 d1 l1 e1) ⟨g1,⟨.ref a,H,I,rfl,qa e1⟩⟩
 ·have c2:((#[u]:Array Value).isEmpty||k==1)=false:=by simp[e1]
  by_cases e2:k<=0
  ·have z:k.toNat=0:=by lia
   have qb':=qb e1 _ (I.hok.fresh (Nat.le_refl _));rw[z]at qb';exact call_meets F.slot_tuple_mul ⟨_,g1,rfl⟩ F.entry_tuple_mul (F.args_tuple_mul_2 _ _) (Zsc k t a u n1 d1 l1 c1 c2 (by simp[e2])) ⟨g1,⟨.ref s.heap.objs.size,_,I.laid (t':=s.toks) (o:=.tup []) (fun b ob q=>Heap.get?_push_of_some _ q) (Nat.le_refl _) ⟨Nat.zero_le _,[],.nil,IsTup.new _ _⟩,rfl,qb'⟩⟩
  ·have lk:k.toNat<=sizeLine:=Nat.le_trans (show k.toNat<=10000 by lia) (by decide);refine call_meets F.slot_tuple_mul ⟨_,g1,rfl⟩ F.entry_tuple_mul (F.args_tuple_mul_2 _ _) (Zsd k t a u n1 d1 l1 c1 c2 (by simp;lia) (by simp;lia) ?_ ?_) ⟨g1,?_⟩
   ·unfold Builtin.Tuple.tupleTooMany;refine decide_eq_false ?_;have z:(10000:Int)<=(sizeLine:Int):=by decide
    simp;lia
   ·rw[Z5k];simpa using lk
   ·rw[Z5k,show(#[]:Array Value)++(List.replicate k.toNat u).toArray=(List.replicate k.toNat u).toArray by simp];exact⟨.ref s.heap.objs.size,_,I.laid (t':=s.toks) (o:=.tup (List.replicate k.toNat w)) (fun b ob q=>Heap.get?_push_of_some _ q) (Nat.le_refl _) ⟨by simpa using lk,_,Z8x ru _,IsTup.new _ _⟩,rfl,qb e1 _ (I.hok.fresh (Nat.le_refl _))⟩
def Zoc:R2:=fun x y H Q=>Zob x y H Q\/rRep x y H Q
theorem Zk5 {X:Cx}:OpR X (binaryOp .Mult) Zoc:=Zfj.or Znp
theorem Zfk {α:Type}(x:α) (n:Nat):(List.replicate n [x]).flatten=List.replicate n x:=by
 induction n with
 |zero=>rfl
 |succ n ih=>rw[List.replicate_succ,List.flatten_cons,ih];rfl
open Classical in
def uRep:U->U->Option U
 |.tup [x],.int k=>if -10000<=k/\k<=10000 then some (.tup (List.replicate k.toNat x))else none
 |.lst [x],.int k=>if -10000<=k/\k<=10000 then some (.lst (List.replicate k.toNat x))else none
 |_,_=>none
theorem Zsj {ω:Om}{Hc H:Hp}{u:U}{k:Int}{x y:V}{Q:VK}(s:Same Hc H)(rx:RB W Hc H (.lst [u]) x)(ry:RB W Hc H (.int k) y)(hk: -10000<=k/\k<=10000)
  (kk:∀ a vs,H a=none->RUs W Hc (List.replicate k.toNat u) vs->Q (.ref a) (upd H a (.lst vs))):rRep x y H Q:=by
 obtain⟨a,vs,rfl,h1,r1⟩:=rx.lst s;have:=ry.int;subst this
 rw[RUs]at r1;obtain⟨v,r,rfl,r1,r2⟩:=r1;rw[RUs]at r2;subst r2;have z:(10000:Nat)<=sizeLine:=by decide
 exact⟨a,k,[v],rfl,rfl,h1,by lia,by lia,by simp;lia,fun q n=>by rw[Zfk];exact kk q _ n (RUs.rep r1 _)⟩
theorem Zod:OpU W Zoc uRep:=by
 intro Hc H ω u1 u2 x y s p rx ry u e Q k;unfold uRep at e;split at e
 ·split at e<;>cases e
  rename_i hk
  obtain⟨a,vs,rfl,h1,r1⟩:=rx.tup;have:=ry.int;subst this
  have r0:=r1;rw[RUs]at r1;obtain⟨v,r,rfl,r1,r2⟩:=r1;rw[RUs]at r2;subst r2;refine .inl ⟨a,_,v,rfl,rfl,s _ _ h1,hk.1,hk.2,fun z=>?_,fun z q n=>k _ _ _ (Z1k s p n).1 (Z1k s p n).2 (.tup Z05 ((RUs.rep r1 _).mono (Same.laid (s.free n))))⟩;subst z;exact k _ Hc H (Ext.refl s) p (.tup h1 r0)
 ·split at e<;>cases e
  exact .inr (Zsj (ω:=ω) s rx ry (by assumption) fun a vs n rr=>k _ _ _ (Z1k s p n).1 (Z1k s p n).2 (.lst Z05 (rr.mono (Same.laid (s.free n)))))
 ·cases e
end
section
variable {W:Wd}{m:Md}{E:XK}{ta:TE}{fa:Ef}{i:Nat}{r:R2}{g:U->U->Option U}
theorem RUs.atI {H:Hp}{us:List U}{vs:List V}{k:Int}{u:U}(r:RUs W H us vs)(h:L2.atI us k=some u):∃ v,L2.atI vs k=some v/\RU W H u v:=by
 unfold L2.atI at h ⊢;rw[<-r.len]
 cases e:ixN us.length k with
 |none=>rw[e]at h;cases h
 |some j=>rw[e]at h;exact r.at (i:=0) h
def uIx:U->U->Option U
 |.lst us,.int k=>atI us k
 |.tup us,.int k=>atI us k
 |_,_=>none
theorem Zsk:OpU W (rIxA W.K) uIx:=by
 intro Hc H ω u1 u2 x y s p rx ry u e Q k;unfold uIx at e;split at e
 ·obtain⟨a,vs,rfl,h1,r1⟩:=rx.lst s;have:=ry.int;subst this
  obtain⟨v,hv,rv⟩:=r1.atI e;exact .inl ⟨a,vs,_,v,rfl,rfl,.of h1,hv,k v Hc H (Ext.refl s) p rv⟩
 ·obtain⟨a,vs,rfl,h1,r1⟩:=rx.tup;have:=ry.int;subst this
  obtain⟨v,hv,rv⟩:=r1.atI e;exact .inr ⟨a,vs,_,v,rfl,rfl,.of (s _ _ h1),hv,k v Hc H (Ext.refl s) p rv⟩
 ·cases e
abbrev Pf:=En->Om->Res (Option Int)
def DP (W:Wd)(m:Md)(E:XK)(t:TO)(f:Pf):Prop:=∀ H0 ρ ω σ Hc H ow,Sr W m ρ ω σ H0 Hc H ow->∀ Q:Option Int->Hp->Prop,Aft W E Hc H (f ρ ω) (fun o ψ ψ H'=>Q o H')->t σ H Q
def pNo:Pf:=fun ψ ω=>.ok none ω
theorem Zsl:DP W m E Zbu pNo:=fun H0 ρ ω σ Hc H ow S Q k=>k Hc H (Ext.refl S.sub) S.pl
def asI:U->Option (Option Int)
 |.int i=>some (some i)
 |_=>none
def Zfl (fa:Ef):Pf:=fun ρ ω=>(fa ρ ω).bnd fun u ω1=>.of (asI u) ω1
theorem Zk6 (ha:DB W m E ta fa):DP W m E (Zni ta) (Zfl fa):=by
 intro H0 ρ ω σ Hc H ow S Q h;refine ha H0 ρ ω σ Hc H ow S _ ((Aft.bnd h).imp fun a ω1 Hc1 H1 e1 p1 h1 x rx=>?_);revert h1
 cases a with
 |int i=>intro h1;have:=rx.int;subst this;exact⟨i,rfl,h1 Hc1 H1 (Ext.refl e1.sub) p1⟩
 |_=>exact fun h1=>h1.elim
def cutG {α:Type}(xs:List α)(lo hi:Option Int):List α:=(xs.drop (HT.sIx xs.length 0 lo)).take (HT.sIx xs.length xs.length hi-HT.sIx xs.length 0 lo)
def rSlU (K:L2.Fg):V->Option Int->Option Int->Hp->VK->Prop:=fun x lo hi H Q=>rSlL K x lo hi H Q\/rSlT K x lo hi H Q\/rSlW K x lo hi H Q
theorem sl_u {X:Cx}{K:L2.Fg}(h:X.K=K):SlR X (rSlU K):=h▸Zjn.or (Znj.or Zcd)
def uSl:U->Option Int->Option Int->Option U
 |.lst us,lo,hi=>some (.lst (cutG us lo hi))
 |.tup us,lo,hi=>some (.tup (cutG us lo hi))
 |_,_,_=>none
def uSlL:U->Option Int->Option Int->Option U
 |.lst us,lo,hi=>some (.lst (cutG us lo hi))
 |_,_,_=>none
def eSl (g:U->Option Int->Option Int->Option U)(fa:Ef)(fl fh:Pf):Ef:=fun ρ ω=>(fa ρ ω).bnd fun a ω1=>(fl ρ ω1).bnd fun l ω2=>(fh ρ ω2).bnd fun h ω3=>.of (g a l h) ω3
theorem Zk7 {H:Hp}{us:List U}{vs:List V}{lo hi:Option Int}(r:RUs W H us vs):RUs W H (cutG us lo hi) (cutV vs lo hi):=by
 unfold cutG cutV;rw[<-r.len];exact(r.drop _).take _
theorem Zsm {tl th:TO}{fl fh:Pf}(ha:DB W m E ta fa)(hl:DP W m E tl fl)(hh:DP W m E th fh):DE W m E (tSl (rSlU W.K) ta tl th) (eSl uSl fa fl fh):=by
 intro H0 ρ ω σ Hc H ow S Q h;refine ha H0 ρ ω σ Hc H ow S _ ((Aft.bnd h).imp fun a ω1 Hc1 H1 e1 p1 h1 x rx=>?_);have S1:=S.ext e1 p1;refine hl H0 ρ ω1 σ Hc1 H1 ow S1 _ ((Aft.bnd h1).imp fun l ω2 Hc2 H2 e2 p2 h2=>?_);refine hh H0 ρ ω2 σ Hc2 H2 ow (S1.ext e2 p2) _ ((Aft.bnd h2).imp fun hi ω3 Hc3 H3 e3 p3 h3=>?_);have rx3:=(rx.ext e2).ext e3;have s:=e3.sub;revert h3
 cases a with
 |lst us=>
  intro h3;obtain⟨a,vs,rfl,q1,r1⟩:=rx3.lst s;exact .inl ⟨a,vs,rfl,.of q1,fun p n=>h3 _ _ (Z1k s p3 n).1 (Z1k s p3 n).2 _ (.lst Z05 ((Zk7 r1).mono (Same.laid (s.free n))))⟩
 |tup us=>
  intro h3;obtain⟨a,vs,rfl,q1,r1⟩:=rx3.tup;by_cases z:HT.sIx vs.length 0 l=0/\HT.sIx vs.length vs.length hi=vs.length
  ·refine .inr (.inr ⟨a,vs,rfl,.of (s _ _ q1),z,h3 Hc3 H3 (Ext.refl s) p3 _ (.tup q1 ?_)⟩);have e:cutV vs l hi=vs:=by unfold cutV;rw[z.1,z.2];simp
   have r2:=Zk7 (lo:=l) (hi:=hi) r1;rw[e]at r2;exact r2
  ·exact .inr (.inl ⟨a,vs,rfl,.of (s _ _ q1),z,fun p n=>h3 _ _ (Z1k s p3 n).1 (Z1k s p3 n).2 _ (.tup Z05 ((Zk7 r1).mono (Same.laid (s.free n))))⟩)
 |_=>exact fun h3=>h3.elim
mutual
def U.toD:U->Option D
 |.non=>some .non
 |.bl b=>some (.bl b)
 |.int i=>some (.int i)
 |.str x=>some (.str x)
 |.tup xs=>(U.toDs xs).map D.tup
 |_=>none
def U.toDs:List U->Option (List D)
 |[]=>some []
 |u::us=>(U.toD u).bind fun d=>(U.toDs us).map fun ds=>d::ds
end
mutual
theorem Zsn {H:Hp}:∀{u:U}{v:V}{d:D},u.toD=some d->RU W H u v->DV W.K H d v
 |.non,_,_,e,h=>by rw[U.toD]at e;cases e;rw[RU]at h;rw[DV];exact h
 |.bl _,_,_,e,h=>by rw[U.toD]at e;cases e;rw[RU]at h;rw[DV];exact h
 |.int _,_,_,e,h=>by rw[U.toD]at e;cases e;rw[RU]at h;rw[DV];exact h
 |.str _,_,_,e,h=>by rw[U.toD]at e;cases e;rw[RU]at h;rw[DV];exact h
 |.tup xs,_,d,e,h=>by
  rw[U.toD]at e
  cases q:U.toDs xs with
  |none=>rw[q]at e;cases e
  |some ds=>
   rw[q]at e;cases e;rw[RU]at h;obtain⟨a,vs,e1,h1,r1⟩:=h;rw[DV];exact⟨a,vs,e1,.of h1,Z3q q r1⟩
 |.ty _,_,_,e,h=>by rw[U.toD]at e;cases e;all_goals (intros;contradiction)
 |.nm _,_,_,e,h=>by rw[U.toD]at e;cases e;all_goals (intros;contradiction)
 |.exc _ _,_,_,e,h=>by rw[U.toD]at e;cases e;all_goals (intros;contradiction)
 |.pile,_,_,e,h=>by rw[U.toD]at e;cases e;all_goals (intros;contradiction)
 |.lst _,_,_,e,h=>by rw[U.toD]at e;cases e;all_goals (intros;contradiction)
 |.scr _,_,_,e,h=>by rw[U.toD]at e;cases e;all_goals (intros;contradiction)
 |.dic _ _,_,_,e,h=>by rw[U.toD]at e;cases e;all_goals (intros;contradiction)
theorem Z3q {H:Hp}:∀{us:List U}{vs:List V}{ds:List D},U.toDs us=some ds->RUs W H us vs->DVs W.K H ds vs
 |[],_,_,e,h=>by rw[U.toDs]at e;cases e;rw[RUs]at h;rw[DVs];exact h
 |u::us,_,ds,e,h=>by
  rw[U.toDs]at e
  cases q:U.toD u with
  |none=>rw[q]at e;cases e
  |some d=>
   cases q2:U.toDs us with
   |none=>rw[q,q2]at e;cases e
   |some ds2=>
    rw[q,q2]at e;cases e;rw[RUs]at h;obtain⟨v,r,e1,h1,r1⟩:=h;rw[DVs];exact⟨v,r,e1,Zsn q h1,Z3q q2 r1⟩
end
def uEqs (a b:List U):Option Bool:=(U.toDs a).bind fun d=>(U.toDs b).bind fun e=>if D.depths d<=40 then some (D.eqs d e)else none
def uEqI (a:Int):U->Option Bool
 |.int b=>some (decide (a=b))
 |.non=>some false
 |.str _=>some false
 |_=>none
def uEqK (a:Bool):U->Option Bool
 |.bl b=>some (decide (a=b))
 |.non=>some false
 |.str _=>some false
 |_=>none
def uEqS (a:Str):U->Option Bool
 |.str b=>some (decide (a=b))
 |.non=>some false
 |.int _=>some false
 |.bl _=>some false
 |_=>none
def uEqN:U->Option Bool
 |.non=>some true
 |.int _=>some false
 |.bl _=>some false
 |.str _=>some false
 |_=>none
def uEqT (a:List U):U->Option Bool
 |.tup b=>uEqs a b
 |_=>none
def uEqL (a:List U):U->Option Bool
 |.lst b=>uEqs a b
 |_=>none
def uEqB:U->U->Option Bool
 |.tup a=>uEqT a
 |.lst a=>uEqL a
 |.int a=>uEqI a
 |.bl a=>uEqK a
 |.str a=>uEqS a
 |.non=>uEqN
 |_=>fun ψ=>none
def uEq (a b:U):Option U:=(uEqB a b).map U.bl
def uNe (a b:U):Option U:=(uEqB a b).map fun k=>U.bl (!k)
theorem Zhm {Hc H:Hp}{a b:List U}{k:Bool}{vs ws:List V}(s:Same Hc H)(h:uEqs a b=some k)(r1:RUs W Hc a vs)(r2:RUs W Hc b ws):∃ d e,DVs W.K H d vs/\DVs W.K H e ws/\D.depths d<=40/\k=D.eqs d e:=by
 unfold uEqs at h
 cases q:U.toDs a with
 |none=>rw[q]at h;cases h
 |some d=>
  cases q2:U.toDs b with
  |none=>rw[q,q2]at h;cases h
  |some e=>
   rw[q,q2]at h;simp only[Option.bind_some]at h;split at h
   ·cases h;exact⟨d,e,Z3q q (r1.mono s),Z3q q2 (r2.mono s),by assumption,rfl⟩
   ·cases h
theorem noS {α:Type}{a:α}{G:Prop}(h:(none:Option α)=some a):G:=nomatch h
theorem Zoe {ω:Om}{Hc H:Hp}{u1 u2:U}{k:Bool}{x y:V}{Q:VK}(s:Same Hc H)(rx:RB W Hc H u1 x)(ry:RB W Hc H u2 y)(h:uEqB u1 u2=some k) :
  (Q (.bl k) H->rEqA W.K x y H Q)/\(Q (.bl (!k)) H->rNeA W.K x y H Q):=by
 have no:∀{v:V},y=v->scal x v=true->k=decide (x=v)->(Q (.bl k) H->rEqA W.K x y H Q)/\(Q (.bl (!k)) H->rNeA W.K x y H Q):=fun e z d=>by
  subst e;rw[d];exact⟨fun q=>.inl ⟨z,q⟩,fun q=>.inl ⟨z,q⟩⟩
 cases u1 with
 |tup a1=>
  cases u2 with
  |tup b1=>
   obtain⟨a,vs,rfl,h1,r1⟩:=rx.tup;obtain⟨b,ws,rfl,h2,r2⟩:=ry.tup;obtain⟨d,e,q1,q2,q3,rfl⟩:=Zhm s h r1 r2;have d1:DV W.K H (.tup d) (.ref a):=by rw[DV];exact⟨a,vs,rfl,.of (s _ _ h1),q1⟩
   have d2:DV W.K H (.tup e) (.ref b):=by rw[DV];exact⟨b,ws,rfl,.of (s _ _ h2),q2⟩
   exact⟨fun q=>.inr (.inl ⟨d,e,d1,d2,q3,q⟩),fun q=>.inr (.inl ⟨d,e,d1,d2,q3,q⟩)⟩
  |_=>exact noS h
 |lst a1=>
  cases u2 with
  |lst b1=>
   obtain⟨a,vs,rfl,h1,r1⟩:=rx.lst s;obtain⟨b,ws,rfl,h2,r2⟩:=ry.lst s;obtain⟨d,e,q1,q2,q3,rfl⟩:=Zhm s h r1 r2;exact⟨fun q=>.inr (.inr ⟨a,b,vs,ws,d,e,rfl,rfl,.of h1,.of h2,q1,q2,q3,q⟩),fun q=>.inr (.inr ⟨a,b,vs,ws,d,e,rfl,rfl,.of h1,.of h2,q1,q2,q3,q⟩)⟩
  |_=>exact noS h
 |int a=>
  have:=rx.int;subst this
  cases u2 with
  |int b=>cases h;exact no ry.int rfl (by simp)
  |non=>cases h;exact no ry.non rfl rfl
  |str b=>cases h;exact no ry.str rfl rfl
  |_=>exact noS h
 |bl a=>
  have:=rx.bl;subst this
  cases u2 with
  |bl b=>cases h;exact no ry.bl rfl (by simp)
  |non=>cases h;exact no ry.non rfl rfl
  |str b=>cases h;exact no ry.str rfl rfl
  |_=>exact noS h
 |str a=>
  have:=rx.str;subst this
  cases u2 with
  |str b=>cases h;exact no ry.str rfl (by simp)
  |non=>cases h;exact no ry.non rfl rfl
  |int b=>cases h;exact no ry.int rfl rfl
  |bl b=>cases h;exact no ry.bl rfl rfl
  |_=>exact noS h
 |non=>
  have:=rx.non;subst this
  cases u2 with
  |non=>cases h;exact no ry.non rfl rfl
  |int b=>cases h;exact no ry.int rfl rfl
  |bl b=>cases h;exact no ry.bl rfl rfl
  |str b=>cases h;exact no ry.str rfl rfl
  |_=>exact noS h
 |_=>exact noS h
theorem Zof:OpU W (rEqA W.K) uEq:=by
 intro Hc H ω u1 u2 x y s p rx ry u e Q k;unfold uEq at e
 cases q:uEqB u1 u2 with
 |none=>rw[q]at e;cases e
 |some b=>rw[q]at e;cases e;exact(Zoe (ω:=ω) s rx ry q).1 (k _ Hc H (Ext.refl s) p .bl)
theorem Zk8:OpU W (rNeA W.K) uNe:=by
 intro Hc H ω u1 u2 x y s p rx ry u e Q k;unfold uNe at e
 cases q:uEqB u1 u2 with
 |none=>rw[q]at e;cases e
 |some b=>rw[q]at e;cases e;exact(Zoe (ω:=ω) s rx ry q).2 (k _ Hc H (Ext.refl s) p .bl)
theorem Zhn {X:Cx}{K:L2.Fg}(h:X.K=K)(hu:X.A.units+64<cLine):OpR X (compareOp .Eq) (rEqA K):=h▸Znx hu
theorem Zch {X:Cx}{K:L2.Fg}(h:X.K=K)(hu:X.A.units+64<cLine):OpR X (compareOp .NotEq) (rNeA K):=h▸Zny hu
def Z3c:U->Bool
 |.non=>true
 |_=>false
def uIs (neg:Bool):U->U->Option U
 |a,.non=>some (.bl (if neg then !Z3c a else Z3c a))
 |_,_=>none
theorem Zk9 {Hc H:Hp}{u:U}{x:V}(r:RB W Hc H u x):decide (x=.non)=Z3c u:=by
 rcases r with r|⟨a,o,rfl,_,_,r⟩
 ·cases u with
  |non=>rw[RU]at r;subst r;rfl
  |bl b=>rw[RU]at r;subst r;rfl
  |int b=>rw[RU]at r;subst r;rfl
  |str b=>rw[RU]at r;subst r;rfl
  |ty b=>rw[RU]at r;subst r;rfl
  |nm b=>rw[RU]at r;obtain⟨a,rfl,_⟩:=r;rfl
  |exc c pl=>cases pl with
   |none=>rw[RU]at r;obtain⟨a,C,rfl,_⟩:=r;rfl
   |some n=>rw[RU]at r;obtain⟨a,C,d,rfl,_⟩:=r;rfl
  |pile=>rw[RU]at r;subst r;rfl
  |tup b=>rw[RU]at r;obtain⟨a,vs,rfl,_⟩:=r;rfl
  |lst b=>rw[RU]at r;obtain⟨a,vs,rfl,_⟩:=r;rfl
  |scr b=>rw[RU]at r;obtain⟨a,rfl,_⟩:=r;rfl
  |dic b c=>rw[RU]at r;obtain⟨a,ob,kvs,rfl,_⟩:=r;rfl
 ·cases u with
  |lst b=>rfl
  |dic b c=>rfl
  |_=>exact r.elim
theorem Zfm:OpU W (fun x y H Q=>y=.non/\Q (.bl (!decide (x=.non))) H) (uIs true):=by
 intro Hc H ω u1 u2 x y s p rx ry u e Q k;unfold uIs at e;split at e
 ·cases e;exact⟨ry.non,by rw[Zk9 rx];exact k _ Hc H (Ext.refl s) p .bl⟩
 ·cases e
end
section
variable {W:Wd}{m:Md}{E:XK}{ta tb:TE}{fa fb:Ef}{tt tt':TT}{ft ft':Tf}{i:Nat}{r:R2}{g:U->U->Option U}{bs:List Bool}{tr:TA}{fr:Af}
def asB:U->Option Bool
 |.bl b=>some b
 |_=>none
def tfB (fa:Ef):Tf:=fun ρ ω=>(fa ρ ω).bnd fun u ω1=>.of (asB u) ω1
theorem dt_b (ha:DB W m E ta fa):DT W m E (tB ta) (tfB fa):=by
 intro H0 ρ ω σ Hc H ow S Q h;refine ha H0 ρ ω σ Hc H ow S _ ((Aft.bnd h).imp fun a ω1 Hc1 H1 e1 p1 h1 x rx=>?_);revert h1
 cases a with
 |bl b=>intro h1;have:=rx.bl;subst this;exact⟨b,rfl,h1 Hc1 H1 (Ext.refl e1.sub) p1⟩
 |_=>exact fun h1=>h1.elim
theorem dt_t (ha:DB W m E ta fa):DT W m E (Znb ta) (tfB fa):=dt_b ha
def Z2s (ft ft':Tf):Tf:=fun ρ ω=>(ft ρ ω).bnd fun b ω1=>if b=true then ft' ρ ω1 else .ok false ω1
def tfOr (ft ft':Tf):Tf:=fun ρ ω=>(ft ρ ω).bnd fun b ω1=>if b=true then .ok true ω1 else ft' ρ ω1
def Z6p (ft:Tf):Tf:=fun ρ ω=>(ft ρ ω).bnd fun b ω1=>.ok (!b) ω1
def Z1m:Tf:=fun ψ ω=>.ok true ω
theorem Zka:DT W m E Znq Z1m:=fun H0 ρ ω σ Hc H ow S Q k=>k Hc H (Ext.refl S.sub) S.pl
theorem Zog (h1:DT W m E tt ft)(h2:DT W m E tt' ft'):DT W m E (tAnd tt tt') (Z2s ft ft'):=by
 intro H0 ρ ω σ Hc H ow S Q h;refine h1 H0 ρ ω σ Hc H ow S _ ((Aft.bnd h).imp fun b ω1 Hc1 H1 e1 p1 k=>?_)
 cases b with
 |true=>exact h2 H0 ρ ω1 σ Hc1 H1 ow (S.ext e1 p1) Q k
 |false=>exact k Hc1 H1 (Ext.refl e1.sub) p1
theorem Zso (h1:DT W m E tt ft)(h2:DT W m E tt' ft'):DT W m E (tOr tt tt') (tfOr ft ft'):=by
 intro H0 ρ ω σ Hc H ow S Q h;refine h1 H0 ρ ω σ Hc H ow S _ ((Aft.bnd h).imp fun b ω1 Hc1 H1 e1 p1 k=>?_)
 cases b with
 |false=>exact h2 H0 ρ ω1 σ Hc1 H1 ow (S.ext e1 p1) Q k
 |true=>exact k Hc1 H1 (Ext.refl e1.sub) p1
theorem Zoh (h1:DT W m E tt ft):DT W m E (tNot tt) (Z6p ft):=by
 intro H0 ρ ω σ Hc H ow S Q h;exact h1 H0 ρ ω σ Hc H ow S _ ((Aft.bnd h).imp fun b ω1 Hc1 H1 e1 p1 k=>k Hc1 H1 (Ext.refl e1.sub) p1)
def eAnd (fa fb:Ef):Ef:=fun ρ ω=>(fa ρ ω).bnd fun u ω1=>match u with
 |.bl b=>if b=true then fb ρ ω1 else .ok (.bl false) ω1
 |_=>.stk
def eOr (fa fb:Ef):Ef:=fun ρ ω=>(fa ρ ω).bnd fun u ω1=>match u with
 |.bl b=>if b=true then .ok (.bl true) ω1 else fb ρ ω1
 |_=>.stk
theorem Zoi (h1:DB W m E ta fa)(h2:DE W m E tb fb):DE W m E (Zmu ta tb) (eAnd fa fb):=by
 intro H0 ρ ω σ Hc H ow S Q h;refine h1 H0 ρ ω σ Hc H ow S _ ((Aft.bnd h).imp fun u ω1 Hc1 H1 e1 p1 k x rx=>?_);revert k
 cases u with
 |bl b=>
  intro k;have:=rx.bl;subst this
  refine⟨b,rfl,?_⟩
  cases b with
  |true=>exact h2 H0 ρ ω1 σ Hc1 H1 ow (S.ext e1 p1) Q k
  |false=>exact k Hc1 H1 (Ext.refl e1.sub) p1 _ .bl
 |_=>exact fun k=>k.elim
theorem Zsp (h1:DB W m E ta fa)(h2:DE W m E tb fb):DE W m E (tOrV ta tb) (eOr fa fb):=by
 intro H0 ρ ω σ Hc H ow S Q h;refine h1 H0 ρ ω σ Hc H ow S _ ((Aft.bnd h).imp fun u ω1 Hc1 H1 e1 p1 k x rx=>?_);revert k
 cases u with
 |bl b=>
  intro k;have:=rx.bl;subst this
  refine⟨b,rfl,?_⟩
  cases b with
  |false=>exact h2 H0 ρ ω1 σ Hc1 H1 ow (S.ext e1 p1) Q k
  |true=>exact k Hc1 H1 (Ext.refl e1.sub) p1 _ .bl
 |_=>exact fun k=>k.elim
def eIf (ft:Tf)(fa fb:Ef):Ef:=fun ρ ω=>(ft ρ ω).bnd fun b ω1=>if b=true then fa ρ ω1 else fb ρ ω1
theorem Zsq (h1:DT W m E tt ft)(h2:DE W m E ta fa)(h3:DE W m E tb fb):DE W m E (tIf tt ta tb) (eIf ft fa fb):=by
 intro H0 ρ ω σ Hc H ow S Q h;refine h1 H0 ρ ω σ Hc H ow S _ ((Aft.bnd h).imp fun b ω1 Hc1 H1 e1 p1 k=>?_)
 cases b with
 |true=>exact h2 H0 ρ ω1 σ Hc1 H1 ow (S.ext e1 p1) Q k
 |false=>exact h3 H0 ρ ω1 σ Hc1 H1 ow (S.ext e1 p1) Q k
theorem RBs.ext {Hc H Hc' H':Hp}(e:Ext W Hc H Hc' H'):∀{bs:List Bool}{us:List U}{vs:List V},RBs W Hc H bs us vs->RBs W Hc' H' bs us vs
 |[],[],[],_=>trivial
 |b::bs,u::us,v::vs,h=>by
  unfold RBs at h ⊢;refine⟨?_,RBs.ext e h.2⟩;have h1:=h.1
  cases b with
  |true=>exact RB.ext h1 e
  |false=>exact RU.mono e.sc h1
 |[],_::_,_,h=>by unfold RBs at h;exact h.elim
 |[],[],_::_,h=>by unfold RBs at h;exact h.elim
 |_::_,[],_,h=>by unfold RBs at h;exact h.elim
 |_::_,_::_,[],h=>by unfold RBs at h;exact h.elim
def aNil:Af:=fun ψ ω=>.ok [] ω
def Z01 (fa:Ef)(fr:Af):Af:=fun ρ ω=>(fa ρ ω).bnd fun u ω1=>(fr ρ ω1).bnd fun us ω2=>.ok (u::us) ω2
theorem Zoj:DA W m E [] tNil aNil:=fun H0 ρ ω σ Hc H ow S Q k=>k Hc H (Ext.refl S.sub) S.pl [] trivial
theorem da_b (ha:DB W m E ta fa)(hr:DA W m E bs tr fr):DA W m E (true::bs) (Z4r ta tr) (Z01 fa fr):=by
 intro H0 ρ ω σ Hc H ow S Q h;refine ha H0 ρ ω σ Hc H ow S _ ((Aft.bnd h).imp fun u ω1 Hc1 H1 e1 p1 h1 x rx=>?_);refine hr H0 ρ ω1 σ Hc1 H1 ow (S.ext e1 p1) _ ((Aft.bnd h1).imp fun us ω2 Hc2 H2 e2 p2 h2 xs rs=>?_);exact h2 Hc2 H2 (Ext.refl e2.sub) p2 _ ⟨rx.ext e2,rs⟩
theorem da_e (ha:DE W m E ta fa)(hr:DA W m E bs tr fr):DA W m E (false::bs) (Z4r ta tr) (Z01 fa fr):=by
 intro H0 ρ ω σ Hc H ow S Q h;refine ha H0 ρ ω σ Hc H ow S _ ((Aft.bnd h).imp fun u ω1 Hc1 H1 e1 p1 h1 x rx=>?_);refine hr H0 ρ ω1 σ Hc1 H1 ow (S.ext e1 p1) _ ((Aft.bnd h1).imp fun us ω2 Hc2 H2 e2 p2 h2 xs rs=>?_);exact h2 Hc2 H2 (Ext.refl e2.sub) p2 _ ⟨rx.mono e2.sc,rs⟩
def offs:List Bool->Bool
 |[]=>true
 |b::bs =>!b&&offs bs
theorem RBs.off {Hc H:Hp}:∀{bs:List Bool}{us:List U}{vs:List V},offs bs=true->RBs W Hc H bs us vs->RUs W Hc us vs
 |[],[],[],_,_=>.nil
 |b::bs,u::us,v::vs,o,h=>by
  unfold RBs at h;unfold offs at o;simp only[Bool.and_eq_true,Bool.not_eq_true']at o;have h1:=h.1;rw[o.1]at h1;exact .cons h1 (RBs.off o.2 h.2)
 |[],_::_,_,_,h=>by unfold RBs at h;exact h.elim
 |[],[],_::_,_,h=>by unfold RBs at h;exact h.elim
 |_::_,[],_,_,h=>by unfold RBs at h;exact h.elim
 |_::_,_::_,[],_,h=>by unfold RBs at h;exact h.elim
open Classical in
def mkT (us:List U):Option U:=if us.length<=sizeLine then some (.tup us)else none
open Classical in
def mkL (us:List U):Option U:=if us.length<=sizeLine then some (.lst us)else none
open Classical in
def eTup (fr:Af):Ef:=fun ρ ω=>(fr ρ ω).bnd fun us ω1=>.of (mkT us) ω1
open Classical in
def eLst (fr:Af):Ef:=fun ρ ω=>(fr ρ ω).bnd fun us ω1=>.of (mkL us) ω1
theorem Zok (ho:offs bs=true)(hr:DA W m E bs tr fr):DE W m E (tTup tr) (eTup fr):=by
 intro H0 ρ ω σ Hc H ow S Q h;refine hr H0 ρ ω σ Hc H ow S _ ((Aft.bnd h).imp fun us ω1 Hc1 H1 e1 p1 h1 xs rs=>?_);have rr:=rs.off ho;revert h1
 unfold mkT;split
 ·rename_i hl
  intro h1;exact⟨by rw[<-rr.len];exact hl,fun p n=>h1 _ _ (Z1k e1.sub p1 n).1 (Z1k e1.sub p1 n).2 _ (.tup Z05 (rr.mono (Same.laid (e1.sub.free n))))⟩
 ·exact fun h1=>h1.elim
theorem Zol (ho:offs bs=true)(hr:DA W m E bs tr fr):DF W m E (tLst tr) (eLst fr):=by
 intro H0 ρ ω σ Hc H ow S Q h;refine hr H0 ρ ω σ Hc H ow S _ ((Aft.bnd h).imp fun us ω1 Hc1 H1 e1 p1 h1 xs rs=>?_);have rr:=rs.off ho;revert h1
 unfold mkL;split
 ·rename_i hl
  intro h1;exact⟨by rw[<-rr.len];exact hl,fun p n=>h1 _ _ (Z0v e1.sub p1 n).1 (Z0v e1.sub p1 n).2 _ _ _ rfl (e1.sub.free n) (e1.frz' n) Z05 rr⟩
 ·exact fun h1=>h1.elim
def Z45 (W:Wd)(bs:List Bool)(r:List V->Hp->VK->Prop)(g:List U->Option U):Prop:=∀ Hc H ω us vs,Same Hc H->PlOk W ω Hc H->RBs W Hc H bs us vs->∀ u,g us=some u->∀ Q:VK,(∀ v Hc' H',Ext W Hc H Hc' H'->PlOk W ω Hc' H'->RU W Hc' u v->Q v H')->r vs H Q
def Za9 (W:Wd)(bs:List Bool)(r:List V->Hp->VK->Prop)(g:List U->Option U):Prop:=∀ Hc H ω us vs,Same Hc H->PlOk W ω Hc H->RBs W Hc H bs us vs->∀ u,g us=some u->∀ Q:VK,(∀ us a vs Hc' H',Ext W Hc H Hc' H'->PlOk W ω Hc' H'->u=.lst us->Hc' a=none->H a=none->H' a=some (.lst vs)->RUs W Hc' us vs->Q (.ref a) H')->r vs H Q
def eB (g:List U->Option U)(fr:Af):Ef:=fun ρ ω=>(fr ρ ω).bnd fun us ω1=>.of (g us) ω1
theorem Zom {q:List V->Hp->VK->Prop}{g:List U->Option U}(o:Z45 W bs q g)(hr:DA W m E bs tr fr):DE W m E (tCB q tr) (eB g fr):=by
 intro H0 ρ ω σ Hc H ow S Q h;refine hr H0 ρ ω σ Hc H ow S _ ((Aft.bnd h).imp fun us ω1 Hc1 H1 e1 p1 h1 xs rs=>?_);revert h1
 cases hg:g us with
 |none=>exact fun h1=>h1.elim
 |some u=>exact fun h1=>o Hc1 H1 ω1 us xs e1.sub p1 rs u hg Q fun v Hc' H' e p rv=>h1 Hc' H' e p v rv
theorem Zkb {q:List V->Hp->VK->Prop}{g:List U->Option U}(o:Za9 W bs q g)(hr:DA W m E bs tr fr):DF W m E (tCB q tr) (eB g fr):=by
 intro H0 ρ ω σ Hc H ow S Q h;refine hr H0 ρ ω σ Hc H ow S _ ((Aft.bnd h).imp fun us ω1 Hc1 H1 e1 p1 h1 xs rs=>?_);revert h1
 cases hg:g us with
 |none=>exact fun h1=>h1.elim
 |some u=>exact fun h1=>o Hc1 H1 ω1 us xs e1.sub p1 rs u hg Q fun us a vs Hc' H' e p q1 q2 q3 q4 q5=>h1 Hc' H' e p us a vs q1 q2 (e1.frz' q3) q4 q5
theorem RBs.one {Hc H:Hp}{u:U}{vs:List V}(h:RBs W Hc H [true] [u] vs):∃ v,vs=[v]/\RB W Hc H u v:=by
 match vs,h with
 |[],h=>unfold RBs at h;exact h.elim
 |[v],h=>unfold RBs at h;exact⟨v,rfl,h.1⟩
 |v::w::r,h=>unfold RBs at h;have h2:=h.2;unfold RBs at h2;exact h2.elim
theorem RBs.two {Hc H:Hp}{u u':U}{vs:List V}(h:RBs W Hc H [true,true] [u,u'] vs):∃ v v',vs=[v,v']/\RB W Hc H u v/\RB W Hc H u' v':=by
 match vs,h with
 |[],h=>unfold RBs at h;exact h.elim
 |v::r,h=>
  unfold RBs at h;obtain⟨v',e,q⟩:=RBs.one h.2;exact⟨v,v',by rw[e],h.1,q⟩
def uLen:List U->Option U
 |[.lst us]=>some (.int us.length)
 |[.tup us]=>some (.int us.length)
 |[.scr ns]=>some (.int ns.length)
 |_=>none
theorem Zon:Z45 W [true] (rLen W.K) uLen:=by
 intro Hc H ω us vs s p rs u e Q k;unfold uLen at e;split at e
 ·cases e;obtain⟨v,rfl,rv⟩:=rs.one;obtain⟨a,vs,rfl,h1,r1⟩:=rv.lst s;exact⟨a,vs,rfl,.inl (.of h1),by rw[<-r1.len];exact k _ Hc H (Ext.refl s) p .int⟩
 ·cases e;obtain⟨v,rfl,rv⟩:=rs.one;obtain⟨a,vs,rfl,h1,r1⟩:=rv.tup;exact⟨a,vs,rfl,.inr (.of (s _ _ h1)),by rw[<-r1.len];exact k _ Hc H (Ext.refl s) p .int⟩
 ·cases e;obtain⟨v,rfl,rv⟩:=rs.one;obtain⟨a,rfl,h1⟩:=rv.scr;exact⟨a,_,rfl,.inl (s.seq h1),by rw[List.length_map];exact k _ Hc H (Ext.refl s) p .int⟩
 ·cases e
def Z2g:List U->Option U
 |[.lst us]=>some (.tup us)
 |[.tup us]=>some (.tup us)
 |_=>none
theorem Zfn:Z45 W [true] (Zc6 W.K) Z2g:=by
 intro Hc H ω us vs s p rs u e Q k;unfold Z2g at e;split at e
 ·cases e;obtain⟨v,rfl,rv⟩:=rs.one;obtain⟨a,vs,rfl,h1,r1⟩:=rv.lst s;exact⟨a,vs,rfl,.inl ⟨.of h1,fun l n=>k _ _ _ (Z1k s p n).1 (Z1k s p n).2 (.tup Z05 (r1.mono (Same.laid (s.free n))))⟩⟩
 ·cases e;obtain⟨v,rfl,rv⟩:=rs.one;obtain⟨a,vs,rfl,h1,r1⟩:=rv.tup;exact⟨a,vs,rfl,.inr ⟨.of (s _ _ h1),k _ Hc H (Ext.refl s) p (.tup h1 r1)⟩⟩
 ·cases e
def Z7y:List U->Option U
 |[.lst us]=>some (.lst us)
 |[.tup us]=>some (.lst us)
 |[.scr ns]=>some (.lst (ns.map U.int))
 |_=>none
theorem Zkc:Za9 W [true] (Zc8 W.K) Z7y:=by
 intro Hc H ω us vs s p rs u e Q k;unfold Z7y at e;split at e
 ·cases e;obtain⟨v,rfl,rv⟩:=rs.one;obtain⟨a,vs,rfl,h1,r1⟩:=rv.lst s;exact⟨a,vs,rfl,.inl (.of h1),fun l n=>k _ _ _ _ _ (Z0v s p n).1 (Z0v s p n).2 rfl (s.free n) n Z05 r1⟩
 ·cases e;obtain⟨v,rfl,rv⟩:=rs.one;obtain⟨a,vs,rfl,h1,r1⟩:=rv.tup;exact⟨a,vs,rfl,.inr (.of (s _ _ h1)),fun l n=>k _ _ _ _ _ (Z0v s p n).1 (Z0v s p n).2 rfl (s.free n) n Z05 r1⟩
 ·cases e;obtain⟨v,rfl,rv⟩:=rs.one;obtain⟨a,rfl,h1⟩:=rv.scr;exact⟨a,_,rfl,.inl (s.seq h1),fun l n=>k _ _ _ _ _ (Z0v s p n).1 (Z0v s p n).2 rfl (s.free n) n Z05 .ofInts⟩
 ·cases e
def Z13:List U->Option (List Int)
 |[]=>some []
 |.int i::us=>(Z13 us).map (i :: ·)
 |_=>none
theorem Z14:∀ ns:List Int,Z13 (ns.map U.int)=some ns
 |[]=>rfl
 |n::ns=>by rw[List.map_cons,Z13,Z14 ns];rfl
theorem Z1f:∀{us:List U}{ns:List Int},Z13 us=some ns->us=ns.map U.int
 |[],ns,h=>by cases h;rfl
 |u::us,ns,h=>by
  unfold Z13 at h;split at h
  ·rename_i e;cases e
  ·rename_i i us' e
   cases e
   cases q:Z13 us with
   |none=>rw[q]at h;exact noS h
   |some ms=>rw[q]at h;cases h;rw[List.map_cons,<-Z1f q]
  ·cases h
def Z6q:List U->Option (List Bool)
 |[]=>some []
 |.bl i::us=>(Z6q us).map (i :: ·)
 |_=>none
theorem Z6r:∀ ns:List Bool,Z6q (ns.map U.bl)=some ns
 |[]=>rfl
 |n::ns=>by rw[List.map_cons,Z6q,Z6r ns];rfl
theorem Z8y:∀{us:List U}{ns:List Bool},Z6q us=some ns->us=ns.map U.bl
 |[],ns,h=>by cases h;rfl
 |u::us,ns,h=>by
  unfold Z6q at h;split at h
  ·rename_i e;cases e
  ·rename_i i us' e
   cases e
   cases q:Z6q us with
   |none=>rw[q]at h;exact noS h
   |some ms=>rw[q]at h;cases h;rw[List.map_cons,<-Z8y q]
  ·cases h
def uSum:List U->Option U
 |[.lst us]=>(Z13 us).map fun ns=>.int ns.sum
 |_=>none
def Zaa:List U->Option U
 |[.int a,.int b]=>some (.int (max a b))
 |_=>none
theorem Zkd:Z45 W [true,true] rMax Zaa:=by
 intro Hc H ω us vs s p rs u e Q k;unfold Zaa at e;split at e
 ·cases e;obtain⟨v,v',rfl,r1,r2⟩:=rs.two;have:=r1.int;subst this;have:=r2.int;subst this
  refine⟨_,_,rfl,?_⟩;rename_i a b
  have z:(if b > a then b else a)=max a b:=by split<;>lia
  rw[z];exact k _ Hc H (Ext.refl s) p .int
 ·cases e
def rAbs:List V->Hp->VK->Prop:=fun xs H Q=>∃ i,xs=[.int i]/\Q (.int (if i<0 then -i else i)) H
theorem Zci {X:Cx}:Z10 X (.builtin "abs") rAbs:=Zf7
def uAbs:List U->Option U
 |[.int a]=>some (.int (if a<0 then -a else a))
 |_=>none
theorem Zoo:Z45 W [true] rAbs uAbs:=by
 intro Hc H ω us vs s p rs u e Q k;unfold uAbs at e;split at e
 ·cases e;obtain⟨v,rfl,r1⟩:=rs.one;have:=r1.int;subst this
  exact⟨_,rfl,k _ Hc H (Ext.refl s) p .int⟩
 ·cases e
def uInt:List U->Option U
 |[.int a]=>some (.int a)
 |[.bl b]=>some (.int (if b then 1 else 0))
 |_=>none
theorem Zop:Z45 W [true] Znz uInt:=by
 intro Hc H ω us vs s p rs u e Q k;unfold uInt at e;split at e
 ·cases e;obtain⟨v,rfl,r1⟩:=rs.one;have:=r1.int;subst this
  exact .inl ⟨_,rfl,k _ Hc H (Ext.refl s) p .int⟩
 ·cases e;obtain⟨v,rfl,r1⟩:=rs.one;have:=r1.bl;subst this
  exact .inr ⟨_,rfl,k _ Hc H (Ext.refl s) p .int⟩
 ·cases e
def uAny:List U->Option U
 |[.lst us]=>(Z6q us).map fun ns=>.bl (ns.any id)
 |_=>none
theorem Zoq:Z45 W [true] (rAny W.K) uAny:=by
 intro Hc H ω us vs s p rs u e Q k;unfold uAny at e;split at e
 ·rename_i us'
  cases q:Z6q us' with
  |none=>rw[q]at e;exact noS e
  |some ns=>
   rw[q]at e;cases e;obtain⟨v,rfl,rv⟩:=rs.one;obtain⟨a,vs,rfl,h1,r1⟩:=rv.lst s;rw[Z8y q]at r1;have e2:=r1.bls;subst e2;exact⟨a,ns,rfl,.of h1,k _ Hc H (Ext.refl s) p .bl⟩
 ·cases e
abbrev Ff:=List U->Om->Res U
def spU (K:L2.Fg)(mg:L2.SV)(wk:Wd->Prop) (n:Nat)(bs:List Bool)(F:Ff):Sp:=fun vs H Q E=>∃(W:Wd)(us:List U)(ω:Om)(Hc:Hp),W.K=K/\W.mg=mg/\wk W/\vs.length=n/\Same Hc H/\PlOk W ω Hc H/\RBs W Hc H bs us vs /\
 Aft W E Hc H (F us ω) (fun u ψ Hc' H'=>∀ v,RU W Hc' u v->Q v H')
def Z0b (F:Ff)(fr:Af):Ef:=fun ρ ω=>(fr ρ ω).bnd F
theorem RBs.len {Hc H:Hp}:∀{bs:List Bool}{us:List U}{vs:List V},RBs W Hc H bs us vs->vs.length=bs.length/\us.length=bs.length
 |[],[],[],_=>⟨rfl,rfl⟩
 |b::bs,u::us,v::vs,h=>by unfold RBs at h;simp[(RBs.len h.2).1,(RBs.len h.2).2]
 |[],_::_,_,h=>by unfold RBs at h;exact h.elim
 |[],[],_::_,h=>by unfold RBs at h;exact h.elim
 |_::_,[],_,h=>by unfold RBs at h;exact h.elim
 |_::_,_::_,[],h=>by unfold RBs at h;exact h.elim
theorem Zke {K:L2.Fg}{mg:L2.SV}{wk:Wd->Prop}{F:Ff}(hK:W.K=K)(hm:W.mg=mg)(hw:wk W)(hr:DA W m E bs tr fr):DE W m E (Zf8 (spU K mg wk bs.length bs F) [] E tr) (Z0b F fr):=by
 intro H0 ρ ω σ Hc H ow S Q h;refine Zk1 (hr H0 ρ ω σ Hc H ow S _ ((Aft.bnd h).imp fun us ω1 Hc1 H1 e1 p1 h1 xs rs=>?_));exact⟨W,us,ω1,Hc1,hK,hm,hw,rs.len.1,e1.sub,p1,rs,h1⟩
end
section
variable {W:Wd}{m:Md}{ρ:En}{ω:Om}{σ:St}{H0 Hc0 Hc H Hc':Hp}{ow:Nat->Addr}{i:Nat}{u:U}{v:V}
theorem Z1g {α:Type}{xs:List (Option α)}{i j:Nat}{a u:α}(h:(xs.set i (some a))[j]?=some (some u)):(j=i/\u=a/\i<xs.length)\/(j≠i/\xs[j]?=some (some u)):=by
 rw[List.getElem?_set]at h;by_cases e:i=j
 ·subst e;rw[if_pos rfl]at h;by_cases l:i<xs.length
  ·rw[if_pos l]at h;cases h;exact .inl ⟨rfl,rfl,l⟩
  ·rw[if_neg l]at h;cases h
 ·rw[if_neg e]at h;exact .inr ⟨fun z=>e z.symm,h⟩
theorem Zho {α:Type}{xs:List (Option α)}{i:Nat}{a:α}(h:i<xs.length):(xs.set i (some a))[i]?=some (some a):=by
 rw[List.getElem?_set,if_pos rfl,if_pos h]
theorem Z17 {α:Type}{xs:List (Option α)}{i j:Nat}{a:Option α}(h:j≠i):(xs.set i a)[j]?=xs[j]?:=by
 rw[List.getElem?_set,if_neg fun z=>h z.symm]
theorem Sr.set (S:Sr W m ρ ω σ H0 Hc H ow)(h1:i∉m.B)(h2:i∉m.M)(r:RU W Hc u v):Sr W m (ρ.set i (some u)) ω (σ.set i (some v)) H0 Hc H ow:=by
 refine⟨S.sub,S.s0,S.p0,by simp[S.len],S.pl,fun j w n1 n2 h=>?_,fun j w n1 n2 h=>?_,fun j w n h=>?_,fun j k a b n1 n2 ne hj hk=>?_⟩
 ·rcases Z1g h with ⟨rfl,rfl,l⟩|⟨e,h⟩
  ·exact⟨v,Zho (by rw[<-S.len];exact l),r⟩
  ·rw[Z17 e];exact S.cl j w n1 n2 h
 ·rcases Z1g h with ⟨rfl,rfl,l⟩|⟨e,h⟩
  ·exact absurd n1 h1
  ·rw[Z17 e];exact S.bo j w n1 n2 h
 ·rcases Z1g h with ⟨rfl,rfl,l⟩|⟨e,h⟩
  ·exact absurd n h2
  ·rw[Z17 e];exact S.mu j w n h
 ·rcases Z1g hj with ⟨rfl,rfl,l⟩|⟨e,hj⟩
  ·exact absurd n1 h2
  ·rcases Z1g hk with ⟨rfl,rfl,l⟩|⟨e,hk⟩
   ·exact absurd n2 h2
   ·exact S.di j k a b n1 n2 ne hj hk
theorem Sr.drop (S:Sr W m ρ ω σ H0 Hc H ow)(x:Option V):Sr W m (ρ.set i none) ω (σ.set i x) H0 Hc H ow:=by
 have key:∀{j:Nat}{w:U},(ρ.set i none)[j]?=some (some w)->j≠i/\ρ[j]?=some (some w):=fun{j w} h=>by
  rw[List.getElem?_set]at h;by_cases e:i=j
  ·rw[if_pos e]at h;split at h<;>cases h
  ·rw[if_neg e]at h;exact⟨fun z=>e z.symm,h⟩
 refine⟨S.sub,S.s0,S.p0,by simp[S.len],S.pl,fun j w n1 n2 h=>?_,fun j w n1 n2 h=>?_,fun j w n h=>?_,fun j k a b n1 n2 ne hj hk=>S.di j k a b n1 n2 ne (key hj).2 (key hk).2⟩
 ·obtain⟨e,h⟩:=key h;rw[Z17 e];exact S.cl j w n1 n2 h
 ·obtain⟨e,h⟩:=key h;rw[Z17 e];exact S.bo j w n1 n2 h
 ·obtain⟨e,h⟩:=key h;rw[Z17 e];exact S.mu j w n h
theorem Sr.ownO {a:Addr}{o:HO}(S:Sr W m ρ ω σ H0 Hc H ow)(hi:i∈m.M)(hb:i∉m.B)(n1:Hc a=none)(n0:H0 a=none)(ha:H a=some o)(r:OwO W Hc a u o)(ap:∀ j w,j∈m.M->j≠i->ρ[j]?=some (some w)->ow j≠a) :
  Sr W m (ρ.set i (some u)) ω (σ.set i (some (.ref a))) H0 Hc H (fun j=>if j=i then a else ow j):=by
 refine⟨S.sub,S.s0,S.p0,by simp[S.len],S.pl,fun j w n1 n2 h=>?_,fun j w n1 n2 h=>?_,fun j w n h=>?_,fun j k x y m1 m2 ne hj hk=>?_⟩
 ·rcases Z1g h with ⟨rfl,rfl,l⟩|⟨e,h⟩
  ·exact absurd hi n2
  ·rw[Z17 e];exact S.cl j w n1 n2 h
 ·rcases Z1g h with ⟨rfl,rfl,l⟩|⟨e,h⟩
  ·exact absurd hi n2
  ·rw[Z17 e];exact S.bo j w n1 n2 h
 ·rcases Z1g h with ⟨rfl,rfl,l⟩|⟨e,h⟩
  ·refine⟨o,?_,?_,?_,?_,by rw[if_pos rfl];exact r⟩
   ·rw[if_pos rfl];exact Zho (by rw[<-S.len];exact l)
   ·rw[if_pos rfl];exact ha
   ·rw[if_pos rfl];exact n1
   ·rw[if_pos rfl];exact n0
  ·obtain⟨o',z2,z3,z4,z5,z6⟩:=S.mu j w n h;refine⟨o',?_,?_,?_,?_,by rw[if_neg e];exact z6⟩
   ·rw[Z17 e,if_neg e];exact z2
   ·rw[if_neg e];exact z3
   ·rw[if_neg e];exact z4
   ·rw[if_neg e];exact z5
 ·rcases Z1g hj with ⟨rfl,rfl,l⟩|⟨e,hj1⟩
  ·rcases Z1g hk with ⟨rfl,rfl,l⟩|⟨e',hk⟩
   ·exact absurd rfl ne
   ·rw[if_pos rfl,if_neg e'];exact fun z=>ap k y m2 e' hk z.symm
  ·clear hj;rcases Z1g hk with ⟨e1,e2,l⟩|⟨e',hk⟩
   ·rw[e1,if_pos rfl,if_neg e];exact ap j x m1 e (by assumption)
   ·rw[if_neg e,if_neg e'];exact S.di j k x y m1 m2 ne hj1 hk
theorem Sr.own {a:Addr}{us:List U}{vs:List V}(S:Sr W m ρ ω σ H0 Hc H ow)(hi:i∈m.M)(hb:i∉m.B)(n1:Hc a=none)(n0:H0 a=none)(ha:H a=some (.lst vs))(r:RUs W Hc us vs)(ap:∀ j w,j∈m.M->j≠i->ρ[j]?=some (some w)->ow j≠a) :
  Sr W m (ρ.set i (some (.lst us))) ω (σ.set i (some (.ref a))) H0 Hc H (fun j=>if j=i then a else ow j):=S.ownO hi hb n1 n0 ha ⟨vs,rfl,r⟩ ap
theorem Sr.mutO {w0:U}{o':HO}(S:Sr W m ρ ω σ H0 Hc H ow)(hi:i∈m.M)(e:ρ[i]?=some (some w0))(r:OwO W Hc (ow i) u o'):Sr W m (ρ.set i (some u)) ω σ H0 Hc (upd H (ow i) o') ow:=by
 obtain⟨o0,z2,z3,z4,z5,z6⟩:=S.mu i _ hi e;have nl:=S.nl z5;have li:i<ρ.length:=(List.getElem?_eq_some_iff.mp e).1;refine⟨fun b o h=>?_,fun b o n h=>?_,S.p0,by simp[S.len],⟨W.st _ _ _ S.pl.pl fun b o h hb=>?_,fun b hb=>⟨(S.pl.out b hb).1,?_⟩⟩,fun j w n1 n2 h=>?_,fun j w n1 n2 h=>?_,fun j w n h=>?_,fun j k x y m1 m2 ne hj hk=>?_⟩
 ·rw[Z06 (fun z=>by rw[z,z4]at h;cases h)];exact S.sub b o h
 ·rw[Z06 (fun z=>by rw[z,z5]at h;cases h)];exact S.s0 b o n h
 ·refine(Z06 fun z=>?_).trans h;rcases hb with hb|⟨x,y,hb⟩
  ·exact nl (z▸hb)
  ·rw[z,z3]at h;cases h;rw[hb]at z6;exact z6.nfrz
 ·by_cases z:b=ow i
  ·rw[z,Z05];simp
  ·rw[Z06 z];exact(S.pl.out b hb).2
 ·rcases Z1g h with ⟨rfl,rfl,l⟩|⟨e',h⟩
  ·exact absurd hi n2
  ·exact S.cl j w n1 n2 h
 ·rcases Z1g h with ⟨rfl,rfl,l⟩|⟨e',h⟩
  ·exact absurd hi n2
  ·exact S.bo j w n1 n2 h
 ·rcases Z1g h with ⟨rfl,rfl,l⟩|⟨e',h⟩
  ·exact⟨o',z2,Z05,z4,z5,r⟩
  ·obtain⟨o1,y2,y3,y4,y5,y6⟩:=S.mu j w n h;exact⟨o1,y2,by rw[Z06 (S.di j i w _ n hi e' h e)];exact y3,y4,y5,y6⟩
 ·rcases Z1g hj with ⟨rfl,rfl,l⟩|⟨e1,hj1⟩
  ·rcases Z1g hk with ⟨rfl,rfl,l⟩|⟨e2,hk⟩
   ·exact absurd rfl ne
   ·exact S.di j k _ y m1 m2 ne e hk
  ·rcases Z1g hk with ⟨e3,e4,l⟩|⟨e2,hk⟩
   ·rw[e3];exact S.di j i x _ m1 hi e1 hj1 e
   ·exact S.di j k x y m1 m2 ne hj1 hk
theorem Sr.mut {us us':List U}{vs':List V}(S:Sr W m ρ ω σ H0 Hc H ow)(hi:i∈m.M)(e:ρ[i]?=some (some (.lst us)))(r:RUs W Hc us' vs'):Sr W m (ρ.set i (some (.lst us'))) ω σ H0 Hc (upd H (ow i) (.lst vs')) ow:=S.mutO hi e ⟨vs',rfl,r⟩
theorem Sr.mutE {w0:U}{o':HO}(S:Sr W m ρ ω σ H0 Hc H ow)(hi:i∈m.M)(e:ρ[i]?=some (some w0))(x:Ext W Hc0 H0 Hc H):Ext W Hc0 H0 Hc (upd H (ow i) o'):=by
 obtain⟨o0,z2,z3,z4,z5,z6⟩:=S.mu i _ hi e;refine⟨fun b o n h=>?_,x.sc,fun b o h=>?_,x.new,fun b h=>?_⟩
 ·rw[Z06 (fun z=>by rw[z,z5]at h;cases h)];exact x.same b o n h
 ·rw[Z06 (fun z=>by rw[z,z4]at h;cases h)];exact x.sub b o h
 ·by_cases z:b=ow i
  ·rw[z,Z05];simp
  ·rw[Z06 z];exact x.frz b h
theorem Sr.freeze (M':List Nat)(hM:∀ i∈M',i∈m.M)(hB:∀ i∈m.M,i∉m.B)(S:Sr W m ρ ω σ H0 Hc H ow)(x:Ext W Hc0 H0 Hc H):∃ Hc',Sr W ⟨m.B,M'⟩ ρ ω σ H0 Hc' H ow/\Ext W Hc0 H0 Hc' H:=by
 classical
 let P : Addr -> Prop := fun b => ∃ i w, i ∈ m.M /\ i ∉ M' /\ ρ[i]? = some (some w) /\ ow i = b
 have hP:∀ b,P b->Hc b=none/\H0 b=none/\b∉W.L:=fun b ⟨i,w,h1,h2,h3,h4⟩=>by
  obtain⟨o0,z2,z3,z4,z5,z6⟩:=S.mu i _ h1 h3;rw[<-h4];exact⟨z4,z5,S.nl z5⟩
 have sc:Same Hc (fun b=>if P b then H b else Hc b):=fun b o h=>by
  have:¬ P b:=fun p=>by rw[(hP b p).1]at h;cases h
  show(if P b then H b else Hc b)=_;rw[if_neg this];exact h
 refine⟨fun b=>if P b then H b else Hc b,⟨fun b o h=>?_,S.s0,S.p0,S.len,⟨S.pl.pl,fun b hb=>⟨?_,(S.pl.out b hb).2⟩⟩,fun j w n1 n2 h=>?_,fun j w n1 n2 h=>?_,fun j w n h=>?_,fun j k a b m1 m2 ne hj hk=>S.di j k a b (hM j m1) (hM k m2) ne hj hk⟩,⟨x.same,fun b o h=>sc b o (x.sc b o h),fun b o h=>?_,fun b h1 h2=>?_,x.frz⟩⟩
 ·by_cases p:P b
  ·simpa[p]using h
  ·simp only[p,if_false]at h;exact S.sub b o h
 ·have:¬ P b:=fun p=>(hP b p).2.2 hb
  show(if P b then H b else Hc b)=none;rw[if_neg this];exact(S.pl.out b hb).1
 ·by_cases q:j∈m.M
  ·obtain⟨o0,z2,z3,z4,z5,z6⟩:=S.mu j _ q h;refine⟨_,z2,?_⟩;exact(z6.mono sc).ru (by show(if P (ow j)then H (ow j)else Hc (ow j))=_;rw[if_pos ⟨j,_,q,n2,h,rfl⟩];exact z3)
  ·obtain⟨v,q1,q2⟩:=S.cl j w n1 q h;exact⟨v,q1,q2.mono sc⟩
 ·have q:j∉m.M:=fun z=>hB j z n1;obtain⟨v,q1,q2⟩:=S.bo j w n1 q h;refine⟨v,q1,?_⟩;rcases q2 with q2|⟨a,o,y2,y3,y4,y5⟩
  ·exact .inl (q2.mono sc)
  ·exact .inr ⟨a,o,y2,y3,y4,y5.mono sc⟩
 ·obtain⟨o0,z2,z3,z4,z5,z6⟩:=S.mu j _ (hM j n) h;refine⟨o0,z2,z3,?_,z5,z6.mono sc⟩;have:¬ P (ow j):=fun⟨k,w',h1,h2,h3,h4⟩=>by
   have ne:k≠j:=fun z=>h2 (z▸n);exact S.di k j w' w h1 (hM j n) ne h3 h h4
  show(if P (ow j)then H (ow j)else Hc (ow j))=none;rw[if_neg this];exact z4
 ·by_cases p:P b
  ·simpa[p]using h
  ·simp only[p,if_false]at h;exact x.sub b o h
 ·have:¬ P b:=fun p=>h2 (hP b p).2.1
  show(if P b then H b else Hc b)=none;rw[if_neg this];exact x.new b h1 h2
end
section
variable {W:Wd}{m:Md}{E:XK}{ta tb:TE}{fa fb:Ef}{tt:TT}{ft:Tf}{i:Nat}{r:R2}{g:U->U->Option U}{t1 t2:TS}{g1 g2:Sf}
def Fl.of {α:Type}(r:Res α)(k:α->Om->Fl):Fl:=match r with
 |.ok a ω=>k a ω
 |.err c p ω=>.err c p ω
 |.stk=>.stk
@[simp] theorem Fl.of_ok {α:Type}{a:α}{ω:Om}{k:α->Om->Fl}:Fl.of (.ok a ω) k=k a ω:=rfl
@[simp] theorem Fl.of_err {α:Type}{c:Str}{p:Option Int}{ω:Om}{k:α->Om->Fl}:Fl.of (.err c p ω:Res α) k=.err c p ω:=rfl
@[simp] theorem Fl.of_stk {α:Type}{k:α->Om->Fl}:Fl.of (.stk:Res α) k=.stk:=rfl
theorem Cont.of {α:Type}{Hc0 H0 Hc H:Hp}{D:Ends}{r:Res α}{k:α->Om->Fl}(x:Ext W Hc0 H0 Hc H)(h:Cont W m E Hc0 H0 D (Fl.of r k)):Aft W E Hc H r fun a ω ψ ψ=>Cont W m E Hc0 H0 D (k a ω):=by
 cases r with
 |ok a ω=>exact fun Hc' H' e p=>h
 |err c pl ω=>exact fun C od Hc' H' e p hm hx=>h C od Hc' H' (x.trans e) p hm hx
 |stk=>exact h
def sSeq (g1 g2:Sf):Sf:=fun ρ ω=>match g1 ρ ω with
 |.nx ρ' ω'=>g2 ρ' ω'
 |o=>o
theorem Zor (h1:DS W m E t1 g1)(h2:DS W m E t2 g2):DS W m E (tSeq t1 t2) (sSeq g1 g2):=by
 intro H0 Hc0 ρ ω σ Hc H ow S x D h;refine h1 H0 Hc0 ρ ω σ Hc H ow S x { D with nx:=t2 D } ?_;unfold sSeq at h;revert h
 cases g1 ρ ω with
 |nx ρ' ω'=>exact fun h σ' Hc' H' ow' S' x'=>h2 H0 Hc0 ρ' ω' σ' Hc' H' ow' S' x' D h
 |_=>exact fun h=>h
def Z0q:Sf:=fun ρ ω=>.nx ρ ω
theorem Zkf:DS W m E Zmx Z0q:=fun H0 Hc0 ρ ω σ Hc H ow S x D h=>h σ Hc H ow S x
def sBrk:Sf:=fun ρ ω=>.bk ρ ω
theorem Zos:DS W m E Zhf sBrk:=fun H0 Hc0 ρ ω σ Hc H ow S x D h=>h σ Hc H ow S x
def sIf (ft:Tf)(g1 g2:Sf):Sf:=fun ρ ω=>Fl.of (ft ρ ω) fun b ω1=>if b=true then g1 ρ ω1 else g2 ρ ω1
theorem Zsr (hc:DT W m E tt ft)(h1:DS W m E t1 g1)(h2:DS W m E t2 g2):DS W m E (tIfS tt t1 t2) (sIf ft g1 g2):=by
 intro H0 Hc0 ρ ω σ Hc H ow S x D h;refine hc H0 ρ ω σ Hc H ow S _ ((Cont.of x h).imp fun b ω1 Hc1 H1 e1 p1 k=>?_)
 cases b with
 |true=>exact h1 H0 Hc0 ρ ω1 σ Hc1 H1 ow (S.ext e1 p1) (x.trans e1) D k
 |false=>exact h2 H0 Hc0 ρ ω1 σ Hc1 H1 ow (S.ext e1 p1) (x.trans e1) D k
def sSet (i:Nat)(fa:Ef):Sf:=fun ρ ω=>Fl.of (fa ρ ω) fun u ω1=>.nx (ρ.set i (some u)) ω1
theorem Zhp (h1:i∉m.B)(h2:i∉m.M)(ha:DE W m E ta fa):DS W m E (tAsg ta (Z7t i)) (sSet i fa):=by
 intro H0 Hc0 ρ ω σ Hc H ow S x D h;refine ha H0 ρ ω σ Hc H ow S _ ((Cont.of x h).imp fun u ω1 Hc1 H1 e1 p1 k v rv=>?_);exact k _ Hc1 H1 ow ((S.ext e1 p1).set h1 h2 rv) (x.trans e1)
theorem Zhq (h1:i∉m.B)(h2:i∈m.M)(ha:DF W m E ta fa):DS W m E (tAsg ta (Z7t i)) (sSet i fa):=by
 intro H0 Hc0 ρ ω σ Hc H ow S x D h;refine ha H0 ρ ω σ Hc H ow S _ ((Cont.of x h).imp fun u ω1 Hc1 H1 e1 p1 k us a vs hu n1 n2 ha rr=>?_);subst hu;have S1:=S.ext e1 p1;have n0:H0 a=none:=by
  cases q:H0 a with
  |none=>rfl
  |some o=>
   by_cases l:a∈W.L
   ·exact absurd n2 (S.pl.out a l).2
   ·rw[S.s0 a o l q]at n2;cases n2
 refine k _ Hc1 H1 _ (S1.own h2 h1 n1 n0 ha rr fun j w hj ψ hw z=>?_) (x.trans e1);obtain⟨o0,z2,z3,z4,z5,z6⟩:=S.mu j _ hj hw;rw[z,n2]at z3;cases z3
def sRet (fa:Ef):Sf:=fun ρ ω=>Fl.of (fa ρ ω) fun u ω1=>.rt u ω1
theorem Zot (hB:∀ i∈m.M,i∉m.B)(ha:DE W ⟨m.B,[]⟩ E ta fa):DS W m E (tRet ta) (sRet fa):=by
 intro H0 Hc0 ρ ω σ Hc H ow S x D h;obtain⟨Hf,Sf',xf⟩:=S.freeze [] (fun ψ z=>absurd z (by simp)) hB x;refine ha H0 ρ ω σ Hf H ow Sf' _ ((Cont.of xf h).imp fun u ω1 Hc1 H1 e1 p1 k v rv=>?_);exact k v Hc1 H1 (xf.trans e1) p1 rv
def sAug (i:Nat)(g:U->U->Option U)(fa:Ef):Sf:=fun ρ ω=>match ρ[i]? with
 |some (some a)=>Fl.of (fa ρ ω) fun b ω1=>match g a b with
  |some c=>.nx (ρ.set i (some c)) ω1
  |none=>.stk
 |_=>.stk
theorem Zou (h1:i∉m.B)(h2:i∉m.M)(o:OpU W r g)(ha:DB W m E ta fa):DS W m E (tAug i ta r) (sAug i g fa):=by
 intro H0 Hc0 ρ ω σ Hc H ow S x D h;unfold sAug at h;split at h
 ·rename_i a e
  obtain⟨va,q,ra⟩:=S.get e;refine⟨va,q,ha H0 ρ ω σ Hc H ow S _ ((Cont.of x h).imp fun b ω1 Hc1 H1 e1 p1 k y ry=>?_)⟩;revert k
  cases hg:g a b with
  |none=>exact fun k=>k.elim
  |some c=>exact fun k=>o Hc1 H1 ω1 a b va y e1.sub p1 (ra.ext e1) ry c hg _ fun v Hc' H' e p rv=>k _ Hc' H' ow (((S.ext e1 p1).ext e p).set h1 h2 rv) ((x.trans e1).trans e)
 ·exact h.elim
open Classical in
def sApp (i:Nat)(fa:Ef):Sf:=fun ρ ω=>match ρ[i]? with
 |some (some (.lst us))=>Fl.of (fa ρ ω) fun u ω1=>if us.length<sizeLine then .nx (ρ.set i (some (.lst (us++[u])))) ω1 else .stk
 |_=>.stk
theorem Zov {K:L2.Fg}(h2:i∈m.M)(ha:DE W m E ta fa):DS W m E (Z7s (tBM K "list" Z7v (tVar i) (Z4r ta tNil))) (sApp i fa):=by
 intro H0 Hc0 ρ ω σ Hc H ow S x D h;unfold sApp at h;split at h
 ·rename_i us e
  obtain⟨us0,vs0,z1,z2,z3,z4,z5,z6⟩:=S.muL i _ h2 e
  cases z1;refine⟨_,z2,.inl ⟨rfl,vs0,.of z3⟩,ha H0 ρ ω σ Hc H ow S _ ((Cont.of x h).imp fun u ω1 Hc1 H1 e1 p1 k v rv=>?_)⟩;revert k
  split
  ·intro k;have S1:=S.ext e1 p1;refine⟨ow i,vs0,v,rfl,rfl,e1.same _ _ (S.nl z5) z3,by rw[<-z6.len];assumption,?_⟩;exact k _ Hc1 _ ow (S1.mut h2 e ((z6.mono e1.sc).app (.one rv))) (S1.mutE h2 e (x.trans e1))
  ·exact fun k=>k.elim
 ·exact h.elim
def sPut (i:Nat)(fi fa:Ef):Sf:=fun ρ ω=>Fl.of (fa ρ ω) fun u ω1=>match ρ[i]? with
 |some (some (.lst us))=>Fl.of (fi ρ ω1) fun k ω2=>match k with
  |.int k=>match ixN us.length k with
   |some j=>.nx (ρ.set i (some (.lst (us.set j u)))) ω2
   |none=>.stk
  |_=>.stk
 |_=>.stk
theorem Zow (h2:i∈m.M)(hi:DB W m E tb fb)(ha:DE W m E ta fa):DS W m E (tAsg ta (gSub (tVar i) tb Zjm)) (sPut i fb fa):=by
 intro H0 Hc0 ρ ω σ Hc H ow S x D h;refine ha H0 ρ ω σ Hc H ow S _ ((Cont.of x h).imp fun u ω1 Hc1 H1 e1 p1 k v rv=>?_);have S1:=S.ext e1 p1;have x1:=x.trans e1;revert k
 split
 ·rename_i us e
  intro k;obtain⟨us0,vs0,z1,z2,z3,z4,z5,z6⟩:=S1.muL i _ h2 e
  cases z1;refine⟨_,z2,hi H0 ρ ω1 σ Hc1 H1 ow S1 _ ((Cont.of x1 k).imp fun kk ω2 Hc2 H2 e2 p2 k2 y ry=>?_)⟩;revert k2
  split
  ·rename_i n
   split
   ·rename_i j hj
    intro k2;have S2:=S1.ext e2 p2;have:=ry.int;subst this
    refine⟨ow i,vs0,n,j,rfl,rfl,e2.same _ _ (S.nl z5) z3,by rw[<-z6.len];exact hj,?_⟩;exact k2 _ Hc2 _ ow (S2.mut h2 e ((z6.mono e2.sc).set j (rv.mono e2.sc))) (S2.mutE h2 e (x1.trans e2))
   ·exact fun k2=>k2.elim
  ·exact fun k2=>k2.elim
 ·exact fun k=>k.elim
def DG (W:Wd)(m:Md)(g:TG)(a:U->En->Option En):Prop:=∀ H0 ρ ω σ Hc H ow u v ρ',Sr W m ρ ω σ H0 Hc H ow->RU W Hc u v->a u ρ=some ρ'->∀ Q:St->Hp->Prop,(∀ σ',Sr W m ρ' ω σ' H0 Hc H ow->Q σ' H)->g v σ H Q
def DGs (W:Wd)(m:Md)(g:TGs)(a:List U->En->Option En):Prop:=∀ H0 ρ ω σ Hc H ow us vs ρ',Sr W m ρ ω σ H0 Hc H ow->RUs W Hc us vs->a us ρ=some ρ'->∀ Q:St->Hp->Prop,(∀ σ',Sr W m ρ' ω σ' H0 Hc H ow->Q σ' H)->g vs σ H Q
def Z0c (i:Nat):U->En->Option En:=fun u ρ=>some (ρ.set i (some u))
theorem Zkg (h1:i∉m.B)(h2:i∉m.M):DG W m (Z7t i) (Z0c i):=fun H0 ρ ω σ Hc H ow u v ρ' S r e Q k=>by
 cases e;exact k _ (S.set h1 h2 r)
def Z6s:List U->En->Option En:=fun us ρ=>match us with
 |[]=>some ρ
 |_=>none
def Z25 (a:U->En->Option En)(b:List U->En->Option En):List U->En->Option En:=fun us ρ=>match us with
 |u::r=>(a u ρ).bind (b r)
 |_=>none
theorem Zkh:DGs W m gNil Z6s:=fun H0 ρ ω σ Hc H ow us vs ρ' S r e Q k=>by
 unfold Z6s at e;split at e
 ·cases e;rw[RUs]at r;exact⟨r,k _ S⟩
 ·cases e
theorem Zfo {g:TG}{gg:TGs}{a:U->En->Option En}{b:List U->En->Option En}(h1:DG W m g a)(h2:DGs W m gg b):DGs W m (Zmz g gg) (Z25 a b):=fun H0 ρ ω σ Hc H ow us vs ρ' S r e Q k=>by
 unfold Z25 at e;split at e
 ·rename_i u rest
  rw[RUs]at r;obtain⟨v,vr,rfl,r1,r2⟩:=r
  cases q:a u ρ with
  |none=>rw[q]at e;exact noS e
  |some ρ1=>
   rw[q]at e;exact⟨v,vr,rfl,h1 H0 ρ ω σ Hc H ow u v ρ1 S r1 q _ fun σ1 S1=>h2 H0 ρ1 ω σ1 Hc H ow rest vr ρ' S1 r2 e Q k⟩
 ·cases e
def aTup (n:Nat)(b:List U->En->Option En):U->En->Option En:=fun u ρ=>match u with
 |.tup us=>if us.length=n then b us ρ else none
 |_=>none
theorem Zox {n:Nat}{K:L2.Fg}{gg:TGs}{b:List U->En->Option En}(h2:DGs W m gg b):DG W m (gTup K n gg) (aTup n b):=fun H0 ρ ω σ Hc H ow u v ρ' S r e Q k=>by
 unfold aTup at e;split at e
 ·split at e
  ·rw[RU]at r;obtain⟨a,vs,rfl,h1,r1⟩:=r;exact⟨a,vs,rfl,.of (S.sub _ _ h1),by rw[<-r1.len];assumption,h2 H0 ρ ω σ Hc H ow _ vs ρ' S r1 e Q k⟩
  ·cases e
 ·cases e
def sAsg (a:U->En->Option En)(fa:Ef):Sf:=fun ρ ω=>Fl.of (fa ρ ω) fun u ω1=>match a u ρ with
 |some ρ'=>.nx ρ' ω1
 |none=>.stk
theorem Zoy {g:TG}{a:U->En->Option En}(hg:DG W m g a)(ha:DE W m E ta fa):DS W m E (tAsg ta g) (sAsg a fa):=by
 intro H0 Hc0 ρ ω σ Hc H ow S x D h;refine ha H0 ρ ω σ Hc H ow S _ ((Cont.of x h).imp fun u ω1 Hc1 H1 e1 p1 k v rv=>?_);revert k
 cases q:a u ρ with
 |none=>exact fun k=>k.elim
 |some ρ'=>exact fun k=>hg H0 ρ ω1 σ Hc1 H1 ow u v ρ' (S.ext e1 p1) rv q _ fun σ' S'=>k σ' Hc1 H1 ow S' (x.trans e1)
end
def ItR (W:Wd)(Hb Hc:Hp)(J:It)(us:List U):Prop:=∀ Hc2 H2,Same Hc Hc2->Same Hc2 H2->(∀ b o,b∉W.L->Hb b=some o->H2 b=some o) ->
 (∀ i u,us[i]?=some u->J.go i H2/\∀ x H3,J.yld i H2 x H3->∃ Hc3,Ext W Hc2 H2 Hc3 H3/\Same H2 H3/\RU W Hc3 u x)/\J.stop us.length H2
def DI (W:Wd)(m:Md)(E:XK)(c:Bool)(t:TI)(f:Af):Prop:=∀ H0 ρ ω σ Hc H ow,Sr W m ρ ω σ H0 Hc H ow->∀ R:It->Hp->Prop,Aft W E Hc H (f ρ ω) (fun us ψ Hc' H'=>∀ J,ItR W (if c=true then H' else H0) Hc' J us->R J H')->t σ H R
section
variable {W:Wd}{m:Md}{E:XK}{c:Bool}{ta:TE}{fa:Ef}{i:Nat}{tr:TA}{fr:Af}
def iSeq (K:L2.Fg)(tl:TE):TI:=fun σ H R=>tl σ H fun x H1=>∃ a,x=.ref a/\(((∃ xs,SqL K H1 a xs)/\R (Itl K a) H1)\/((∃ xs,SqT K H1 a xs)/\R (Itt K a) H1))
theorem Zhr {X:Cx}{K:L2.Fg}{l tg:Expr}{tl:TE}(hK:X.K=K)(hl:PE X l tl):PI X tg l (iSeq K tl):=by
 subst hK;intro pins s σ H R I h;refine thn (hl pins s σ H _ I h) fun v s1 ⟨x,H1,I1,r1,q1⟩=>?_;obtain⟨a,e,q1⟩:=q1;subst e
 cases r1;rcases q1 with ⟨⟨xs,hq⟩,q⟩|⟨⟨xs,hq⟩,q⟩
 ·obtain⟨its,rv,p,hz⟩:=I1.list hq;refine wpAny_pyIter_list p.isList ?_;refine⟨s1.heap.objs.size,[s1.heap.objs.size],_,_,H1,rfl,I1.kept (t':=s1.toks) fun b o e=>Heap.get?_push_of_some _ e,Zbj a _,⟨_,Heap.get?_push_size _ rfl,rfl,rfl⟩,fun b hb=>?_,q⟩;have e:b=s1.heap.objs.size:=by simpa using hb
  subst e;exact I1.fpOk (Nat.le_refl _) (I1.hok.fresh (Nat.le_refl _))
 ·obtain⟨its,rv,p,hz⟩:=I1.tuple hq;refine wpAny_pyIter_tuple (show s1.heap.IsTuple a its.toArray from p) ?_;refine⟨s1.heap.objs.size,[s1.heap.objs.size],_,_,H1,rfl,I1.kept (t':=s1.toks) fun b o e=>Heap.get?_push_of_some _ e,Z9z a _,⟨_,Heap.get?_push_size _ rfl,rfl,rfl⟩,fun b hb=>?_,q⟩;have e:b=s1.heap.objs.size:=by simpa using hb
  subst e;exact I1.fpOk (Nat.le_refl _) (I1.hok.fresh (Nat.le_refl _))
def Zfp:U->Option (List U)
 |.lst us=>some us
 |.tup us=>some us
 |_=>none
def iOf (fa:Ef):Af:=fun ρ ω=>(fa ρ ω).bnd fun u ω1=>.of (Zfp u) ω1
theorem Zki {Hb Hc:Hp}{a:Addr}{us:List U}{vs:List V}(r:RUs W Hc us vs)(k:∀ Hc2 H2,Same Hc Hc2->Same Hc2 H2->(∀ b o,b∉W.L->Hb b=some o->H2 b=some o)->H2 a=some (.lst vs)):ItR W Hb Hc (Itl W.K a) us:=by
 intro Hc2 H2 s1 s2 s3;have ha:=k Hc2 H2 s1 s2 s3;have one:∀ xs,SqL W.K H2 a xs->SqL W.K H2 a vs->True:=fun ψ ψ ψ=>trivial;refine⟨fun i u hu=>?_,vs,.of ha,by rw[r.len];exact Nat.le_refl _⟩;obtain⟨v,hv,rv⟩:=r.at (i:=0) hu;refine⟨⟨vs,v,.of ha,hv⟩,fun x H3 y=>?_⟩;obtain⟨rfl,y⟩:=y;have e:vs[i]?=some x:=y vs (.of ha);rw[hv]at e;cases e;exact⟨Hc2,Ext.refl s2,fun ψ ψ h=>h,rv.mono s1⟩
theorem Zoz {Hb Hc:Hp}{a:Addr}{us:List U}{vs:List V}(r:RUs W Hc us vs)(h:Hc a=some (.tup vs)):ItR W Hb Hc (Itt W.K a) us:=by
 intro Hc2 H2 s1 s2 s3;have ha:=s2 _ _ (s1 _ _ h);refine⟨fun i u hu=>?_,vs,.of ha,by rw[r.len];exact Nat.le_refl _⟩;obtain⟨v,hv,rv⟩:=r.at (i:=0) hu;refine⟨⟨vs,v,.of ha,hv⟩,fun x H3 y=>?_⟩;obtain⟨rfl,y⟩:=y;have e:vs[i]?=some x:=y vs (.of ha);rw[hv]at e;cases e;exact⟨Hc2,Ext.refl s2,fun ψ ψ h=>h,rv.mono s1⟩
theorem di_e (ha:DE W m E ta fa):DI W m E c (iSeq W.K ta) (iOf fa):=by
 intro H0 ρ ω σ Hc H ow S R h;refine ha H0 ρ ω σ Hc H ow S _ ((Aft.bnd h).imp fun u ω1 Hc1 H1 e1 p1 h1 v rv=>?_);revert h1
 cases u with
 |lst us=>
  intro h1;rw[RU]at rv;obtain⟨a,vs,rfl,q,r⟩:=rv;exact⟨a,rfl,.inl ⟨⟨vs,.of (e1.sub _ _ q)⟩,h1 Hc1 H1 (Ext.refl e1.sub) p1 _ (Zki r fun Hc2 H2 s1 s2 ψ=>s2 _ _ (s1 _ _ q))⟩⟩
 |tup us=>
  intro h1;rw[RU]at rv;obtain⟨a,vs,rfl,q,r⟩:=rv;exact⟨a,rfl,.inr ⟨⟨vs,.of (e1.sub _ _ q)⟩,h1 Hc1 H1 (Ext.refl e1.sub) p1 _ (Zoz r q)⟩⟩
 |_=>exact fun h1=>h1.elim
theorem di_v (h2:i∉m.M):DI W m E c (iSeq W.K (tVar i)) (iOf (eVar i)):=by
 intro H0 ρ ω σ Hc H ow S R h;unfold iOf eVar at h;split at h
 ·rename_i u e
  by_cases hb:i∈m.B
  ·obtain⟨v,q,rv⟩:=S.bo i u hb h2 e;refine⟨v,q,?_⟩;rcases rv with rv|⟨a,o,rfl,nl,q,r⟩
   ·revert h
    cases u with
    |lst us=>
     intro h1;rw[RU]at rv;obtain⟨a,vs,rfl,q,r⟩:=rv;exact⟨a,rfl,.inl ⟨⟨vs,.of (S.sub _ _ q)⟩,h1 Hc H (Ext.refl S.sub) S.pl _ (Zki r fun Hc2 H2 s1 s2 ψ=>s2 _ _ (s1 _ _ q))⟩⟩
    |tup us=>
     intro h1;rw[RU]at rv;obtain⟨a,vs,rfl,q,r⟩:=rv;exact⟨a,rfl,.inr ⟨⟨vs,.of (S.sub _ _ q)⟩,h1 Hc H (Ext.refl S.sub) S.pl _ (Zoz r q)⟩⟩
    |_=>exact fun h1=>h1.elim
   ·cases u with
    |lst us'=>
     obtain⟨vs,rfl,r⟩:=r;refine⟨a,rfl,.inl ⟨⟨vs,.of (S.s0 _ _ nl q)⟩,h Hc H (Ext.refl S.sub) S.pl _ (Zki r fun Hc2 H2 s1 s2 s3=>?_)⟩⟩
     cases c with
     |true=>exact s3 _ _ nl (S.s0 _ _ nl q)
     |false=>exact s3 _ _ nl q
    |dic _ _=>exact h.elim
    |_=>exact r.elim
  ·have d:DE W m E (tVar i) (eVar i):=Zhl hb h2;refine di_e (c:=c) d H0 ρ ω σ Hc H ow S R ?_;unfold iOf eVar;rw[e];exact h
 ·exact h.elim
def rngU (lo:Int) (n:Nat):List U:=(List.range n).map fun i:Nat=>U.int (lo+(i:Int))
theorem Zp0 {Hb Hc:Hp}{lo:Int}{n:Nat}:ItR W Hb Hc (Itr lo n) (rngU lo n):=by
 intro Hc2 H2 s1 s2 s3;refine⟨fun i u hu=>?_,by show n<=(rngU lo n).length;simp[rngU]⟩;unfold rngU at hu;rw[List.getElem?_map]at hu;have li:i<n:=by
  by_cases l:i<n
  ·exact l
  ·rw[List.getElem?_eq_none (by simpa using l)]at hu;cases hu
 rw[List.getElem?_range li]at hu
 cases hu;refine⟨li,fun x H3 y=>?_⟩;obtain⟨rfl,rfl⟩:=y;exact⟨Hc2,Ext.refl s2,fun ψ ψ h=>h,.int⟩
def InR (j:Int):Prop := -(2 ^ 62)<=j/\j<2 ^ 62
open Classical in
def uR1:List U->Option (List U)
 |[.int j]=>if InR j then some (rngU 0 j.toNat)else none
 |_=>none
open Classical in
def uR2:List U->Option (List U)
 |[.int i,.int j]=>if InR i/\InR j then some (rngU i (j-i).toNat)else none
 |_=>none
def Z1z (g:List U->Option (List U))(fr:Af):Af:=fun ρ ω=>(fr ρ ω).bnd fun us ω1=>.of (g us) ω1
theorem Zss (hr:DA W m E [true] tr fr):DI W m E c (Zn2 tr) (Z1z uR1 fr):=by
 intro H0 ρ ω σ Hc H ow S R h;refine hr H0 ρ ω σ Hc H ow S _ ((Aft.bnd h).imp fun us ω1 Hc1 H1 e1 p1 h1 vs rs=>?_);revert h1
 cases hg:uR1 us with
 |none=>exact fun h1=>h1.elim
 |some ws=>
  intro h1;unfold uR1 at hg;split at hg
  ·split at hg<;>cases hg
   rename_i j hj
   obtain⟨v,rfl,rv⟩:=rs.one;have:=rv.int;subst this
   exact⟨j,rfl,hj.1,hj.2,h1 Hc1 H1 (Ext.refl e1.sub) p1 _ Zp0⟩
  ·cases hg
theorem Zst (hr:DA W m E [true,true] tr fr):DI W m E c (Zn3 tr) (Z1z uR2 fr):=by
 intro H0 ρ ω σ Hc H ow S R h;refine hr H0 ρ ω σ Hc H ow S _ ((Aft.bnd h).imp fun us ω1 Hc1 H1 e1 p1 h1 vs rs=>?_);revert h1
 cases hg:uR2 us with
 |none=>exact fun h1=>h1.elim
 |some ws=>
  intro h1;unfold uR2 at hg;split at hg
  ·split at hg<;>cases hg
   rename_i i j hj
   obtain⟨v,v',rfl,rv,rv'⟩:=rs.two;have:=rv.int;subst this
   have:=rv'.int;subst this
   exact⟨i,j,rfl,⟨hj.1.1,hj.1.2,hj.2.1,hj.2.2⟩,h1 Hc1 H1 (Ext.refl e1.sub) p1 _ Zp0⟩
  ·cases hg
def Zab (us:List U):List U:=us.mapIdx fun i u=>.tup [.int i,u]
end
theorem Ext.again {W:Wd}{Hc0 H0 Hc H:Hp}(x:Ext W Hc0 H0 Hc H):Ext W Hc H0 Hc H:=⟨x.same,fun ψ ψ h=>h,x.sub,fun ψ h ψ=>h,x.frz⟩
theorem Ext.comp {W:Wd}{Hc0 H0 Hc H Hc' H':Hp}(x:Ext W Hc0 H0 Hc H)(y:Ext W Hc H0 Hc' H'):Ext W Hc0 H0 Hc' H':=⟨y.same,x.sc.trans y.sc,y.sub,fun b h k=>y.new b (x.new b h k) k,y.frz⟩
def forU (st:U->En->Om->Fl):List U->En->Om->Fl
 |[],ρ,ω=>.nx ρ ω
 |x::xs,ρ,ω=>match st x ρ ω with
  |.nx ρ' ω'=>forU st xs ρ' ω'
  |.ct ρ' ω'=>forU st xs ρ' ω'
  |.bk ρ' ω'=>.nx ρ' ω'
  |o=>o
def Z0r (a:U->En->Option En)(b:Sf):U->En->Om->Fl:=fun x ρ ω=>match a x ρ with
 |some ρ'=>b ρ' ω
 |none=>.stk
def sFor (fi:Af)(a:U->En->Option En)(b:Sf):Sf:=fun ρ ω=>Fl.of (fi ρ ω) fun us ω1=>forU (Z0r a b) us ρ ω1
section
variable {W:Wd}{m:Md}{E:XK}{wi:TI}{fi:Af}{g:TG}{a:U->En->Option En}{tb:TS}{b:Sf}
theorem Z2z {α:Type}{xs:List α}{i:Nat}{x:α}(h:xs[i]?=some x):xs.drop i=x::xs.drop (i+1):=by
 obtain⟨l,e⟩:=List.getElem?_eq_some_iff.mp h;rw[List.drop_eq_getElem_cons l,e]
theorem Zp1 (hi:DI W m E false wi fi)(hg:DG W m g a)(hb:DS W m E tb b):DS W m E (tFor wi g tb) (sFor fi a b):=by
 intro H0 Hc0 ρ ω σ Hc H ow S x D h;refine hi H0 ρ ω σ Hc H ow S _ ((Cont.of x h).imp fun us ω1 Hc1 H1 e1 p1 k J hJ=>?_);have S1:=S.ext e1 p1;refine⟨fun i n σ H=>n=us.length-i/\i<=us.length/\∃ ρ ω Hc ow,Sr W m ρ ω σ H0 Hc H ow/\Ext W Hc0 H0 Hc H/\Same Hc1 Hc/\Cont W m E Hc0 H0 D (forU (Z0r a b) (us.drop i) ρ ω),⟨us.length,by simp,Nat.zero_le _,ρ,ω1,Hc1,ow,S1,x.trans e1,fun ψ ψ h=>h,k⟩,?_⟩;rintro i n σ2 H2 ⟨rfl,hle,ρ2,ω2,Hc2,ow2,S2,x2,sc,k2⟩;have J2:=hJ Hc2 H2 sc S2.sub S2.s0;by_cases lt:i<us.length
 ·have hx:us[i]?=some us[i]:=by simp[lt]
  obtain⟨go,yl⟩:=J2.1 i _ hx;rw[Z2z hx]at k2;refine .inr ⟨go,fun σ' H'=>i+1<=us.length/\∃ ρ ω Hc ow,Sr W m ρ ω σ' H0 Hc H' ow/\Ext W Hc0 H0 Hc H'/\Same Hc1 Hc/\Cont W m E Hc0 H0 D (forU (Z0r a b) (us.drop (i+1)) ρ ω),fun σ' H' hq=>⟨_,by omega,rfl,hq.1,hq.2⟩,fun y H3 hy=>?_⟩;obtain⟨Hc3,e3,s3,ry⟩:=yl y H3 hy;have p3:PlOk W ω2 Hc3 H3:=S2.pl.same e3 s3;have S3:=S2.ext e3 p3;have x3:=x2.trans e3;unfold forU Z0r at k2
  cases q:a us[i] ρ2 with
  |none=>simp only[q]at k2;exact k2.elim
  |some ρ'=>
   simp only[q]at k2;refine hg H0 ρ2 ω2 σ2 Hc3 H3 ow2 _ y ρ' S3 ry q _ fun σ' S'=>?_;refine hb H0 Hc3 ρ' ω2 σ' Hc3 H3 ow2 S' x3.again _ ?_;revert k2
   cases b ρ' ω2 with
   |nx ρ4 ω4=>exact fun k2 σ4 Hc4 H4 ow4 S4 x4=>⟨lt,ρ4,ω4,Hc4,ow4,S4,x3.comp x4,(sc.trans e3.sc).trans x4.sc,k2⟩
   |ct ρ4 ω4=>exact fun k2 σ4 Hc4 H4 ow4 S4 x4=>⟨lt,ρ4,ω4,Hc4,ow4,S4,x3.comp x4,(sc.trans e3.sc).trans x4.sc,k2⟩
   |bk ρ4 ω4=>exact fun k2 σ4 Hc4 H4 ow4 S4 x4=>k2 σ4 Hc4 H4 ow4 S4 (x3.comp x4)
   |rt u ω4=>exact fun k2 v Hc4 H4 x4=>k2 v Hc4 H4 (x3.comp x4)
   |err c pl ω4=>exact fun k2 C od Hc4 H4 x4=>k2 C od Hc4 H4 (x3.comp x4)
   |stk=>exact fun k2=>k2
 ·have e:i=us.length:=by omega
  subst e;rw[List.drop_length]at k2;exact .inl ⟨J2.2,k2 σ2 Hc2 H2 ow2 S2 x2⟩
def wh (c:Tf)(b:Sf):Nat->En->Om->Option Fl
 |0,_,_=>none
 |n+1,ρ,ω=>match c ρ ω with
  |.ok true ω1=>match b ρ ω1 with
   |.nx ρ' ω'=>wh c b n ρ' ω'
   |.ct ρ' ω'=>wh c b n ρ' ω'
   |.bk ρ' ω'=>some (.nx ρ' ω')
   |o=>some o
  |.ok false ω1=>some (.nx ρ ω1)
  |.err e p ω1=>some (.err e p ω1)
  |.stk=>some .stk
open Classical in
def sWh (c:Tf)(b:Sf):Sf:=fun ρ ω=>if h:∃ r n,wh c b n ρ ω=some r then h.choose else .stk
theorem Z5l {c:Tf}{b:Sf}{r:Fl}:∀{n:Nat}{ρ:En}{ω:Om} (k:Nat),wh c b n ρ ω=some r->wh c b (n+k) ρ ω=some r
 |0,_,_,_,h=>by cases h
 |n+1,ρ,ω,k,h=>by
  rw[show n+1+k=(n+k)+1 by omega];unfold wh at h ⊢
  cases q:c ρ ω with
  |ok t ω1=>
   cases t with
   |false=>simp only[q]at h ⊢;exact h
   |true=>
    simp only[q]at h ⊢
    cases q2:b ρ ω1 with
    |nx ρ' ω'=>simp only[q2]at h ⊢;exact Z5l k h
    |ct ρ' ω'=>simp only[q2]at h ⊢;exact Z5l k h
    |_=>simp only[q2]at h ⊢;exact h
  |err e p ω1=>simp only[q]at h ⊢;exact h
  |stk=>simp only[q]at h ⊢;exact h
theorem Zkj {c:Tf}{b:Sf}{r r':Fl}{n n':Nat}{ρ:En}{ω:Om}(h:wh c b n ρ ω=some r)(h':wh c b n' ρ ω=some r'):r=r':=by
 have z1:=Z5l n' h;have z2:=Z5l n h';rw[Nat.add_comm]at z2;rw[z1]at z2;exact Option.some.inj z2
theorem Z54 {c:Tf}{b:Sf}{r:Fl}{n:Nat}{ρ:En}{ω:Om}(h:wh c b n ρ ω=some r):sWh c b ρ ω=r:=by
 have ex:∃ r n,wh c b n ρ ω=some r:=⟨r,n,h⟩
 unfold sWh;rw[dif_pos ex];obtain⟨n',z⟩:=ex.choose_spec;exact Zkj z h
theorem Z7z {c:Tf}{b:Sf}{ρ:En}{ω ω1:Om}(h:c ρ ω=.ok false ω1):sWh c b ρ ω=.nx ρ ω1:=Z54 (n:=1) (by unfold wh;simp only[h])
theorem Z5m {c:Tf}{b:Sf}{ρ:En}{ω:Om}(h:¬ ∃ r n,wh c b n ρ ω=some r):sWh c b ρ ω=.stk:=by unfold sWh;rw[dif_neg h]
theorem Z5n {c:Tf}{b:Sf}{ρ ρ':En}{ω ω1 ω':Om}(h:c ρ ω=.ok true ω1)(h2:b ρ ω1=.nx ρ' ω'):sWh c b ρ ω=sWh c b ρ' ω':=by
 by_cases ex:∃ r n,wh c b n ρ' ω'=some r
 ·obtain⟨r,n,z⟩:=ex;rw[Z54 z];exact Z54 (n:=n+1) (by unfold wh;simp only[h,h2];exact z)
 ·rw[Z5m ex];refine Z5m fun⟨r,n,z⟩=>ex ?_
  cases n with
  |zero=>cases z
  |succ n=>unfold wh at z;simp only[h,h2]at z;exact⟨r,n,z⟩
theorem Zkk {c:Tf}{b:Sf}{ρ:En}{u:U}{ω ω1 ω':Om}(h:c ρ ω=.ok true ω1)(h2:b ρ ω1=.rt u ω'):sWh c b ρ ω=.rt u ω':=Z54 (n:=1) (by unfold wh;simp only[h,h2])
theorem Zkl {c:Tf}{b:Sf}{ρ:En}{e:Str}{p:Option Int}{ω ω1 ω':Om}(h:c ρ ω=.ok true ω1)(h2:b ρ ω1=.err e p ω'):sWh c b ρ ω=.err e p ω':=Z54 (n:=1) (by unfold wh;simp only[h,h2])
theorem Zcj {c:Tf}{b:Sf}{K:Fl->Prop}(P:Nat->En->Om->Prop)(hs:∀ n ρ ω,P n ρ ω->(∃ ω1,c ρ ω=.ok false ω1/\K (.nx ρ ω1))\/(∃ ω1,c ρ ω=.ok true ω1 /\
  ((∃ n' ρ' ω',n'<n/\b ρ ω1=.nx ρ' ω'/\P n' ρ' ω')\/(∃ u ω',b ρ ω1=.rt u ω'/\K (.rt u ω'))\/(∃ e p ω',b ρ ω1=.err e p ω'/\K (.err e p ω'))))):∀ (n:Nat)(ρ:En)(ω:Om),P n ρ ω->K (sWh c b ρ ω):=by
 intro n;induction n using Nat.strongRecOn with
 |ind n ih=>
  intro ρ ω h;rcases hs n ρ ω h with ⟨ω1,z,k⟩|⟨ω1,z,⟨n',ρ',ω',l,z2,p⟩|⟨u,ω',z2,k⟩|⟨e,p,ω',z2,k⟩⟩
  ·rw[Z7z z];exact k
  ·rw[Z5n z z2];exact ih n' l ρ' ω' p
  ·rw[Zkk z z2];exact k
  ·rw[Zkl z z2];exact k
theorem Zfq {tc:TT}{c:Tf}(hc:DT W m E tc c)(hb:DS W m E tb b):DS W m E (Zhg tc tb) (sWh c b):=by
 intro H0 Hc0 ρ ω σ Hc H ow S x D h;by_cases ex:∃ r n,wh c b n ρ ω=some r
 ·obtain⟨r,n,hr⟩:=ex;rw[Z54 hr]at h;refine⟨fun n σ H=>∃ ρ ω Hc ow,Sr W m ρ ω σ H0 Hc H ow/\Ext W Hc0 H0 Hc H/\wh c b n ρ ω=some r,⟨n,ρ,ω,Hc,ow,S,x,hr⟩,?_⟩;rintro n σ2 H2 ⟨ρ2,ω2,Hc2,ow2,S2,x2,w2⟩
  cases n with
  |zero=>cases w2
  |succ n=>
   unfold wh at w2;refine hc H0 ρ2 ω2 σ2 Hc2 H2 ow2 S2 _ ?_
   cases q:c ρ2 ω2 with
   |stk=>simp only[q]at w2;cases w2;exact h
   |err e p ω1=>simp only[q]at w2;cases w2;exact fun C od Hc' H' e p hm hx=>h C od Hc' H' (x2.trans e) p hm hx
   |ok t ω1=>
    intro Hc3 H3 e3 p3;have S3:=S2.ext e3 p3;have x3:=x2.trans e3
    cases t with
    |false=>
     simp only[q]at w2;cases w2;rw[if_neg Bool.false_ne_true];exact h σ2 Hc3 H3 ow2 S3 x3
    |true=>
     simp only[q]at w2;rw[if_pos rfl];refine⟨fun σ' H'=>∃ ρ ω Hc ow,Sr W m ρ ω σ' H0 Hc H' ow/\Ext W Hc0 H0 Hc H'/\wh c b n ρ ω=some r,fun σ' H' hq=>⟨n,Nat.lt_succ_self n,hq⟩,?_⟩;refine hb H0 Hc0 ρ2 ω1 σ2 Hc3 H3 ow2 S3 x3 _ ?_
     cases q2:b ρ2 ω1 with
     |nx ρ4 ω4=>simp only[q2]at w2;exact fun σ4 Hc4 H4 ow4 S4 x4=>⟨ρ4,ω4,Hc4,ow4,S4,x4,w2⟩
     |ct ρ4 ω4=>simp only[q2]at w2;exact fun σ4 Hc4 H4 ow4 S4 x4=>⟨ρ4,ω4,Hc4,ow4,S4,x4,w2⟩
     |bk ρ4 ω4=>simp only[q2]at w2;cases w2;exact h
     |rt u ω4=>simp only[q2]at w2;cases w2;exact h
     |err e p ω4=>simp only[q2]at w2;cases w2;exact h
     |stk=>simp only[q2]at w2;cases w2;exact h
 ·rw[Z5m ex]at h;exact h.elim
end
def blkU (k:Nat)(js:List Nat)(ρ:En):En:=List.replicate k none++js.map fun j=>(ρ[j]?).getD none
def cmpU (st:U->Om->Res (Option U)):List U->Om->Res (List U)
 |[],ω=>.ok [] ω
 |x::xs,ω=>(st x ω).bnd fun o ω1=>(cmpU st xs ω1).bnd fun r ω2=>.ok (o.toList++r) ω2
def cstU (a:U->En->Option En)(ft:Tf)(fe:Ef)(ρ:En):U->Om->Res (Option U):=fun x ω=>match a x ρ with
 |some ρ'=>(ft ρ' ω).bnd fun b ω1=>if b=true then (fe ρ' ω1).bnd fun u ω2=>.ok (some u) ω2 else .ok none ω1
 |none=>.stk
def asOk {α β:Type}(r:Res α)(k:α->Om->Res β):Res β:=match r with
 |.ok a ω=>k a ω
 |_=>.stk
@[simp] theorem asOk_ok {α β:Type}{a:α}{ω:Om}{k:α->Om->Res β}:asOk (.ok a ω) k=k a ω:=rfl
open Classical in
def Z3d (fi:Af) (k:Nat)(js:List Nat)(a:U->En->Option En)(ft:Tf)(fe:Ef):Ef:=fun ρ ω=>(fi ρ ω).bnd fun us ω1=>
 if us.length<=sizeLine then asOk (cmpU (cstU a ft fe (blkU k js ρ)) us ω1) fun r ω2=>.ok (.lst r) ω2 else .stk
section
variable {W:Wd}{m mb:Md}{E:XK}{wi:TI}{fi:Af}{k:Nat}{js:List Nat}{g:TG}{a:U->En->Option En}{tc:TT}{ft:Tf}{te:TE}{fe:Ef}
theorem Zhs {ρ:En}{i:Nat}{u:U}(h:(blkU k js ρ)[i]?=some (some u)):∃ p j,i=k+p/\js[p]?=some j/\ρ[j]?=some (some u):=by
 unfold blkU at h;by_cases l:i<k
 ·rw[List.getElem?_append_left (by simpa using l),List.getElem?_replicate]at h;split at h<;>cases h
 ·rw[List.getElem?_append_right (by simpa using l),List.length_replicate,List.getElem?_map]at h;refine⟨i-k,?_⟩
  cases q:js[i-k]? with
  |none=>rw[q]at h;exact noS h
  |some j=>
   rw[q]at h;refine⟨j,by lia,rfl,?_⟩
   cases q2:ρ[j]? with
   |none=>rw[show(some j).map (fun j=>(ρ[j]?).getD none)=some ((ρ[j]?).getD none)from rfl,q2]at h;cases h
   |some w=>
    rw[show(some j).map (fun j=>(ρ[j]?).getD none)=some ((ρ[j]?).getD none)from rfl,q2]at h
    cases h;rfl
theorem Zck {σ:St}{p j:Nat}{v:V}(h:js[p]?=some j)(hv:σ[j]?=some (some v)):(blk k js σ)[k+p]?=some (some v):=by
 unfold blk;rw[List.getElem?_append_right (by simp),List.length_replicate,Nat.add_sub_cancel_left,List.getElem?_map,h];show some ((σ[j]?).getD none)=_;rw[hv];rfl
theorem Sr.blk {ρ:En}{ω ω':Om}{σ:St}{H0 Hc1 H1 Hc H:Hp}{ow:Nat->Addr}(S:Sr W m ρ ω σ H0 Hc1 H1 ow)(hB:∀ p j,js[p]?=some j->(j∈m.B\/j∈m.M)->k+p∈mb.B)(hM:mb.M=[])(e:Ext W Hc1 H1 Hc H)(p:PlOk W ω' Hc H) :
  Sr W mb (blkU k js ρ) ω' (blk k js σ) H1 Hc H ow:=by
 refine⟨e.sub,e.same,fun b hb=>(S.pl.out b hb).2,by unfold blkU L2.blk;simp,p,fun i u n1 n2 h=>?_,fun i u n1 n2 h=>?_,fun i u n h=>(by rw[hM]at n;cases n),fun i j u w n=>(by rw[hM]at n;cases n)⟩
 ·obtain⟨q,j,rfl,hj,hu⟩:=Zhs h;obtain⟨v,hv,rv⟩:=S.cl j u (fun z=>n1 (hB q j hj (.inl z))) (fun z=>n1 (hB q j hj (.inr z))) hu;exact⟨v,Zck hj hv,rv.mono e.sc⟩
 ·obtain⟨q,j,rfl,hj,hu⟩:=Zhs h;obtain⟨v,hv,rv⟩:=S.get hu;refine⟨v,Zck hj hv,?_⟩;rcases rv with rv|⟨b,o,e2,nl,q1,q2⟩
  ·exact .inl (rv.mono e.sc)
  ·exact .inr ⟨b,o,e2,nl,q1,q2.mono e.sc⟩
@[reducible] def cmpI (W:Wd)(st:U->Om->Res (Option U))(us tot:List U)(ωf:Om)(Hc1 H1:Hp):Nat->Nat->List V->Hp->Prop:=fun i n ys H=>n=us.length-i/\i<=us.length/\∃ ω Hc acc rest,Ext W Hc1 H1 Hc H/\PlOk W ω Hc H/\RUs W Hc acc ys/\acc.length<=i/\cmpU st (us.drop i) ω=.ok rest ωf/\acc++rest=tot
theorem Z80 (hi:DI W m E true wi fi)(hg:DG W mb g a)(ht:DT W mb E0 tc ft)(he:DE W mb E0 te fe)(hB:∀ p j,js[p]?=some j->(j∈m.B\/j∈m.M)->k+p∈mb.B)(hM:mb.M=[]) :
  DF W m E (Zju wi k js g tc te) (Z3d fi k js a ft fe):=by
 intro H0 ρ ω σ Hc H ow S Q h;refine hi H0 ρ ω σ Hc H ow S _ ((Aft.bnd h).imp fun us ω1 Hc1 H1 e1 p1 h1 J hJ=>?_);have S1:=S.ext e1 p1;rw[if_pos rfl]at hJ;by_cases hl:us.length<=sizeLine
 ·rw[if_pos hl]at h1
  cases hr:cmpU (cstU a ft fe (blkU k js ρ)) us ω1 with
  |stk=>rw[hr]at h1;exact h1.elim
  |err _ _ _=>rw[hr]at h1;exact h1.elim
  |ok tot ωf=>
   rw[hr]at h1;refine⟨cmpI W (cstU a ft fe (blkU k js ρ)) us tot ωf Hc1 H1,
    ⟨us.length,by simp,Nat.zero_le _,ω1,Hc1,[],tot,Ext.refl e1.sub,p1,.nil,Nat.zero_le _,hr,rfl⟩,?_⟩
   rintro i n ys H2 ⟨rfl,hle,ω2,Hc2,acc,rest,e2,p2,r2,l2,w2,tt⟩;have J2:=hJ Hc2 H2 e2.sc e2.sub e2.same;by_cases lt:i<us.length
   ·have hx:us[i]?=some us[i]:=by simp[lt]
    obtain⟨go,yl⟩:=J2.1 i _ hx;rw[Z2z hx]at w2;refine .inr ⟨go,by rw[<-r2.len];lia,fun y H3 hy=>?_⟩;obtain⟨Hc3,e3,s3,ry⟩:=yl y H3 hy;have p3:PlOk W ω2 Hc3 H3:=p2.same e3 s3;have Sb:=S1.blk (mb:=mb) hB hM (e2.trans e3) p3;unfold cmpU at w2
    cases q:a us[i] (blkU k js ρ)with
    |none=>rw[show cstU a ft fe (blkU k js ρ) us[i] ω2=.stk by unfold cstU;rw[q]]at w2;cases w2
    |some ρ'=>
     rw[show cstU a ft fe (blkU k js ρ) us[i] ω2=(ft ρ' ω2).bnd fun b ω1=>if b=true then (fe ρ' ω1).bnd fun u ω2=>.ok (some u) ω2 else .ok none ω1 by unfold cstU;rw[q]]at w2;refine hg H1 _ ω2 _ Hc3 H3 ow _ y ρ' Sb ry q _ fun σ' S'=>?_
     cases q2:ft ρ' ω2 with
     |stk=>rw[q2]at w2;cases w2
     |err _ _ _=>rw[q2]at w2;cases w2
     |ok b ω4=>
      rw[q2]at w2;refine ht H1 ρ' ω2 σ' Hc3 H3 ow S' _ ?_;rw[q2];intro Hc4 H4 e4 p4;have S4:=S'.ext e4 p4
      cases b with
      |false=>
       rw[if_neg Bool.false_ne_true];simp only[Res.bnd_ok,Bool.false_eq_true,if_false]at w2
       cases q5:cmpU (cstU a ft fe (blkU k js ρ)) (us.drop (i+1)) ω4 with
       |stk=>rw[q5]at w2;cases w2
       |err _ _ _=>rw[q5]at w2;cases w2
       |ok r5 ω5=>
        rw[q5]at w2;simp only[Res.bnd_ok,Option.toList_none,List.nil_append]at w2
        cases w2;exact⟨_,by lia,rfl,lt,ω4,Hc4,acc,_,(e2.trans e3).trans e4,p4,(r2.mono e3.sc).mono e4.sc,by lia,q5,tt⟩
      |true=>
       rw[if_pos rfl];simp only[Res.bnd_ok,if_true]at w2
       cases q6:fe ρ' ω4 with
       |stk=>rw[q6]at w2;cases w2
       |err _ _ _=>rw[q6]at w2;cases w2
       |ok u ω6=>
        rw[q6]at w2;simp only[Res.bnd_ok]at w2;refine he H1 ρ' ω4 σ' Hc4 H4 ow S4 _ ?_;rw[q6];intro Hc6 H6 e6 p6 v rv
        cases q5:cmpU (cstU a ft fe (blkU k js ρ)) (us.drop (i+1)) ω6 with
        |stk=>rw[q5]at w2;cases w2
        |err _ _ _=>rw[q5]at w2;cases w2
        |ok r5 ω5=>
         rw[q5]at w2;simp only[Res.bnd_ok,Option.toList_some]at w2
         cases w2;exact⟨_,by lia,rfl,lt,ω6,Hc6,acc++[u],_,((e2.trans e3).trans e4).trans e6,p6,(((r2.mono e3.sc).mono e4.sc).mono e6.sc).app (.one rv),by simp;lia,q5,by rw[List.append_assoc];exact tt⟩
   ·have e:i=us.length:=by lia
    subst e;rw[List.drop_length]at w2;unfold cmpU at w2
    cases w2;rw[List.append_nil]at tt;subst tt;refine .inl ⟨J2.2,by rw[<-r2.len];lia,fun p n=>?_⟩;exact h1 Hc2 _ (e2.trans (Z0v e2.sub p2 n).1) (Z0v e2.sub p2 n).2 _ _ _ rfl (e2.sub.free n) ((e1.trans e2).frz' n) Z05 r2
 ·rw[if_neg hl]at h1;exact h1.elim
end
def Zsu (W:Wd)(E:XK)(Hc0 H0:Hp)(D:Ends)(r:Fl):Prop:=match r with
 |.nx _ ω'=>∀ σ' Hc' H',Ext W Hc0 H0 Hc' H'->PlOk W ω' Hc' H'->D.nx σ' H'
 |.bk _ _=>False
 |.ct _ _=>False
 |.rt u ω'=>∀ v Hc' H',Ext W Hc0 H0 Hc' H'->PlOk W ω' Hc' H'->RU W Hc' u v->D.rt v H'
 |.err c pl ω'=>∀ C od Hc' H',Ext W Hc0 H0 Hc' H'->PlOk W ω' Hc' H'->W.mg c=some (.ref C)->XR Hc' pl od->E (.ref C) od H'
 |.stk=>False
def DK (W:Wd)(m:Md)(E:XK)(t:TS)(g:Sf):Prop:=∀ H0 Hc0 ρ ω σ Hc H ow,Sr W m ρ ω σ H0 Hc H ow->Ext W Hc0 H0 Hc H->∀ D:Ends,Zsu W E Hc0 H0 D (g ρ ω)->t D σ H
section
variable {W:Wd}{m:Md}{E:XK}{t1 t2 t:TS}{g1 g2 gs:Sf}
theorem Zp2 (h:DS W m E t gs):DK W m E t gs:=by
 intro H0 Hc0 ρ ω σ Hc H ow S x D k;refine h H0 Hc0 ρ ω σ Hc H ow S x D ?_;revert k
 cases gs ρ ω with
 |nx ρ' ω'=>exact fun k σ' Hc' H' ow' S' x'=>k σ' Hc' H' x' S'.pl
 |bk ρ' ω'=>exact fun k=>k.elim
 |ct ρ' ω'=>exact fun k=>k.elim
 |_=>exact fun k=>k
theorem Zp3 (h1:DS W m E t1 g1)(h2:DK W m E t2 g2):DK W m E (tSeq t1 t2) (sSeq g1 g2):=by
 intro H0 Hc0 ρ ω σ Hc H ow S x D h;refine h1 H0 Hc0 ρ ω σ Hc H ow S x { D with nx:=t2 D } ?_;unfold sSeq at h;revert h
 cases g1 ρ ω with
 |nx ρ' ω'=>exact fun h σ' Hc' H' ow' S' x'=>h2 H0 Hc0 ρ' ω' σ' Hc' H' ow' S' x' D h
 |bk ρ' ω'=>exact fun k=>k.elim
 |ct ρ' ω'=>exact fun k=>k.elim
 |_=>exact fun h=>h
end
def runU (n:Nat)(g:Sf):Ff:=fun us ω=>match g (us.map some++List.replicate (n-us.length) none) ω with
 |.nx _ ω'=>.ok .non ω'
 |.rt u ω'=>.ok u ω'
 |.err c p ω'=>.err c p ω'
 |_=>.stk
theorem RBs.at {W:Wd}{Hc H:Hp}:∀{bs:List Bool}{us:List U}{vs:List V}{i:Nat}{u:U},RBs W Hc H bs us vs->us[i]?=some u->∃ v b,vs[i]?=some v/\bs[i]?=some b/\if b=true then RB W Hc H u v else RU W Hc u v
 |[],[],[],_,_,_,e=>by simp at e
 |b::bs,u::us,v::vs,0,w,h,e=>by unfold RBs at h;simp at e;subst e;exact⟨v,b,rfl,rfl,h.1⟩
 |b::bs,u::us,v::vs,i+1,w,h,e=>by
  unfold RBs at h;obtain⟨v',b',q1,q2,q3⟩:=RBs.at h.2 (show us[i]?=some w by simpa using e);exact⟨v',b',by simpa using q1,by simpa using q2,q3⟩
 |[],_::_,_,_,_,h,_=>by unfold RBs at h;exact h.elim
 |[],[],_::_,_,_,h,_=>by unfold RBs at h;exact h.elim
 |_::_,[],_,_,_,h,_=>by unfold RBs at h;exact h.elim
 |_::_,_::_,[],_,_,h,_=>by unfold RBs at h;exact h.elim
theorem Sr.start {W:Wd}{m:Md}{ω:Om}{Hc H:Hp}{bs:List Bool}{us:List U}{vs:List V}{N:List Str}(s:Same Hc H)(p:PlOk W ω Hc H)(r:RBs W Hc H bs us vs)(hB:∀ i,bs[i]?=some true->i∈m.B)(hM:∀ i∈m.M,bs.length<=i)(hn:vs.length<=N.length) :
  Sr W m (us.map some++List.replicate (N.length-us.length) none) ω (L2.start N vs) H Hc H (fun ψ=>0):=by
 have l1:=r.len.1;have l2:=r.len.2;have key:∀{i:Nat}{u:U},(us.map some++List.replicate (N.length-us.length) none)[i]?=some (some u)->us[i]?=some u:=fun{i u} h=>by
  by_cases l:i<us.length
  ·rw[List.getElem?_append_left (by simpa using l),List.getElem?_map]at h
   cases q:us[i]? with
   |none=>rw[q]at h;exact noS h
   |some w=>rw[q]at h;cases h;rfl
  ·rw[List.getElem?_append_right (by simpa using l),List.getElem?_replicate]at h;split at h<;>cases h
 have kv:∀{i:Nat}{v:V},vs[i]?=some v->(L2.start N vs)[i]?=some (some v):=fun{i v} h=>by
  have l:i<vs.length:=(List.getElem?_eq_some_iff.mp h).1;unfold L2.start;rw[List.getElem?_append_left (by simpa using l),List.getElem?_map,h];rfl
 refine⟨s,fun ψ ψ ψ h=>h,fun b hb=>(p.out b hb).2,by unfold L2.start;simp;lia,p,fun i u n1 n2 h=>?_,fun i u n1 n2 h=>?_,fun i u n h=>?_,fun i j u w n m' ne h=>?_⟩
 ·obtain⟨v,b,q1,q2,q3⟩:=r.at (key h)
  cases b with
  |true=>exact absurd (hB i q2) n1
  |false=>exact⟨v,kv q1,q3⟩
 ·obtain⟨v,b,q1,q2,q3⟩:=r.at (key h)
  refine⟨v,kv q1,?_⟩
  cases b with
  |true=>exact q3
  |false=>exact .inl q3
 ·have z:=(List.getElem?_eq_some_iff.mp (key h)).1;have:=hM i n
  lia
 ·have z:=(List.getElem?_eq_some_iff.mp (key h)).1;have:=hM i n
  lia
section
variable {P:Program}{w:World}{K:L2.Fg}{mg:L2.SV}{base:Heap}
theorem Fun.okU {x qual:Str}{st:Stmt}{f:Addr}{fd:FuncData}{N ps:List Str}{k:Nat}{wk:Wd->Prop}{bs:List Bool}{m:Md}{g:Sf}(F:Fun K x qual st f fd)(S:Z0f N ps (Z02 st))(hl:bs.length=ps.length)(hB:∀ i,bs[i]?=some true->i∈m.B)(hM:∀ i∈m.M,bs.length<=i)(hN:ps.length<=N.length)
  (hbody:∀ (cdv:Value)(A:Around)(outer:List Env)(s:Shared)(H:Hp)(E:XK)(W:Wd),W.K=K->W.mg=mg->wk W->Room k (A.deeper (envOfC qual (Z02 st) s.heap.objs.size f cdv))->A.handled=none ->
   ∃ t,PSs (cxOf (CX1 P w) P w K mg base N qual (Z02 st) f cdv A outer s H E) (Z0e st) t/\DK W m E t g):FnOk P w K mg base (CX1 P w) (k+1) f fd ps (spU K mg wk bs.length bs (runU N.length g)):=by
 refine F.okX S (fun vs H Q E h=>?_) fun cdv A outer s H vs Q E hr hA hsp=>?_
 ·obtain⟨W,us,ω,Hc,_,_,_,hl',_⟩:=h;rw[hl',hl]
 ·obtain⟨W,us,ω,Hc,hK,hm,hw,hl',sub,pl,rbs,aft⟩:=hsp;obtain⟨t,ht,dk⟩:=hbody cdv A outer s H E W hK hm hw hr hA;refine⟨t,ht,dk H Hc _ ω _ Hc H _ (Sr.start (N:=N) sub pl rbs hB hM (by rw[hl',hl];exact hN)) (Ext.refl sub) _ ?_⟩;unfold runU at aft;revert aft
  cases g (us.map some++List.replicate (N.length-us.length) none) ω with
  |nx ρ' ω'=>exact fun h σ' Hc' H' e p=>h Hc' H' e p _ .non
  |rt u ω'=>exact fun h v Hc' H' e p r=>h Hc' H' e p v r
  |err c pl ω'=>exact fun h=>h
  |bk _ _=>exact fun h=>h
  |ct _ _=>exact fun h=>h
  |stk=>exact fun h=>h
end
abbrev FC (ι:Type):=ι->Cx
structure Ctx {ι:Type}(X:L2.FC ι)(W:Wd)(E:XK):Prop where
 hK:∀ x,(X x).K=W.K
 hm:∀ x,(X x).mg=W.mg
 calm:∀ x,(X x).calm=true
 hu:∀ x,(X x).A.units+64<cLine
 ps:∀ x,Z8r (CX1 (X x).prog (X x).w) (X x) E
section
variable {ι:Type}(X:L2.FC ι)(W:Wd)(m:Md)(E:XK)
def QE (e:Expr)(f:Ef):Prop:=∃ t,(∀ x,PE (X x) e t)/\DE W m E t f
def QB (e:Expr)(f:Ef):Prop:=∃ t,(∀ x,PE (X x) e t)/\DB W m E t f
def QF (e:Expr)(f:Ef):Prop:=∃ t,(∀ x,PE (X x) e t)/\DF W m E t f
def QT (e:Expr)(f:Tf):Prop:=∃ t,(∀ x,PT (X x) e t)/\DT W m E t f
def QW (e:Expr)(f:Tf):Prop:=∃ t,(∀ x,PW (X x) e t)/\DT W m E t f
def QTs (es:List Expr)(f:Tf):Prop:=∃ t,(∀ x,PTs (X x) es t)/\DT W m E t f
def QA (bs:List Bool)(es:List Expr)(f:Af):Prop:=∃ t,(∀ x,PA (X x) es t)/\DA W m E bs t f
def QP (e:Option Expr)(f:Pf):Prop:=∃ t,(∀ x,PO (X x) e t)/\DP W m E t f
def QI (c:Bool)(tg e:Expr)(f:Af):Prop:=∃ t,(∀ x,PI (X x) tg e t)/\DI W m E c t f
def QG (e:Expr)(a:U->En->Option En):Prop:=∃ t,(∀ x,PG (X x) e t)/\DG W m t a
def QGs (es:List Expr)(a:List U->En->Option En):Prop:=∃ t,(∀ x,PGs (X x) es t)/\DGs W m t a
def QS (s:Stmt)(g:Sf):Prop:=∃ t,(∀ x,PS (X x) s t)/\DS W m E t g
def QSs (s:List Stmt)(g:Sf):Prop:=∃ t,(∀ x,PSs (X x) s t)/\DS W m E t g
def QK (s:List Stmt)(g:Sf):Prop:=∃ t,(∀ x,PSs (X x) s t)/\DK W m E t g
end
section
variable {ι:Type}{X:L2.FC ι}{W:Wd}{m:Md}{E:XK}{a b c e:Expr}{fa fb f:Ef}{ft ft':Tf}{fr:Af}{bs:List Bool}{es:List Expr}{pos p p2:Pos}{i:Nat}{x:Str}
theorem QE.tb (h:QE X W m E e f):QB X W m E e f:=let ⟨t,p,d⟩:=h;⟨t,p,d.b⟩
theorem QF.te (h:QF X W m E e f):QE X W m E e f:=let ⟨t,p,d⟩:=h;⟨t,p,d.e⟩
theorem QF.tb (h:QF X W m E e f):QB X W m E e f:=h.te.tb
theorem Z0p (i:Nat)(h1:i∉m.B:=by decide)(h2:i∉m.M:=by decide)(hN:∀ y,(X y).N[i]?=some x:=by intro ψ;rfl)(hv:∀ y,Vis (X y).env.scope x:=by intro ψ;first|exact Or.inl rfl|exact Or.inr (Or.inl rfl)|exact Or.inr (Or.inr rfl))(hd:(x==("__debug__" : Str))=false:=by decide)
  (hcd:(x==("__classdict__" : Str))=false:=by decide):QE X W m E (.Name x pos) (eVar i):=⟨_,fun y=>Z1w (hN y) (hv y) hd hcd,Zhl h1 h2⟩
theorem Z00 (i:Nat)(hN:∀ y,(X y).N[i]?=some x:=by intro ψ;rfl)(hv:∀ y,Vis (X y).env.scope x:=by intro ψ;first|exact Or.inl rfl|exact Or.inr (Or.inl rfl)|exact Or.inr (Or.inr rfl))(hd:(x==("__debug__" : Str))=false:=by decide)
  (hcd:(x==("__classdict__" : Str))=false:=by decide):QB X W m E (.Name x pos) (eVar i):=⟨_,fun y=>Z1w (hN y) (hv y) hd hcd,Zo0⟩
theorem Z03 {k:Int} {j}:QE X W m E (.Constant (.int k) j pos) (eC (.int k)):=⟨_,fun ψ=>Z4x,de_c fun ψ=>.int⟩
theorem Z5o {k:Bool} {j}:QE X W m E (.Constant (.bool k) j pos) (eC (.bl k)):=⟨_,fun ψ=>Zry,de_c fun ψ=>.bl⟩
theorem Zcl {j}:QE X W m E (.Constant .none j pos) (eC .non):=⟨_,fun ψ=>Zmn,de_c fun ψ=>.non⟩
theorem Z46 {k:Str} {j}:QE X W m E (.Constant (.str k) j pos) (eC (.str k)):=⟨_,fun ψ=>Zmo,de_c fun ψ=>.str⟩
theorem Z47 {op:Operator}{r:R2}{g:U->U->Option U}(o:∀ y,OpR (X y) (binaryOp op) r)(u:OpU W r g)(ha:QB X W m E a fa)(hb:QB X W m E b fb):QE X W m E (.BinOp a op b pos) (eOp g fa fb):=
 let ⟨_, pa, da⟩ := ha; let ⟨_, pb, db⟩ := hb; ⟨_, fun y => Zs2 (o y) (pa y) (pb y), Zfi u da db⟩
theorem Z1a (cx:Ctx X W E)(ha:QB X W m E a fa)(hb:QB X W m E b fb):QE X W m E (.BinOp a .Add b pos) (eOp uAdd fa fb):=Z47 (fun y=>Zk4 (cx.hK y)) Zoa ha hb
theorem Z1x (ha:QB X W m E a fa)(hb:QB X W m E b fb):QE X W m E (.BinOp a .Sub b pos) (eOp uSub fa fb):=Z47 (fun ψ=>Zn6) Zo2 ha hb
theorem Z55 (ha:QB X W m E a fa)(hb:QB X W m E b fb):QE X W m E (.BinOp a .Mult b pos) (eOp uMul fa fb):=Z47 (fun ψ=>Zjy) Zo7 ha hb
theorem Zp4 (ha:QB X W m E a fa)(hb:QB X W m E b fb):QE X W m E (.BinOp a .Mult b pos) (eOp uRep fa fb):=Z47 (fun ψ=>Zk5) Zod ha hb
theorem Z3r (ha:QB X W m E a fa)(hb:QB X W m E b fb):QE X W m E (.BinOp a .FloorDiv b pos) (eOp uDiv fa fb):=Z47 (fun ψ=>Zfe) Zo4 ha hb
theorem Z2h (ha:QB X W m E a fa)(hb:QB X W m E b fb):QE X W m E (.BinOp a .Mod b pos) (eOp uMod fa fb):=Z47 (fun ψ=>Zn7) Zo5 ha hb
theorem Zp5 (ha:QB X W m E a fa)(hb:QB X W m E b fb):QE X W m E (.BinOp a .Pow b pos) (eOp uPow fa fb):=Z47 (fun ψ=>Zn8) Zo6 ha hb
theorem Z48 (ha:QB X W m E a fa):QE X W m E (.UnaryOp .USub a pos) (eUn uNeg fa):=let ⟨_,pa,da⟩:=ha;⟨_,fun y=>Zs3 Zn9 (pa y),Zo1 da⟩
theorem Z8z {op:CmpOp}{r:R2}{g:U->U->Option U}(o:∀ y,OpR (X y) (compareOp op) r)(u:OpU W r g)(hm:behindInMarks op b=false)(ha:QB X W m E a fa)(hb:QB X W m E b fb):QE X W m E (.Compare a [op] [b] pos) (eOp g fa fb):=
 let ⟨_, pa, da⟩ := ha; let ⟨_, pb, db⟩ := hb; ⟨_, fun y => Zjf (o y) (pa y) (pb y) hm, Zfi u da db⟩
theorem Z30 {op:CmpOp}{r:R2}{g:U->U->Option U}(o:∀ y,OpR (X y) (compareOp op) r)(u:OpU W r g)(hm:behindInMarks op b=false)(ha:QB X W m E a fa)(hb:QB X W m E b fb):QT X W m E (.Compare a [op] [b] pos) (tfB (eOp g fa fb)):=
 let ⟨_, pa, da⟩ := ha; let ⟨_, pb, db⟩ := hb; ⟨_, fun y => Zjg (o y) (pa y) (pb y) hm, dt_t (Zfi u da db).b⟩
theorem Zkm (ha:QB X W m E a fa)(hb:QB X W m E b fb):QE X W m E (.Compare a [.Gt] [b] pos) (eOp uGt fa fb):=Z8z (fun ψ=>Zna) Zo3 (Z24 _) ha hb
theorem Zp6 (cx:Ctx X W E)(ha:QB X W m E a fa)(hb:QB X W m E b fb):QE X W m E (.Compare a [.Eq] [b] pos) (eOp uEq fa fb):=Z8z (fun y=>Zhn (cx.hK y) (cx.hu y)) Zof (Z24 _) ha hb
theorem Zp7 (cx:Ctx X W E)(ha:QB X W m E a fa)(hb:QB X W m E b fb):QE X W m E (.Compare a [.NotEq] [b] pos) (eOp uNe fa fb):=Z8z (fun y=>Zch (cx.hK y) (cx.hu y)) Zk8 (Z24 _) ha hb
theorem Zcm (ha:QB X W m E a fa)(hb:QB X W m E b fb):QT X W m E (.Compare a [.Lt] [b] pos) (tfB (eOp uLt fa fb)):=Z30 (fun ψ=>Zs6) Zsf (Z24 _) ha hb
theorem Zp8 (ha:QB X W m E a fa)(hb:QB X W m E b fb):QT X W m E (.Compare a [.LtE] [b] pos) (tfB (eOp uLe fa fb)):=Z30 (fun ψ=>Zs7) Zsg (Z24 _) ha hb
theorem Zac (ha:QB X W m E a fa)(hb:QB X W m E b fb):QT X W m E (.Compare a [.Gt] [b] pos) (tfB (eOp uGt fa fb)):=Z30 (fun ψ=>Zna) Zo3 (Z24 _) ha hb
theorem Zsv (ha:QB X W m E a fa)(hb:QB X W m E b fb):QT X W m E (.Compare a [.GtE] [b] pos) (tfB (eOp uGe fa fb)):=Z30 (fun ψ=>Zs8) Zsh (Z24 _) ha hb
theorem Z4t (cx:Ctx X W E)(ha:QB X W m E a fa)(hb:QB X W m E b fb):QT X W m E (.Compare a [.Eq] [b] pos) (tfB (eOp uEq fa fb)):=Z30 (fun y=>Zhn (cx.hK y) (cx.hu y)) Zof (Z24 _) ha hb
theorem Zfr (cx:Ctx X W E)(ha:QB X W m E a fa)(hb:QB X W m E b fb):QT X W m E (.Compare a [.NotEq] [b] pos) (tfB (eOp uNe fa fb)):=Z30 (fun y=>Zch (cx.hK y) (cx.hu y)) Zk8 (Z24 _) ha hb
theorem Zfs (ha:QB X W m E a fa)(hb:QB X W m E b fb):QT X W m E (.Compare a [.IsNot] [b] pos) (tfB (eOp (uIs true) fa fb)):=Z30 (fun ψ=>Zje) Zfm (Z24 _) ha hb
theorem Zcn (ha:QB X W m E a fa)(he:∀ y whole,isTrue a (X y).env whole=(do let v <- whole;standAt a.pos;holding [v] (truthy v)):=by intro ψ ψ;rfl):QT X W m E a (tfB fa):=let ⟨_,pa,da⟩:=ha;⟨_,fun y=>Zmq (pa y) (he y),dt_b da⟩
theorem Zht (ha:QT X W m E a ft):QT X W m E (.UnaryOp .Not a pos) (Z6p ft):=let ⟨_,pa,da⟩:=ha;⟨_,fun y=>Zmt (pa y),Zoh da⟩
theorem QW.t (ha:QW X W m E a ft):QT X W m E a ft:=let ⟨_,pa,da⟩:=ha;⟨_,fun y=>(pa y).pt,da⟩
theorem Z3e (ha:QT X W m E a ft):QW X W m E (.BoolOp .And [a] pos) ft:=let ⟨_,pa,da⟩:=ha;⟨_,fun y=>Zj9 (pa y),da⟩
theorem Zp9 (ha:QT X W m E a ft):QW X W m E (.BoolOp .Or [a] pos) ft:=let ⟨_,pa,da⟩:=ha;⟨_,fun y=>Zmr (pa y),da⟩
theorem Z49 (ha:QT X W m E a ft)(hb:QW X W m E (.BoolOp .And (b::es) pos) ft'):QW X W m E (.BoolOp .And (a::b::es) pos) (Z2s ft ft'):=let ⟨_,pa,da⟩:=ha;let ⟨_,pb,db⟩:=hb;⟨_,fun y=>Zms (pa y) (pb y),Zog da db⟩
theorem Zsw (ha:QT X W m E a ft)(hb:QW X W m E (.BoolOp .Or (b::es) pos) ft'):QW X W m E (.BoolOp .Or (a::b::es) pos) (tfOr ft ft'):=let ⟨_,pa,da⟩:=ha;let ⟨_,pb,db⟩:=hb;⟨_,fun y=>Zrz (pa y) (pb y),Zso da db⟩
theorem Zco {op}(ha:QE X W m E a fa):QE X W m E (.BoolOp op [a] pos) fa:=let ⟨_,pa,da⟩:=ha;⟨_,fun y=>Zmv (pa y),da⟩
theorem Zpa (ha:QB X W m E a fa)(hb:QE X W m E (.BoolOp .And (b::es) pos) fb):QE X W m E (.BoolOp .And (a::b::es) pos) (eAnd fa fb):=let ⟨_,pa,da⟩:=ha;let ⟨_,pb,db⟩:=hb;⟨_,fun y=>Zmw (pa y) (pb y),Zoi da db⟩
theorem Zpb (ha:QB X W m E a fa)(hb:QE X W m E (.BoolOp .Or (b::es) pos) fb):QE X W m E (.BoolOp .Or (a::b::es) pos) (eOr fa fb):=let ⟨_,pa,da⟩:=ha;let ⟨_,pb,db⟩:=hb;⟨_,fun y=>Zs0 (pa y) (pb y),Zsp da db⟩
theorem Zsx (hc:QT X W m E c ft)(ha:QE X W m E a fa)(hb:QE X W m E b fb):QE X W m E (.IfExp c a b pos) (eIf ft fa fb):=let ⟨_,pc,dc⟩:=hc;let ⟨_,pa,da⟩:=ha;let ⟨_,pb,db⟩:=hb;⟨_,fun y=>Zf3 (pc y) (pa y) (pb y),Zsq dc da db⟩
theorem Z0w (cx:Ctx X W E)(ha:QB X W m E a fa)(hb:QB X W m E b fb)(hs:Z2q b:=by exact fun ψ ψ=>rfl):QE X W m E (.Subscript a b pos) (eOp uIx fa fb):=let ⟨_,pa,da⟩:=ha;let ⟨_,pb,db⟩:=hb;⟨_,fun y=>Za6 (Z3b (cx.hK y)) (pa y) (pb y) hs,Zfi Zsk da db⟩
theorem Zkn:QP X W m E none pNo:=⟨_,fun ψ=>Zji,Zsl⟩
theorem Zko (ha:QB X W m E a fa):QP X W m E (some a) (Zfl fa):=let ⟨_,pa,da⟩:=ha;⟨_,fun y=>Zjj (pa y),Zk6 da⟩
theorem Zsy {lo hi:Option Expr}{fl fh:Pf}(cx:Ctx X W E)(ha:QB X W m E a fa)(hl:QP X W m E lo fl)(hh:QP X W m E hi fh):QE X W m E (.Subscript a (.Slice lo hi none p2) pos) (eSl uSl fa fl fh):=
 let ⟨_, pa, da⟩ := ha; let ⟨_, pl, dl⟩ := hl; let ⟨_, ph, dh⟩ := hh; ⟨_, fun y => Zfa (sl_u (cx.hK y)) (pa y) (pl y) (ph y), Zsm da dl dh⟩
theorem Z04:QA X W m E [] [] aNil:=⟨_,fun ψ=>Z4z,Zoj⟩
theorem qa_b (ha:QB X W m E a fa)(hr:QA X W m E bs es fr)(hs:∀ y,starEach (a::es) (X y).env=(false,eval a (X y).env)::starEach es (X y).env:=by intro ψ;rfl):QA X W m E (true::bs) (a::es) (Z01 fa fr):=let ⟨_,pa,da⟩:=ha;let ⟨_,pr,dr⟩:=hr;⟨_,fun y=>Z2p (pa y) (pr y) (hs y),da_b da dr⟩
theorem qa_e (ha:QE X W m E a fa)(hr:QA X W m E bs es fr)(hs:∀ y,starEach (a::es) (X y).env=(false,eval a (X y).env)::starEach es (X y).env:=by intro ψ;rfl):QA X W m E (false::bs) (a::es) (Z01 fa fr):=let ⟨_,pa,da⟩:=ha;let ⟨_,pr,dr⟩:=hr;⟨_,fun y=>Z2p (pa y) (pr y) (hs y),da_e da dr⟩
theorem Z2i {x1}(ha:QA X W m E bs es fr)(ho:offs bs=true:=by rfl):QE X W m E (.Tuple es x1 pos) (eTup fr):=let ⟨_,pa,da⟩:=ha;⟨_,fun y=>Znd (pa y),Zok ho da⟩
theorem Z18 (ha:QA X W m E bs es fr)(ho:offs bs=true:=by rfl):QF X W m E (.List es pos) (eLst fr):=let ⟨_,pa,da⟩:=ha;⟨_,fun y=>Zne (pa y),Zol ho da⟩
theorem Zad {id:String}{r:List V->Hp->VK->Prop}{g:List U->Option U}(o:∀ y,Z10 (X y) (.builtin id) r)(u:Z45 W bs r g)(hm:∀ y,(X y).mg x=none)(hv:bootBuiltins x=some (.builtin id))(ha:QA X W m E bs (a::es) fr)(hg:∀ y,Gl (X y) x:=by intro ψ;rfl)(hn:x ≠ "__name__" := by decide)(hd:(x==("__debug__" : Str))=false:=by decide)
  (hs:∀ y,starEach (a::es) (X y).env=(false,eval a (X y).env)::starEach es (X y).env:=by intro ψ;rfl)(hp:∀ y,(backTo pos (starEach es (X y).env)).any (·.1)=false:=by intro ψ;rfl):QE X W m E (.Call (.Name x p) (a::es) [] pos) (eB g fr):=
 let ⟨_, pa, da⟩ := ha; ⟨_, fun y => Z3y (o y) (hg y) (hm y) hv (pa y) hn hd (hs y) (hp y), Zom u da⟩
theorem Zpc {T:String}{r:List V->Hp->VK->Prop}{g:List U->Option U}(o:∀ y,Z10 (X y) (.type T) r)(u:Z45 W bs r g)(hm:∀ y,(X y).mg x=none)(hv:bootBuiltins x=some (.type T))(ha:QA X W m E bs (a::es) fr)(hg:∀ y,Gl (X y) x:=by intro ψ;rfl)(hn:x ≠ "__name__" := by decide)(hd:(x==("__debug__" : Str))=false:=by decide)
  (hs:∀ y,starEach (a::es) (X y).env=(false,eval a (X y).env)::starEach es (X y).env:=by intro ψ;rfl)(hp:∀ y,(backTo pos (starEach es (X y).env)).any (·.1)=false:=by intro ψ;rfl):QE X W m E (.Call (.Name x p) (a::es) [] pos) (eB g fr):=
 let ⟨_, pa, da⟩ := ha; ⟨_, fun y => Z26 (o y) (hg y) (hm y) hv (pa y) hn hd (hs y) (hp y), Zom u da⟩
theorem Zpd {T:String}{r:List V->Hp->VK->Prop}{g:List U->Option U}(o:∀ y,Z10 (X y) (.type T) r)(u:Za9 W bs r g)(hm:∀ y,(X y).mg x=none)(hv:bootBuiltins x=some (.type T))(ha:QA X W m E bs (a::es) fr)(hg:∀ y,Gl (X y) x:=by intro ψ;rfl)(hn:x ≠ "__name__" := by decide)(hd:(x==("__debug__" : Str))=false:=by decide)
  (hs:∀ y,starEach (a::es) (X y).env=(false,eval a (X y).env)::starEach es (X y).env:=by intro ψ;rfl)(hp:∀ y,(backTo pos (starEach es (X y).env)).any (·.1)=false:=by intro ψ;rfl):QF X W m E (.Call (.Name x p) (a::es) [] pos) (eB g fr):=
 let ⟨_, pa, da⟩ := ha; ⟨_, fun y => Z26 (o y) (hg y) (hm y) hv (pa y) hn hd (hs y) (hp y), Zkb u da⟩
structure Bl (mg:L2.SV):Prop where
 len:mg "len" = none
 range:mg "range" = none
 sum:mg "sum" = none
 tuple:mg "tuple" = none
 list:mg "list" = none
 max:mg "max" = none
 min:mg "min" = none
 isinstance:mg "isinstance" = none
 int:mg "int" = none
 bool:mg "bool" = none
 abs:mg "abs" = none
 zip:mg "zip" = none
 enumerate:mg "enumerate" = none
 any:mg "any" = none
 all:mg "all" = none
 sorted:mg "sorted" = none
 set:mg "set" = none
 dict:mg "dict" = none
 reversed:mg "reversed" = none
 ValueError:mg "ValueError" = none
variable {B:Bl W.mg}
theorem Z28 (cx:Ctx X W E)(B:Bl W.mg)(ha:QB X W m E a fa)(hg:∀ y,Gl (X y) "len" := by intro ψ;rfl)(hs:∀ y,starEach [a] (X y).env=(false,eval a (X y).env)::starEach [] (X y).env:=by intro ψ;rfl)(hp:∀ y,(backTo pos (starEach [] (X y).env)).any (·.1)=false:=by intro ψ;rfl):QE X W m E (.Call (.Name "len" p) [a] [] pos) (eB uLen (Z01 fa aNil)):=
 Zad (fun y=>Z6n (cx.hK y)) Zon (fun y=>(congrFun (cx.hm y) _).trans B.len) boot_len (qa_b ha Z04 hs) hg (by decide) (by decide) hs hp
theorem Z31 (cx:Ctx X W E)(B:Bl W.mg)(ha:QB X W m E a fa)(hg:∀ y,Gl (X y) "tuple" := by intro ψ;rfl)(hs:∀ y,starEach [a] (X y).env=(false,eval a (X y).env)::starEach [] (X y).env:=by intro ψ;rfl)(hp:∀ y,(backTo pos (starEach [] (X y).env)).any (·.1)=false:=by intro ψ;rfl):QE X W m E (.Call (.Name "tuple" p) [a] [] pos) (eB Z2g (Z01 fa aNil)):=
 Zpc (fun y=>Zcg (cx.hK y)) Zfn (fun y=>(congrFun (cx.hm y) _).trans B.tuple) boot_tuple (qa_b ha Z04 hs) hg (by decide) (by decide) hs hp
theorem Zkp (cx:Ctx X W E)(B:Bl W.mg)(ha:QB X W m E a fa)(hg:∀ y,Gl (X y) "list" := by intro ψ;rfl)(hs:∀ y,starEach [a] (X y).env=(false,eval a (X y).env)::starEach [] (X y).env:=by intro ψ;rfl)(hp:∀ y,(backTo pos (starEach [] (X y).env)).any (·.1)=false:=by intro ψ;rfl):QF X W m E (.Call (.Name "list" p) [a] [] pos) (eB Z7y (Z01 fa aNil)):=
 Zpd (fun y=>Zcf (cx.hK y)) Zkc (fun y=>(congrFun (cx.hm y) _).trans B.list) boot_list (qa_b ha Z04 hs) hg (by decide) (by decide) hs hp
theorem Zcp {Y:Cx}{K:L2.Fg}(h:Y.K=K)(hc:Y.calm=true):Z10 Y (.builtin "any") (rAny K):=h▸Zce hc
theorem Zpe (cx:Ctx X W E)(B:Bl W.mg)(ha:QB X W m E a fa)(hg:∀ y,Gl (X y) "any" := by intro ψ;rfl)(hs:∀ y,starEach [a] (X y).env=(false,eval a (X y).env)::starEach [] (X y).env:=by intro ψ;rfl)(hp:∀ y,(backTo pos (starEach [] (X y).env)).any (·.1)=false:=by intro ψ;rfl):QE X W m E (.Call (.Name "any" p) [a] [] pos) (eB uAny (Z01 fa aNil)):=
 Zad (fun y=>Zcp (cx.hK y) (cx.calm y)) Zoq (fun y=>(congrFun (cx.hm y) _).trans B.any) boot_any (qa_b ha Z04 hs) hg (by decide) (by decide) hs hp
theorem Z2j (cx:Ctx X W E)(B:Bl W.mg)(ha:QB X W m E a fa)(hg:∀ y,Gl (X y) "abs" := by intro ψ;rfl)(hs:∀ y,starEach [a] (X y).env=(false,eval a (X y).env)::starEach [] (X y).env:=by intro ψ;rfl)(hp:∀ y,(backTo pos (starEach [] (X y).env)).any (·.1)=false:=by intro ψ;rfl):QE X W m E (.Call (.Name "abs" p) [a] [] pos) (eB uAbs (Z01 fa aNil)):=
 Zad (fun ψ=>Zci) Zoo (fun y=>(congrFun (cx.hm y) _).trans B.abs) boot_abs (qa_b ha Z04 hs) hg (by decide) (by decide) hs hp
theorem Zft (cx:Ctx X W E)(B:Bl W.mg)(ha:QB X W m E a fa)(hg:∀ y,Gl (X y) "int" := by intro ψ;rfl)(hs:∀ y,starEach [a] (X y).env=(false,eval a (X y).env)::starEach [] (X y).env:=by intro ψ;rfl)(hp:∀ y,(backTo pos (starEach [] (X y).env)).any (·.1)=false:=by intro ψ;rfl):QE X W m E (.Call (.Name "int" p) [a] [] pos) (eB uInt (Z01 fa aNil)):=
 Zpc (fun ψ=>Zcb) Zop (fun y=>(congrFun (cx.hm y) _).trans B.int) boot_int (qa_b ha Z04 hs) hg (by decide) (by decide) hs hp
theorem Zcq (cx:Ctx X W E)(B:Bl W.mg)(ha:QA X W m E [true,true] [a,b] fr)(hg:∀ y,Gl (X y) "max" := by intro ψ;rfl)(hs:∀ y,starEach [a,b] (X y).env=(false,eval a (X y).env)::starEach [b] (X y).env:=by intro ψ;rfl)(hp:∀ y,(backTo pos (starEach [b] (X y).env)).any (·.1)=false:=by intro ψ;rfl):QE X W m E (.Call (.Name "max" p) [a,b] [] pos) (eB Zaa fr):=
 Zad (fun y=>Zca (cx.calm y)) Zkd (fun y=>(congrFun (cx.hm y) _).trans B.max) boot_max ha hg (by decide) (by decide) hs hp
theorem Z08 {k:Nat}{f':Addr}{fd:FuncData}{ps:List Str}{wk:Wd->Prop}{F:Ff}(cx:Ctx X W E)(C:∀ y,Fn (X y).prog (X y).w (X y).K (X y).mg (X y).base (CX1 (X y).prog (X y).w) k x f' fd ps (spU W.K W.mg wk bs.length bs F))(hr:∀ y,Room k (X y).A)(hw:wk W)(ha:QA X W m E bs (a::es) fr)(hg:∀ y,Gl (X y) x:=by intro ψ;rfl)
  (hd:(x==("__debug__" : Str))=false:=by decide)(hs:∀ y,starEach (a::es) (X y).env=(false,eval a (X y).env)::starEach es (X y).env:=by intro ψ;rfl)(hp:∀ y,(backTo pos (starEach es (X y).env)).any (·.1)=false:=by intro ψ;rfl):QE X W m E (.Call (.Name x p) (a::es) [] pos) (Z0b F fr):=
 let ⟨_, pa, da⟩ := ha; ⟨_, fun y => Zjh (C y).F (hr y) (hg y) (C y).hm (C y).kp (C y).hb .nil (cx.ps y) (pa y) hd (hs y) (hp y), Zke rfl rfl hw da⟩
theorem qi_e {c:Bool}{tg:Expr}(cx:Ctx X W E)(ha:QE X W m E a fa):QI X W m E c tg a (iOf fa):=let ⟨_,pa,da⟩:=ha;⟨_,fun y=>Zhr (cx.hK y) (pa y),di_e da⟩
theorem qi_v {c:Bool}{tg:Expr} (i:Nat)(cx:Ctx X W E)(h2:i∉m.M:=by decide)(hN:∀ y,(X y).N[i]?=some x:=by intro ψ;rfl)(hv:∀ y,Vis (X y).env.scope x:=by intro ψ;first|exact Or.inl rfl|exact Or.inr (Or.inl rfl)|exact Or.inr (Or.inr rfl))(hd:(x==("__debug__" : Str))=false:=by decide)
  (hcd:(x==("__classdict__" : Str))=false:=by decide):QI X W m E c tg (.Name x pos) (iOf (eVar i)):=⟨_,fun y=>Zhr (cx.hK y) (Z1w (hN y) (hv y) hd hcd),di_v h2⟩
theorem Zkq {c:Bool}{tg:Expr}(cx:Ctx X W E)(B:Bl W.mg)(ha:QA X W m E [true] [a] fr)(hg:∀ y,Gl (X y) "range" := by intro ψ;rfl)(hs:∀ y,starEach [a] (X y).env=[(false,eval a (X y).env)]:=by intro ψ;rfl):QI X W m E c tg (.Call (.Name "range" p) [a] [] pos) (Z1z uR1 fr):=
 let ⟨_, pa, da⟩ := ha; ⟨_, fun y => Zbk (hg y) ((congrFun (cx.hm y) _).trans B.range) (pa y) (hs y), Zss da⟩
theorem Zkr {c:Bool}{tg:Expr}(cx:Ctx X W E)(B:Bl W.mg)(ha:QA X W m E [true,true] [a,b] fr)(hg:∀ y,Gl (X y) "range" := by intro ψ;rfl)(hs:∀ y,starEach [a,b] (X y).env=[(false,eval a (X y).env),(false,eval b (X y).env)]:=by intro ψ;rfl)(hs2:∀ y,starEach [b] (X y).env=[(false,eval b (X y).env)]:=by intro ψ;rfl) :
  QI X W m E c tg (.Call (.Name "range" p) [a,b] [] pos) (Z1z uR2 fr):=let ⟨_,pa,da⟩:=ha;⟨_,fun y=>Zbl (hg y) ((congrFun (cx.hm y) _).trans B.range) (pa y) (hs y) (hs2 y),Zst da⟩
theorem Z0i (i:Nat)(hN:∀ y,(X y).N.Nodup)(h1:i∉m.B:=by decide)(h2:i∉m.M:=by decide)(hi:∀ y,(X y).N[i]?=some x:=by intro ψ;rfl)(hx:∀ y,Loc (X y).env.scope x:=by intro ψ;first|exact Or.inl rfl|exact Or.inr rfl)(hf:∀ y,(X y).fn x=true\/(X y).env.scope.names.lookup x=some .local:=by intro ψ;first|exact .inl rfl|exact .inr rfl) :
  QG X W m (.Name x pos) (Z0c i):=⟨_,fun y=>Zjb (hN y) (hi y) (hx y) (hf y),Zkg h1 h2⟩
theorem Zcr:QGs X W m [] Z6s:=⟨_,fun ψ=>Zjc,Zkh⟩
theorem Z3z {u:U->En->Option En}{v:List U->En->Option En}(h1:QG X W m a u)(h2:QGs X W m es v)(hs:∀ y,(assignEach (a::es) (X y).env).map (·.2)=assign a (X y).env::(assignEach es (X y).env).map (·.2):=by intro ψ;rfl):QGs X W m (a::es) (Z25 u v):=
 let ⟨_, p1, d1⟩ := h1; let ⟨_, p2, d2⟩ := h2; ⟨_, fun y => Zf5 (p1 y) (p2 y) (hs y), Zfo d1 d2⟩
theorem Zpf {n k:Nat}{v:List U->En->Option En}(cx:Ctx X W E)(h2:QGs X W m es v)(hn:∀ y,(assignEach es (X y).env).length=n:=by intro ψ;rfl)(hst:∀ y,(assignEach es (X y).env).findIdx? (·.1)=none:=by intro ψ;rfl):QG X W m (.Tuple es k pos) (aTup n v):=
 let ⟨_, p2, d2⟩ := h2; ⟨_, fun y => Zk2 (cx.hK y) (cx.calm y) (p2 y) (hn y) (hst y), Zox d2⟩
variable {s:Stmt}{ss sb:List Stmt}{g g1 g2:Sf}
theorem Z0m:QSs X W m E [] Z0q:=⟨_,fun ψ=>Zja,Zkf⟩
theorem Z09 (h:QS X W m E s g):QSs X W m E [s] g:=let ⟨_,p,d⟩:=h;⟨_,fun y=>Zbf (p y),d⟩
theorem Z0a (h1:QS X W m E s g1)(h2:QSs X W m E ss g2):QSs X W m E (s::ss) (sSeq g1 g2):=let ⟨_,p,d⟩:=h1;let ⟨_,p2,d2⟩:=h2;⟨_,fun y=>Z5g (p y) (p2 y),Zor d d2⟩
theorem Z0x (h:QS X W m E s g):QK X W m E [s] g:=let ⟨_,p,d⟩:=h;⟨_,fun y=>Zbf (p y),Zp2 d⟩
theorem Z07 (h1:QS X W m E s g1)(h2:QK X W m E ss g2):QK X W m E (s::ss) (sSeq g1 g2):=let ⟨_,p,d⟩:=h1;let ⟨_,p2,d2⟩:=h2;⟨_,fun y=>Z5g (p y) (p2 y),Zp3 d d2⟩
theorem Z0l (ha:QE X W ⟨m.B,[]⟩ E a fa)(hB:∀ i∈m.M,i∉m.B:=by decide):QS X W m E (.Return (some a) pos) (sRet fa):=let ⟨_,pa,da⟩:=ha;⟨_,fun y=>Zmy (pa y),Zot hB da⟩
theorem Z1j (hc:QT X W m E c ft)(h1:QSs X W m E ss g1)(h2:QSs X W m E sb g2):QS X W m E (.If c ss sb pos) (sIf ft g1 g2):=let ⟨_,pc,dc⟩:=hc;let ⟨_,p1,d1⟩:=h1;let ⟨_,p2,d2⟩:=h2;⟨_,fun y=>Zs1 (pc y) (p1 y) (p2 y),Zsr dc d1 d2⟩
theorem Z0g (i:Nat)(hN:∀ y,(X y).N.Nodup)(ha:QE X W m E a fa)(hs:∀ y,swapsWith a (some (.Name x p)) pos.line (X y).env=pure false:=by intro ψ;rfl)(h1:i∉m.B:=by decide)(h2:i∉m.M:=by decide)(hi:∀ y,(X y).N[i]?=some x:=by intro ψ;rfl)(hx:∀ y,Loc (X y).env.scope x:=by intro ψ;first|exact Or.inl rfl|exact Or.inr rfl)
  (hf:∀ y,(X y).fn x=true\/(X y).env.scope.names.lookup x=some .local:=by intro ψ;first|exact .inl rfl|exact .inr rfl):QS X W m E (.Assign [.Name x p] a pos) (sSet i fa):=let ⟨_,pa,da⟩:=ha;⟨_,fun y=>Zbi (hN y) (hi y) (hx y) (pa y) (hs y) (hf y),Zhp h1 h2 da⟩
theorem Z3s (i:Nat)(hN:∀ y,(X y).N.Nodup)(ha:QF X W m E a fa)(hs:∀ y,swapsWith a (some (.Name x p)) pos.line (X y).env=pure false:=by intro ψ;rfl)(h1:i∉m.B:=by decide)(h2:i∈m.M:=by decide)(hi:∀ y,(X y).N[i]?=some x:=by intro ψ;rfl)(hx:∀ y,Loc (X y).env.scope x:=by intro ψ;first|exact Or.inl rfl|exact Or.inr rfl)
  (hf:∀ y,(X y).fn x=true\/(X y).env.scope.names.lookup x=some .local:=by intro ψ;first|exact .inl rfl|exact .inr rfl):QS X W m E (.Assign [.Name x p] a pos) (sSet i fa):=let ⟨_,pa,da⟩:=ha;⟨_,fun y=>Zbi (hN y) (hi y) (hx y) (pa y) (hs y) (hf y),Zhq h1 h2 da⟩
theorem Zpg {tg:Expr}{u:U->En->Option En}(ha:QE X W m E a fa)(hg:QG X W m tg u)(hs:∀ y,swapsWithSole [tg] a pos.line (X y).env=pure false:=by intro ψ;rfl)(hw:∀ y,swappedStores [tg] a (X y).env=pure none:=by intro ψ;rfl)(h1:∀ y,(assignEach [tg] (X y).env).map (·.2)=[assign tg (X y).env]:=by intro ψ;rfl) :
  QS X W m E (.Assign [tg] a pos) (sAsg u fa):=let ⟨_,pa,da⟩:=ha;let ⟨_,pg,dg⟩:=hg;⟨_,fun y=>Z8o (pa y) (pg y) (hs y) (hw y) (h1 y),Zoy dg da⟩
theorem Zph {tp:Pos} (i:Nat)(ha:QE X W m E a fa)(hb:QB X W m E b fb)(h2:i∈m.M:=by decide)(hN:∀ y,(X y).N[i]?=some x:=by intro ψ;rfl)(hv:∀ y,Vis (X y).env.scope x:=by intro ψ;first|exact Or.inl rfl|exact Or.inr (Or.inl rfl)|exact Or.inr (Or.inr rfl))(hd:(x==("__debug__" : Str))=false:=by decide)(hcd:(x==("__classdict__" : Str))=false:=by decide)
  (hs:∀ y,swapsWithSole [.Subscript (.Name x p) b tp] a pos.line (X y).env=pure false:=by intro ψ;rfl)(hw:∀ y,swappedStores [.Subscript (.Name x p) b tp] a (X y).env=pure none:=by intro ψ;rfl)(h1:∀ y,(assignEach [.Subscript (.Name x p) b tp] (X y).env).map (·.2)=[assign (.Subscript (.Name x p) b tp) (X y).env]:=by intro ψ;rfl)
  (hq:∀ y v,assign (.Subscript (.Name x p) b tp) (X y).env v=(do
   let ov <- holding [v] (eval (.Name x p) (X y).env)
   let iv <- holding [v, ov] (eval b (X y).env)
   standAt tp
   holding [v,ov,iv] (setItem ov iv v)
   release [v,ov,iv] []):=by intro ψ ψ;rfl):QS X W m E (.Assign [.Subscript (.Name x p) b tp] a pos) (sPut i fb fa) :=
 let ⟨_, pa, da⟩ := ha; let ⟨_, pb, db⟩ := hb; ⟨_, fun y => Z8o (pa y) (Zbh (Z1w (hN y) (hv y) hd hcd) (pb y) Z8t (hq y)) (hs y) (hw y) (h1 y), Zow h2 db da⟩
theorem Zpi {op:Operator}{r:R2}{u:U->U->Option U} (i:Nat)(hN:∀ y,(X y).N.Nodup)(o:∀ y,OpR (X y) (inplaceOp op) r)(ou:OpU W r u)(ha:QB X W m E a fa)(h1:i∉m.B:=by decide)(h2:i∉m.M:=by decide)(hi:∀ y,(X y).N[i]?=some x:=by intro ψ;rfl)(hx:∀ y,Loc (X y).env.scope x:=by intro ψ;first|exact Or.inl rfl|exact Or.inr rfl)
  (hf:∀ y,(X y).fn x=true\/(X y).env.scope.names.lookup x=some .local:=by intro ψ;first|exact .inl rfl|exact .inr rfl):QS X W m E (.AugAssign (.Name x p) op a pos) (sAug i u fa):=let ⟨_,pa,da⟩:=ha;⟨_,fun y=>Zn1 (hN y) (hi y) (hx y) (pa y) (o y) (hf y),Zou h1 h2 ou da⟩
def Zfu:U->U->Option U
 |.int a,.int b=>some (.int (a+b))
 |_,_=>none
theorem Zks:OpU W (rI0 fun i j=>.int (i+j)) Zfu:=.I0 (fun ψ ψ ψ=>.int) fun a b u h=>by
 unfold Zfu at h;split at h<;>cases h;exact⟨_,_,rfl,rfl,rfl⟩
theorem Zpj {Y:Cx}{K:L2.Fg}{s:Stmt}{T:String}{r:V->List V->Hp->VK->Prop}{to:TE}{t:TA}(h:Y.K=K)(q:PS Y s (Z7s (tBM Y.K T r to t))):PS Y s (Z7s (tBM K T r to t)):=h▸q
theorem Z4a {apos cpos:Pos} (i:Nat)(cx:Ctx X W E)(ha:QE X W m E a fa)(h2:i∈m.M:=by decide)(hN:∀ y,(X y).N[i]?=some x:=by intro ψ;rfl)(hv:∀ y,Vis (X y).env.scope x:=by intro ψ;first|exact Or.inl rfl|exact Or.inr (Or.inl rfl)|exact Or.inr (Or.inr rfl))(hd:(x==("__debug__" : Str))=false:=by decide)(hcd:(x==("__classdict__" : Str))=false:=by decide)
  (hline:(apos.endLine==cpos.line)=true:=by rfl)(hst:∀ y,starEach [a] (X y).env=(false,eval a (X y).env)::starEach [] (X y).env:=by intro ψ;rfl)(hp:∀ y,(backTo cpos (starEach [] (X y).env)).any (·.1)=false:=by intro ψ;rfl)
  (hbase:∀ y,attributeBase (.Name x p) "append" (X y).env (eval (.Name x p) (X y).env)=eval (.Name x p) (X y).env:=by intro ψ;rfl)
  (hfew:∀ y,((backTo cpos (starEach [a] (X y).env)).all (fun x =>!x.1)&&(backToKw cpos (keywordEach [] (X y).env)).all (fun x=>x.1.isSome)&&decide (([a]:List Expr).length+([]:List Keyword).length+(if ([]:List Keyword).isEmpty then 0 else 1)<30))=true:=by intro ψ;rfl)
  (hs:∀ y,swapsWith (.Call (.Attribute (.Name x p) "append" apos) [a] [] cpos) none pos.line (X y).env=pure false:=by intro ψ;rfl):QS X W m E (.Expr (.Call (.Attribute (.Name x p) "append" apos) [a] [] cpos) pos) (sApp i fa):=
 let ⟨_, pa, da⟩ := ha; ⟨_, fun y => Zpj (cx.hK y) (Zbg (Zjo PySem.F.plainAttrs_list PySem.F.slot_list_append PySem.F.type_list_append Z6i (Z1w (hN y) (hv y) hd hcd) (Z2p (pa y) Z4z (hst y)) (hbase y) (hfew y) hline (hst y) (hp y)) (hs y)), Zov h2 da⟩
theorem Z1b {tg iter:Expr}{fi:Af}{u:U->En->Option En}(cx:Ctx X W E)(pw:∀ y,PassesOwn (model (X y).prog (X y).w) (X y).A (X y).env (X y).xe)(hi:QI X W m E false tg iter fi)(hg:QG X W m tg u)(hb:QSs X W m E ss g)(hs:∀ y v,foldedSetIterable iter (X y).env v=pure v:=by intro ψ ψ;rfl):QS X W m E (.For tg iter ss [] pos) (sFor fi u g):=
 let ⟨_, pi, di⟩ := hi; let ⟨_, pg, dg⟩ := hg; let ⟨_, pb, db⟩ := hb; ⟨_, fun y => Zn4 (pw y) (cx.calm y) (pi y) (pg y) (pb y) (hs y), Zp1 di dg db⟩
theorem Z5p (pw:∀ y,PassesOwn (model (X y).prog (X y).w) (X y).A (X y).env (X y).xe)(hc:QT X W m E c ft)(hb:QSs X W m E ss g):QS X W m E (.While c ss [] pos) (sWh ft g):=let ⟨_,pc,dc⟩:=hc;let ⟨_,pb,db⟩:=hb;⟨_,fun y=>Zf6 (pw y) (pc y) (pb y),Zfq dc db⟩
theorem Zpk:QS X W m E (.Break pos) sBrk:=⟨_,fun ψ=>Zf4,Zos⟩
end
def okJ (m mb:Md) (k:Nat)(js:List Nat):Bool:=(List.range js.length).all fun p =>!(m.B.contains (js.getD p 0)||m.M.contains (js.getD p 0))||mb.B.contains (k+p)
theorem Zcs {m mb:Md}{k:Nat}{js:List Nat}(h:okJ m mb k js=true):∀ p j,js[p]?=some j->(j∈m.B\/j∈m.M)->k+p∈mb.B:=fun p j hj hm=>by
 have lt:p<js.length:=(List.getElem?_eq_some_iff.mp hj).1;have z:=List.all_eq_true.mp h p (List.mem_range.mpr lt);have e:js.getD p 0=j:=by rw[List.getD_eq_getElem?_getD,hj];rfl
 rw[e]at z;have q:(m.B.contains j||m.M.contains j)=true:=by
  rcases hm with hm|hm
  ·simp[hm]
  ·simp[hm]
 rw[q]at z;simpa using z
abbrev BlkA:=Addr×List (Addr×Obj)×List Addr×Shared×Hp
abbrev blkX (X:Cx)(N:List Str)(scope:Scope)(cl:List (Str×Addr)):BlkA->Cx:=fun b=>Z0u X N scope cl b.1 b.2.1 b.2.2.1 b.2.2.2.1 b.2.2.2.2
section
variable {X:Unit->Cx}{W:Wd}{m mb:Md}{E:XK}{elt tg iter:Expr}{ifs:List Expr}{scope:Scope}{pos:Pos}{cl:List (Str×Addr)}{bs caps:List Str}{js:List Nat}{fi:Af}{u:U->En->Option En}{ft:Tf}{fe:Ef}
theorem Ctx.blk (cx:Ctx X W E):Ctx (blkX (X ()) (bs++caps) scope cl) W E0:=⟨fun ψ=>cx.hK (),fun ψ=>cx.hm (),fun ψ=>cx.calm (),fun ψ=>cx.hu (),fun ψ ψ ψ ψ ψ ψ ψ ψ h=>by obtain⟨_,_,_,_,_,_,_,_,_,_,q⟩:=h;exact q.elim⟩
theorem Z4b {ι:Type}{Y:L2.FC ι}:QTs Y W m E [] Z1m:=⟨_,fun ψ=>Zjs,Zka⟩
theorem Zct {ι:Type}{Y:L2.FC ι}{c:Expr}(h:QT Y W m E c ft):QTs Y W m E [c] ft:=let ⟨_,p,d⟩:=h;⟨_,fun y=>Zjt (p y),d⟩
theorem Z3f (mb:Md)(cx:Ctx X W E)(c:Z43 (X ()) scope cl js caps)(hi:QI X W m E true tg iter fi)(hg:QG (blkX (X ()) (bs++caps) scope cl) W mb tg u)(ht:QTs (blkX (X ()) (bs++caps) scope cl) W mb E0 ifs ft)(he:QE (blkX (X ()) (bs++caps) scope cl) W mb E0 elt fe)
  (hB:okJ m mb bs.length js=true:=by rfl)(hM:mb.M=[]:=by rfl)(hs:∀ x,foldedSetIterable iter (X ()).env x=pure x:=by intro ψ;rfl):QF X W m E (.ListComp elt [⟨tg,iter,ifs,0⟩] scope pos) (Z3d fi bs.length js u ft fe):=
 let ⟨_, pi, di⟩ := hi; let ⟨_, pg, dg⟩ := hg; let ⟨_, pt, dt⟩ := ht; let ⟨_, pe, de⟩ := he
 ⟨_,fun y=>Zjv (cx.calm y) c (pi y) (fun C pins fp s2 H2=>pg (C,pins,fp,s2,H2)) (fun C pins fp s2 H2=>pt (C,pins,fp,s2,H2)) (fun C pins fp s2 H2=>pe (C,pins,fp,s2,H2)) hs,Z80 di dg dt de (Zcs hB) hM⟩
theorem Zkt {y:Str}{py spos:Pos}(own:Bool) (i:Nat)(mb:Md)(cx:Ctx X W E)(hN:(X ()).N.Nodup)(c:Z43 (X ()) scope cl js caps)(hi:QI X W m E true tg iter fi)(hg:QG (blkX (X ()) (bs++caps) scope cl) W mb tg u)(ht:QTs (blkX (X ()) (bs++caps) scope cl) W mb E0 ifs ft)(he:QE (blkX (X ()) (bs++caps) scope cl) W mb E0 elt fe)
  (hB:okJ m mb bs.length js=true:=by rfl)(hM:mb.M=[]:=by rfl)(hs:∀ x,foldedSetIterable iter (X ()).env x=pure x:=by intro ψ;rfl)(hsw:swapsWith (.ListComp elt [⟨tg,iter,ifs,0⟩] scope pos) (some (.Name y py)) spos.line (X ()).env=pure true:=by rfl)
  (hy:(X ()).N[i]?=some y:=by rfl)(hl:(X ()).env.scope.names.lookup y=some .local:=by rfl)(h1:i∉m.B:=by decide)(h2:(own=true->i∈m.M)/\(own=false->i∉m.M):=by decide):QS X W m E (.Assign [.Name y py] (.ListComp elt [⟨tg,iter,ifs,0⟩] scope pos) spos) (sSet i (Z3d fi bs.length js u ft fe)):=
 let ⟨_, pi, di⟩ := hi; let ⟨_, pg, dg⟩ := hg; let ⟨_, pt, dt⟩ := ht; let ⟨_, pe, de⟩ := he
 ⟨_,fun ψ=>Zjw hsw hN hy hl (cx.calm ()) c (pi ()) (fun C pins fp s2 H2=>pg (C,pins,fp,s2,H2)) (fun C pins fp s2 H2=>pt (C,pins,fp,s2,H2)) (fun C pins fp s2 H2=>pe (C,pins,fp,s2,H2)) hs,by
  cases own with
  |true=>exact Zhq h1 (h2.1 rfl) (Z80 di dg dt de (Zcs hB) hM)
  | false=>exact Zhp h1 (h2.2 rfl) (Z80 di dg dt de (Zcs hB) hM).e⟩
end
section
variable {P:Program}{w:World}{K:L2.Fg}{mg:L2.SV}{base:Heap}{N:List Str}{qual:Str}{scope:Scope}{f:Addr}{cd:Value}{A:Around}{outer:List Env}{s:Shared}{H:Hp}{E:XK}{W:Wd}{m:Md}{k:Nat}
abbrev defX (P:Program)(w:World)(K:L2.Fg)(mg:L2.SV)(base:Heap)(N:List Str)(qual:Str)(scope:Scope)(f:Addr)(cd:Value)(A:Around)(outer:List Env)(s:Shared)(H:Hp)(E:XK):Unit->Cx:=fun ψ=>cxOf (CX1 P w) P w K mg base N qual scope f cd A outer s H E
theorem Z0n (hK:W.K=K)(hm:W.mg=mg)(hr:Room k (A.deeper (envOfC qual scope s.heap.objs.size f cd))):Ctx (defX P w K mg base N qual scope f cd A outer s H E) W E:=⟨fun ψ=>hK.symm,fun ψ=>hm.symm,fun ψ=>rfl,fun ψ=>hr.units,fun ψ=>Zjz fun ψ ψ ψ h=>h⟩
theorem Z0y:∀ y,PassesOwn (model (defX P w K mg base N qual scope f cd A outer s H E y).prog (defX P w K mg base N qual scope f cd A outer s H E y).w) (defX P w K mg base N qual scope f cd A outer s H E y).A (defX P w K mg base N qual scope f cd A outer s H E y).env (defX P w K mg base N qual scope f cd A outer s H E y).xe:=fun ψ=>PassesOwn.leaving
def okB (bs:List Bool)(m:Md):Bool:=((List.range bs.length).all fun i =>!(bs.getD i false)||m.B.contains i)&&m.M.all fun i=>decide (bs.length<=i)
theorem Fun.okQ {x qual:Str}{st:Stmt}{f:Addr}{fd:FuncData}{N ps:List Str}{k:Nat}{wk:Wd->Prop}{bs:List Bool}{m:Md}{g:Sf}(F:Fun K x qual st f fd)(S:Z0f N ps (Z02 st))(hl:bs.length=ps.length)(hB:okB bs m=true)(hN:ps.length<=N.length)
  (hbody:∀ (cdv:Value)(A:Around)(outer:List Env)(s:Shared)(H:Hp)(E:XK)(W:Wd),W.K=K->W.mg=mg->wk W->Room k (A.deeper (envOfC qual (Z02 st) s.heap.objs.size f cdv))->A.handled=none ->
   QK (defX P w K mg base N qual (Z02 st) f cdv A outer s H E) W m E (Z0e st) g):FnOk P w K mg base (CX1 P w) (k+1) f fd ps (spU K mg wk bs.length bs (runU N.length g)):=by
 unfold okB at hB;rw[Bool.and_eq_true]at hB;refine F.okU S hl (fun i h=>?_) (fun i h=>by simpa using List.all_eq_true.mp hB.2 i h) hN fun cdv A outer s H E W hK hm hw hr hA=>?_
 ·have lt:i<bs.length:=(List.getElem?_eq_some_iff.mp h).1;have z:=List.all_eq_true.mp hB.1 i (List.mem_range.mpr lt);rw[List.getD_eq_getElem?_getD,h]at z;simpa using z
 ·obtain⟨t,p,d⟩:=hbody cdv A outer s H E W hK hm hw hr hA;exact⟨t,p (),d⟩
theorem QK.out {X:Cx}{ss:List Stmt}{g:Sf}(h:QK (fun _:Unit=>X) W m E ss g):∃ t,PSs X ss t/\DK W m E t g:=let ⟨t,p,d⟩:=h;⟨t,p (),d⟩
end
section
variable {X:Cx}
def SqU (K:L2.Fg)(H:Hp)(p:Addr)(vs:List V):Prop:=SqL K H p vs\/SqT K H p vs
theorem Z90 {pins:L2.AO}{σ:St}{H:Hp}{s:Shared}{p:Addr}{vs:List V}(hc:X.calm=true)(I:Inv X pins σ H s)(h:SqU X.K H p vs) :
  ∃ its:List Value,Vals vs its/\∀ (Q:L2.VSP)(E:L2.VSP),(∀ (g:Heap)(St:Nat->Heap->Prop),Walks X.prog X.w X.A.in1 s.heap.objs.size [s.heap.objs.size,p] [s.heap.objs.size] its.length (fun i v=>its[i]?=some v) St->St 0 g->(∀ b∈[s.heap.objs.size,p],b<g.objs.size) ->
   (∀ h' tk,(∀ b o,b∉[s.heap.objs.size]->g.get? b=some o->h'.get? b=some o)->Inv X pins σ H { s with heap:=h',toks:=tk })->Q (.ref s.heap.objs.size) { s with heap:=g })->wpAny (model X.prog X.w) X.A.in1 (pyIter (.ref p)) Q E s:=by
 have hh:X.A.in1.handled=none:=I.ok.hd hc;rcases h with h|h
 ·obtain⟨its,rv,pl,hz⟩:=I.list h;have lt:p<s.heap.objs.size:=by obtain⟨o,e,_⟩:=pl.isList;exact Heap.lt_size e
  refine⟨its,rv,fun Q E k=>wpAny_pyIter_list pl.isList ?_⟩;have e:(fun(i:Nat)(v:Value)=>its.toArray[i]?=some v)=(fun i v=>its[i]?=some v):=by funext i v;simp
  have Wk:=Walks.list (prog:=X.prog) (w:=X.w) (A:=X.A.in1) hh s.heap.objs.size p (Nat.ne_of_lt lt) its.toArray;rw[e]at Wk;refine k _ _ Wk ⟨⟨_,Heap.get?_push_size _ rfl,rfl,rfl⟩,pl.isList.push _⟩ (fun b hb=>?_) fun h' tk hk=>I.kept (t':=tk) fun b o e=>hk b o (fun hm=>?_) (Heap.get?_push_of_some _ e)
  ·rw[Heap.size_push];rcases List.mem_cons.mp hb with z|z
   ·rw[z];exact Nat.lt_succ_self _
   ·rw[List.mem_singleton.mp z];exact Nat.lt_succ_of_lt lt
  ·rw[List.mem_singleton.mp hm]at e;exact Nat.lt_irrefl _ (Heap.lt_size e)
 ·obtain⟨its,rv,pl,hz⟩:=I.tuple h;have pt:s.heap.IsTuple p its.toArray:=pl;have lt:p<s.heap.objs.size:=by obtain⟨o,e,_⟩:=pl;exact Heap.lt_size e
  refine⟨its,rv,fun Q E k=>wpAny_pyIter_tuple pt ?_⟩;have e:(fun(i:Nat)(v:Value)=>its.toArray[i]?=some v)=(fun i v=>its[i]?=some v):=by funext i v;simp
  have Wk:=Walks.tuple (prog:=X.prog) (w:=X.w) (A:=X.A.in1) hh s.heap.objs.size p (Nat.ne_of_lt lt) its.toArray;rw[e]at Wk;refine k _ _ Wk ⟨⟨_,Heap.get?_push_size _ rfl,rfl,rfl⟩,pt.at fun o e=>Heap.get?_push_of_some _ e⟩ (fun b hb=>?_) fun h' tk hk=>I.kept (t':=tk) fun b o e=>hk b o (fun hm=>?_) (Heap.get?_push_of_some _ e)
  ·rw[Heap.size_push];rcases List.mem_cons.mp hb with z|z
   ·rw[z];exact Nat.lt_succ_self _
   ·rw[List.mem_singleton.mp z];exact Nat.lt_succ_of_lt lt
  ·rw[List.mem_singleton.mp hm]at e;exact Nat.lt_irrefl _ (Heap.lt_size e)
theorem Z20 {ns:List Int}{its:List Value}(r:Vals (ns.map V.int) its){i:Nat}{v:Value}(h:its[i]?=some v):∃ t,v=.int (ns.getD i 0) t:=by
 have l:=r.length;rw[List.length_map]at l;have li:i<its.length:=(List.getElem?_eq_some_iff.mp h).1;have e:(ns.map V.int)[i]?=some (.int (ns.getD i 0)):=by
  have:i<ns.length:=by lia
  simp[List.getD,this]
 obtain⟨u,hu,ru⟩:=r.get e;rw[h]at hu;cases hu;exact ru
def best (f:Int->Int->Bool) (n:Int):List Int->Int
 |[]=>n
 |x::xs=>best f (if f x n=true then x else n) xs
theorem Z6t {f:Int->Int->Bool}:∀{xs:List Int}{n x:Int},best f n (xs++[x])=if f x (best f n xs)=true then x else best f n xs
 |[],n,x=>rfl
 |y::ys,n,x=>by rw[List.cons_append,best,best,Z6t]
theorem Z5q {f:Int->Int->Bool}{n:Int}{ns:List Int}:∀ k,k<(n::ns).length->(n::ns).getD (argBest (fun i j=>f ((n::ns).getD i 0) ((n::ns).getD j 0)) k) 0=best f n (ns.take k)/\argBest (fun i j=>f ((n::ns).getD i 0) ((n::ns).getD j 0)) k<(n::ns).length
 |0,h=>⟨by rw[argBest,List.take_zero,best];rfl,by rw[argBest];simp⟩
 |k+1,h=>by
  obtain⟨e,l⟩:=Z5q (f:=f) (n:=n) (ns:=ns) k (by lia);have hk:k<ns.length:=by simpa using h
  have e2:ns.take (k+1)=ns.take k++[ns[k]]:=by rw[List.take_succ_eq_append_getElem hk]
  have e3:(n::ns).getD (k+1) 0=ns[k]:=by simp[List.getD,hk]
  rw[argBest,e2,Z6t,<-e,e3];by_cases c:f ns[k] ((n::ns).getD (argBest (fun i j=>f ((n::ns).getD i 0) ((n::ns).getD j 0)) k) 0)=true
  ·rw[if_pos c,if_pos c];exact⟨e3,h⟩
  ·rw[if_neg c,if_neg c];exact⟨rfl,l⟩
theorem Z91:∀{xs:List Int}{n:Int},best (fun a b=>decide (a<b)) n xs=xs.foldl min n
 |[],_=>rfl
 |x::xs,n=>by
  rw[best,Z91,List.foldl_cons];have:(if decide (x<n)=true then x else n)=min n x:=by
   by_cases h:x<n
   ·simp[h];lia
   ·simp[h];lia
  rw[this]
theorem Z92:∀{xs:List Int}{n:Int},best (fun a b=>decide (a > b)) n xs=xs.foldl max n
 |[],_=>rfl
 |x::xs,n=>by
  rw[best,Z92,List.foldl_cons];have:(if decide (x > n)=true then x else n)=max n x:=by
   by_cases h:x > n
   ·simp[h];lia
   ·simp[h];lia
  rw[this]
def Zpl (K:L2.Fg):List V->Hp->VK->Prop:=fun xs H Q=>∃(p:Addr) (n:Int)(ns:List Int),xs=[.ref p]/\SqU K H p ((n::ns).map V.int)/\Q (.int (ns.foldl min n)) H
theorem Zcu {K:L2.Fg}(hK:X.K=K)(hc:X.calm=true):Z10 X (.builtin "min") (Zpl K):=by
 subst hK;intro pins s σ H xs us Q I r h;obtain⟨p,n,ns,rfl,hq,q⟩:=h;obtain⟨u,rfl,ru⟩:=Z2o r
 cases ru;obtain⟨its,rv,k⟩:=Z90 hc I hq;have l:=rv.length;rw[List.length_map]at l;refine call_min_walk (k _ _ fun g St W st lt keep=>⟨_,_,_,_,_,St,_,rfl,W,st,lt,by rw[<-l];simp,CmpOf.ints_lt (fun i=>(n::ns).getD i 0) fun i v h=>Z20 rv h,fun v h' tk hv hk=>?_⟩);rw[<-l]at hv;obtain⟨t,rfl⟩:=Z20 rv hv;obtain⟨e,_⟩:=Z5q (f:=fun a b=>decide (a<b)) (n:=n) (ns:=ns) ((n::ns).length-1) (by simp);rw[show(n::ns).length-1=ns.length by simp,List.take_length,Z91]at e;refine⟨.int _,H,keep h' tk hk,⟨t,?_⟩,q⟩;rw[show(n::ns).length-1=ns.length by simp];exact congrArg (fun z=>Value.int z t) e
def Zpm (K:L2.Fg):List V->Hp->VK->Prop:=fun xs H Q=>∃(p:Addr) (n:Int)(ns:List Int),xs=[.ref p]/\SqU K H p ((n::ns).map V.int)/\Q (.int (ns.foldl max n)) H
theorem Zcv {K:L2.Fg}(hK:X.K=K)(hc:X.calm=true):Z10 X (.builtin "max") (Zpm K):=by
 subst hK;intro pins s σ H xs us Q I r h;obtain⟨p,n,ns,rfl,hq,q⟩:=h;obtain⟨u,rfl,ru⟩:=Z2o r
 cases ru;obtain⟨its,rv,k⟩:=Z90 hc I hq;have l:=rv.length;rw[List.length_map]at l;refine call_max_walk (k _ _ fun g St W st lt keep=>⟨_,_,_,_,_,St,_,rfl,W,st,lt,by rw[<-l];simp,CmpOf.ints_gt (fun i=>(n::ns).getD i 0) fun i v h=>Z20 rv h,fun v h' tk hv hk=>?_⟩);rw[<-l]at hv;obtain⟨t,rfl⟩:=Z20 rv hv;obtain⟨e,_⟩:=Z5q (f:=fun a b=>decide (a > b)) (n:=n) (ns:=ns) ((n::ns).length-1) (by simp);rw[show(n::ns).length-1=ns.length by simp,List.take_length,Z92]at e;refine⟨.int _,H,keep h' tk hk,⟨t,?_⟩,q⟩;rw[show(n::ns).length-1=ns.length by simp];exact congrArg (fun z=>Value.int z t) e
end
section
variable {W:Wd}{m:Md}{E:XK}
theorem RB.seq {Hc H:Hp}{us:List U}{v:V}{u:U}(s:Same Hc H)(h:u=.lst us\/u=.tup us)(r:RB W Hc H u v):∃ a vs,v=.ref a/\SqU W.K H a vs/\RUs W Hc us vs:=by
 rcases h with rfl|rfl
 ·obtain⟨a,vs,rfl,h1,r1⟩:=r.lst s;exact⟨a,vs,rfl,.inl (.of h1),r1⟩
 ·obtain⟨a,vs,rfl,h1,r1⟩:=r.tup;exact⟨a,vs,rfl,.inr (.of (s _ _ h1)),r1⟩
def Z2t:U->Option (List Int)
 |.lst us=>Z13 us
 |.tup us=>Z13 us
 |_=>none
theorem Z6u {Hc H:Hp}{u:U}{v:V}{ns:List Int}(s:Same Hc H)(h:Z2t u=some ns)(r:RB W Hc H u v):∃ a,v=.ref a/\SqU W.K H a (ns.map V.int):=by
 unfold Z2t at h;split at h
 ·obtain⟨a,vs,rfl,q,rr⟩:=r.seq s (.inl rfl);rw[Z1f h]at rr;have e:=rr.ints;subst e;exact⟨a,rfl,q⟩
 ·obtain⟨a,vs,rfl,q,rr⟩:=r.seq s (.inr rfl);rw[Z1f h]at rr;have e:=rr.ints;subst e;exact⟨a,rfl,q⟩
 ·cases h
def Zts:List U->Option U
 |[u]=>(Z2t u).map fun ns=>.int ns.sum
 |_=>none
def Zae:List U->Option U
 |[u]=>match Z2t u with
  |some (n::ns)=>some (.int (ns.foldl min n))
  |_=>none
 |_=>none
def Zaf:List U->Option U
 |[u]=>match Z2t u with
  |some (n::ns)=>some (.int (ns.foldl max n))
  |_=>none
 |_=>none
theorem Zku:Z45 W [true] (Zpl W.K) Zae:=by
 intro Hc H ω us vs s p rs u e Q k;unfold Zae at e;split at e
 ·obtain⟨v,rfl,rv⟩:=rs.one;split at e
  ·rename_i q;cases e
   obtain⟨a,rfl,sq⟩:=Z6u s q rv;exact⟨a,_,_,rfl,sq,k _ Hc H (Ext.refl s) p .int⟩
  ·cases e
 ·cases e
theorem Zkv:Z45 W [true] (Zpm W.K) Zaf:=by
 intro Hc H ω us vs s p rs u e Q k;unfold Zaf at e;split at e
 ·obtain⟨v,rfl,rv⟩:=rs.one;split at e
  ·rename_i q;cases e
   obtain⟨a,rfl,sq⟩:=Z6u s q rv;exact⟨a,_,_,rfl,sq,k _ Hc H (Ext.refl s) p .int⟩
  ·cases e
 ·cases e
variable {ι:Type}{X:L2.FC ι}{a:Expr}{fa:Ef}{pos p:Pos}
theorem Zkw (cx:Ctx X W E)(B:Bl W.mg)(ha:QB X W m E a fa)(hg:∀ y,Gl (X y) "min" := by intro ψ;rfl)(hs:∀ y,starEach [a] (X y).env=(false,eval a (X y).env)::starEach [] (X y).env:=by intro ψ;rfl)(hp:∀ y,(backTo pos (starEach [] (X y).env)).any (·.1)=false:=by intro ψ;rfl):QE X W m E (.Call (.Name "min" p) [a] [] pos) (eB Zae (Z01 fa aNil)):=
 Zad (fun y=>Zcu (cx.hK y) (cx.calm y)) Zku (fun y=>(congrFun (cx.hm y) _).trans B.min) boot_min (qa_b ha Z04 hs) hg (by decide) (by decide) hs hp
theorem Zkx (cx:Ctx X W E)(B:Bl W.mg)(ha:QB X W m E a fa)(hg:∀ y,Gl (X y) "max" := by intro ψ;rfl)(hs:∀ y,starEach [a] (X y).env=(false,eval a (X y).env)::starEach [] (X y).env:=by intro ψ;rfl)(hp:∀ y,(backTo pos (starEach [] (X y).env)).any (·.1)=false:=by intro ψ;rfl):QE X W m E (.Call (.Name "max" p) [a] [] pos) (eB Zaf (Z01 fa aNil)):=
 Zad (fun y=>Zcv (cx.hK y) (cx.calm y)) Zkv (fun y=>(congrFun (cx.hm y) _).trans B.max) boot_max (qa_b ha Z04 hs) hg (by decide) (by decide) hs hp
structure Kt (K:L2.Fg):Prop where
 ib:PySem.W.kitOne K (.type "int") (.type "bool")=some false
 bi:PySem.W.kitOne K (.type "bool") (.type "int")=some true
end
theorem Z21:1000000<=sizeLine:=by decide
theorem Z1r {α:Type}(xs:List α) (n:Nat):atI xs (n:Int)=xs[n]?:=by
 unfold atI ixN;rw[if_pos (Int.natCast_nonneg n)];by_cases h:n<xs.length
 ·rw[if_pos (by lia)];simp
 ·rw[if_neg (by lia)];simp[h]
theorem atI_zero {α:Type}(xs:List α):atI xs (0:Int)=xs[0]?:=Z1r xs 0
theorem atI_one {α:Type}(xs:List α):atI xs (1:Int)=xs[1]?:=Z1r xs 1
theorem Zpn {α:Type}{xs:List α}{k:Int}(h0:0<=k)(h1:k<xs.length):atI xs k=some (xs[k.toNat]'(by lia)):=by
 obtain⟨n,rfl⟩:=Int.eq_ofNat_of_zero_le h0;rw[Z1r];have:n<xs.length:=by lia
 simp[this]
theorem atI_end {α:Type}(xs:List α)(x:α):atI (xs++[x]) (-1:Int)=some x:=by
 unfold atI ixN;have h2: -(((xs++[x]).length:Nat):Int) <= -1:=by simp;lia
 rw[if_neg (by lia),if_pos h2];have e:(-1+((xs++[x]).length:Int)).toNat=xs.length:=by simp;lia
 rw[e];simp
theorem Zky {α β:Type}{f:α->β}{xs:List α}{k:Int}:atI (xs.map f) k=(atI xs k).map f:=by
 unfold atI;rw[List.length_map]
 cases ixN xs.length k with
 |none=>rfl
 |some j=>simp
theorem uIx_l {us:List U}{k:Int}:uIx (.lst us) (.int k)=atI us k:=rfl
theorem uIx_t {us:List U}{k:Int}:uIx (.tup us) (.int k)=atI us k:=rfl
theorem uDiv_s {a b:Int}(h0:0<b)(h1:b<18446744073709551616):uDiv (.int a) (.int b)=some (.int (a/b)):=by
 unfold uDiv;have e:(18446744073709551616:Nat)<=2 ^ 9000:=by
  rw[show(18446744073709551616:Nat)=2 ^ 64 by decide];exact Nat.pow_le_pow_right (by decide) (by decide)
 simp only;rw[if_pos ⟨h0,by lia⟩]
theorem Zpo {k:Nat}(h:k<=9000){a:Int}(h1:a<2 ^ k)(h2: -(2 ^ k)<a):a.natAbs<2 ^ 9000:=by
 have e:(2:Nat) ^ k<=2 ^ 9000:=Nat.pow_le_pow_right (by decide) h;have z:((2 ^ k:Nat):Int)=(2:Int) ^ k:=by push_cast;rfl
 lia
theorem Zhu {a b:Int} (k:Nat)(hk:k<=9000)(h0:0<b)(h1:b<2 ^ k):uDiv (.int a) (.int b)=some (.int (a/b)):=by
 unfold uDiv;simp only;rw[if_pos ⟨h0,Zpo hk h1 (by have:=Za1 k;lia)⟩]
theorem uMod_s {a b:Int}(h0:0<b):uMod (.int a) (.int b)=some (.int (a%b)):=by unfold uMod;simp only;rw[if_pos h0]
theorem uMul_l {a b:Int}(h1: -18446744073709551616<a)(h2:a<18446744073709551616):uMul (.int a) (.int b)=some (.int (a*b)):=by
 unfold uMul;simp only;rw[if_pos (.inl ⟨by lia,by lia⟩)]
theorem uMul_r {a b:Int}(h1: -18446744073709551616<b)(h2:b<18446744073709551616):uMul (.int a) (.int b)=some (.int (a*b)):=by
 unfold uMul;simp only;rw[if_pos (.inr (.inl ⟨by lia,by lia⟩))]
theorem uPow_s {a b:Int}(h0:0<=b)(h1:b<=1000000)(h2: -18446744073709551616<a)(h3:a<18446744073709551616):uPow (.int a) (.int b)=some (.int (a ^ b.toNat)):=by
 unfold uPow;simp only;rw[if_pos ⟨h0,h1,by lia⟩]
theorem uAdd_i {a b:Int}:uAdd (.int a) (.int b)=some (.int (a+b)):=rfl
theorem uAdd_l {a b:List U}(h:a.length+b.length<=1000000):uAdd (.lst a) (.lst b)=some (.lst (a++b)):=by unfold uAdd;simp only;rw[if_pos (Nat.le_trans h Z21)]
theorem uAdd_t {a b:List U}(h:a.length+b.length<=1000000):uAdd (.tup a) (.tup b)=some (.tup (a++b)):=by unfold uAdd;simp only;rw[if_pos (Nat.le_trans h Z21)]
theorem mkT_s {us:List U}(h:us.length<=1000000):mkT us=some (.tup us):=by unfold mkT;rw[if_pos (Nat.le_trans h Z21)]
theorem mkL_s {us:List U}(h:us.length<=1000000):mkL us=some (.lst us):=by unfold mkL;rw[if_pos (Nat.le_trans h Z21)]
theorem ite_lt {α:Type}{n:Nat}{a b:α}(h:n<1000000):(if n<sizeLine then a else b)=a:=by rw[if_pos (Nat.lt_of_lt_of_le h Z21)]
theorem ite_le {α:Type}{n:Nat}{a b:α}(h:n<=1000000):(if n<=sizeLine then a else b)=a:=by rw[if_pos (Nat.le_trans h Z21)]
theorem uR1_s {j:Int}(h0: -4611686018427387904<=j)(h1:j<4611686018427387904):uR1 [.int j]=some (rngU 0 j.toNat):=by unfold uR1;simp only;rw[if_pos ⟨by lia,by lia⟩]
theorem uR2_s {i j:Int}(h0: -4611686018427387904<=i)(h1:i<4611686018427387904)(h2: -4611686018427387904<=j)(h3:j<4611686018427387904):uR2 [.int i,.int j]=some (rngU i (j-i).toNat):=by unfold uR2;simp only;rw[if_pos ⟨⟨by lia,by lia⟩,⟨by lia,by lia⟩⟩]
theorem rngU_len {lo:Int}{n:Nat}:(rngU lo n).length=n:=by simp[rngU]
section
variable {i j n:Nat}{fa fb fi:Ef}{ft ft':Tf}{fr:Af}{ρ:En}{ω:Om}{u:U}{us:List U}{g g1 g2:Sf}{h:U->U->Option U}{q:List U->Option U}{q1:U->Option U}{a:U->En->Option En}{b:List U->En->Option En}{fl fh:Pf}{F:Ff}
theorem sNext_ap:Z0q ρ ω=.nx ρ ω:=rfl
theorem sBrk_ap:sBrk ρ ω=.bk ρ ω:=rfl
theorem sIf_ap:sIf ft g1 g2 ρ ω=Fl.of (ft ρ ω) fun b ω1=>if b=true then g1 ρ ω1 else g2 ρ ω1:=rfl
theorem sSet_ap:sSet i fa ρ ω=Fl.of (fa ρ ω) fun u ω1=>.nx (ρ.set i (some u)) ω1:=rfl
theorem sRet_ap:sRet fa ρ ω=Fl.of (fa ρ ω) fun u ω1=>.rt u ω1:=rfl
theorem sAug_ap:sAug i h fa ρ ω=match ρ[i]? with
 |some (some a)=>Fl.of (fa ρ ω) fun b ω1=>match h a b with
  |some c=>.nx (ρ.set i (some c)) ω1
  |none=>.stk
 |_=>.stk:=rfl
theorem sApp_ap:sApp i fa ρ ω=match ρ[i]? with
 |some (some (.lst us))=>Fl.of (fa ρ ω) fun u ω1=>if us.length<sizeLine then .nx (ρ.set i (some (.lst (us++[u])))) ω1 else .stk
 |_=>.stk:=rfl
theorem sPut_ap:sPut i fi fa ρ ω=Fl.of (fa ρ ω) fun u ω1=>match ρ[i]? with
 |some (some (.lst us))=>Fl.of (fi ρ ω1) fun k ω2=>match k with
  |.int k=>match ixN us.length k with
   |some j=>.nx (ρ.set i (some (.lst (us.set j u)))) ω2
   |none=>.stk
  |_=>.stk
 |_=>.stk:=rfl
theorem sAsg_ap:sAsg a fa ρ ω=Fl.of (fa ρ ω) fun u ω1=>match a u ρ with
 |some ρ'=>.nx ρ' ω1
 |none=>.stk:=rfl
theorem sFor_ap:sFor fr a g ρ ω=Fl.of (fr ρ ω) fun us ω1=>forU (Z0r a g) us ρ ω1:=rfl
theorem stepU_ap:Z0r a g u ρ ω=match a u ρ with
 |some ρ'=>g ρ' ω
 |none=>.stk:=rfl
theorem aName_ap:Z0c i u ρ=some (ρ.set i (some u)):=rfl
theorem aTup_ap:aTup n b (.tup us) ρ=if us.length=n then b us ρ else none:=rfl
theorem aNilT_ap:Z6s [] ρ=some ρ:=rfl
theorem aConsT_ap:Z25 a b (u::us) ρ=(a u ρ).bind (b us):=rfl
theorem eVar_ap:eVar i ρ ω=match ρ[i]? with
 |some (some u)=>.ok u ω
 |_=>.stk:=rfl
theorem eC_ap:eC u ρ ω=.ok u ω:=rfl
theorem eOp_ap:eOp h fa fb ρ ω=(fa ρ ω).bnd fun a ω1=>(fb ρ ω1).bnd fun b ω2=>.of (h a b) ω2:=rfl
theorem eUn_ap:eUn q1 fa ρ ω=(fa ρ ω).bnd fun a ω1=>.of (q1 a) ω1:=rfl
theorem eAnd_ap:eAnd fa fb ρ ω=(fa ρ ω).bnd fun u ω1=>match u with
 |.bl b=>if b=true then fb ρ ω1 else .ok (.bl false) ω1
 |_=>.stk:=rfl
theorem eOr_ap:eOr fa fb ρ ω=(fa ρ ω).bnd fun u ω1=>match u with
 |.bl b=>if b=true then .ok (.bl true) ω1 else fb ρ ω1
 |_=>.stk:=rfl
theorem eIf_ap:eIf ft fa fb ρ ω=(ft ρ ω).bnd fun b ω1=>if b=true then fa ρ ω1 else fb ρ ω1:=rfl
theorem eTup_ap:eTup fr ρ ω=(fr ρ ω).bnd fun us ω1=>.of (mkT us) ω1:=rfl
theorem eLst_ap:eLst fr ρ ω=(fr ρ ω).bnd fun us ω1=>.of (mkL us) ω1:=rfl
theorem eB_ap:eB q fr ρ ω=(fr ρ ω).bnd fun us ω1=>.of (q us) ω1:=rfl
theorem eCall_ap:Z0b F fr ρ ω=(fr ρ ω).bnd F:=rfl
theorem eSl_ap {g:U->Option Int->Option Int->Option U}:eSl g fa fl fh ρ ω=(fa ρ ω).bnd fun a ω1=>(fl ρ ω1).bnd fun l ω2=>(fh ρ ω2).bnd fun h ω3=>.of (g a l h) ω3:=rfl
theorem eComp_ap {k:Nat}{js:List Nat}:Z3d fr k js a ft fa ρ ω=(fr ρ ω).bnd fun us ω1=>if us.length<=sizeLine then asOk (cmpU (cstU a ft fa (blkU k js ρ)) us ω1) fun r ω2=>.ok (.lst r) ω2 else .stk:=rfl
theorem cstU_ap:cstU a ft fa ρ u ω=match a u ρ with
 |some ρ'=>(ft ρ' ω).bnd fun b ω1=>if b=true then (fa ρ' ω1).bnd fun u ω2=>.ok (some u) ω2 else .ok none ω1
 |none=>.stk:=rfl
theorem tfB_ap:tfB fa ρ ω=(fa ρ ω).bnd fun u ω1=>.of (asB u) ω1:=rfl
theorem tfAnd_ap:Z2s ft ft' ρ ω=(ft ρ ω).bnd fun b ω1=>if b=true then ft' ρ ω1 else .ok false ω1:=rfl
theorem tfOr_ap:tfOr ft ft' ρ ω=(ft ρ ω).bnd fun b ω1=>if b=true then .ok true ω1 else ft' ρ ω1:=rfl
theorem tfNot_ap:Z6p ft ρ ω=(ft ρ ω).bnd fun b ω1=>.ok (!b) ω1:=rfl
theorem tfTrue_ap:Z1m ρ ω=.ok true ω:=rfl
theorem aNil_ap:aNil ρ ω=.ok [] ω:=rfl
theorem aCons_ap:Z01 fa fr ρ ω=(fa ρ ω).bnd fun u ω1=>(fr ρ ω1).bnd fun us ω2=>.ok (u::us) ω2:=rfl
theorem pNo_ap:pNo ρ ω=.ok none ω:=rfl
theorem pSome_ap:Zfl fa ρ ω=(fa ρ ω).bnd fun u ω1=>.of (asI u) ω1:=rfl
theorem iOf_ap:iOf fa ρ ω=(fa ρ ω).bnd fun u ω1=>.of (Zfp u) ω1:=rfl
theorem iArgs_ap {q:List U->Option (List U)}:Z1z q fr ρ ω=(fr ρ ω).bnd fun us ω1=>.of (q us) ω1:=rfl
end
def Zfv (g:Sf)(r:Fl):Fl:=match r with
 |.nx ρ' ω'=>g ρ' ω'
 |o=>o
theorem sSeq_then {g1 g2:Sf}{ρ:En}{ω:Om}:sSeq g1 g2 ρ ω=Zfv g2 (g1 ρ ω):=rfl
@[simp] theorem thenF_nx {g:Sf}{ρ:En}{ω:Om}:Zfv g (.nx ρ ω)=g ρ ω:=rfl
@[simp] theorem thenF_rt {g:Sf}{u:U}{ω:Om}:Zfv g (.rt u ω)=.rt u ω:=rfl
@[simp] theorem thenF_err {g:Sf}{c:Str}{p:Option Int}{ω:Om}:Zfv g (.err c p ω)=.err c p ω:=rfl
def endF (r:Fl):Res U:=match r with
 |.nx _ ω'=>.ok .non ω'
 |.rt u ω'=>.ok u ω'
 |.err c p ω'=>.err c p ω'
 |_=>.stk
theorem runU_end {n:Nat}{g:Sf}{us:List U}{ω:Om}:runU n g us ω=endF (g (us.map some++List.replicate (n-us.length) none) ω):=rfl
@[simp] theorem endF_rt {u:U}{ω:Om}:endF (.rt u ω)=.ok u ω:=rfl
@[simp] theorem endF_nx {ρ:En}{ω:Om}:endF (.nx ρ ω)=.ok .non ω:=rfl
@[simp] theorem endF_err {c:Str}{p:Option Int}{ω:Om}:endF (.err c p ω)=.err c p ω:=rfl
theorem Z1h {st:U->Om->Res (Option U)}{f:Int->Option U}{ω:Om}:∀{ns:List Int},(∀ x∈ns,st (.int x) ω=.ok (f x) ω)->cmpU st (ns.map U.int) ω=.ok (ns.filterMap f) ω
 |[],_=>rfl
 |x::xs,h=>by
  rw[List.map_cons,cmpU,h x (by simp),Res.bnd_ok,Z1h fun y hy=>h y (List.mem_cons_of_mem _ hy),Res.bnd_ok]
  cases e:f x with
  |none=>rw[List.filterMap_cons_none e];rfl
  |some u=>rw[List.filterMap_cons_some e];rfl
theorem Z1y:∀ ns:List Int,U.toDs (ns.map U.int)=some (ns.map D.int)
 |[]=>by rw[List.map_nil,U.toDs];rfl
 |n::ns=>by rw[List.map_cons,U.toDs,U.toD,Z1y ns];rfl
theorem Zcw (a b:List Int):uEqs (a.map U.int) (b.map U.int)=some (decide (a=b)):=by
 unfold uEqs;rw[Z1y,Z1y];simp[Z44,Z8v]
theorem uEq_ii {a b:Int}:uEq (.int a) (.int b)=some (.bl (decide (a=b))):=rfl
theorem uNe_ii {a b:Int}:uNe (.int a) (.int b)=some (.bl (!decide (a=b))):=rfl
theorem Zpp {a b:List Int}:uNe (.lst (a.map U.int)) (.lst (b.map U.int))=some (.bl (!decide (a=b))):=by show(uEqs _ _).map (fun k=>U.bl (!k))=_;rw[Zcw];rfl
theorem Zpq {a:List Int}:uNe (.lst (a.map U.int)) (.lst [])=some (.bl (!decide (a=[]))):=Zpp (b:=[])
theorem Zkz {P:Program}{w:World}{K:L2.Fg}{mg:L2.SV}{base:Heap}{k:Nat}{f:Addr}{fd:FuncData}{ps:List Str}{sp:Sp}(F:FnOk P w K mg base (CX1 P w) k f fd ps sp):FnOk P w K mg base CX0 k f fd ps (fun vs H Q ψ=>sp vs H Q E0):=
 ⟨fun vs H Q E h=>F.len vs H Q E0 h,fun A outer s H args us vs Q E hr he hb hv hs=>codeAny_mono (F.run A outer s H args us vs Q E0 hr he hb hv hs) fun r s' q=>by
  cases r with
  |error e=>obtain⟨_,_,_,_,_,_,_,_,_,_,z⟩:=q;exact z.elim
  | ok fl=>cases fl<;>exact q⟩
def Zag (K:L2.Fg):Sp:=fun vs H Q ψ=>∃ sc,∃ ns:List Int,vs=[.ref sc]/\SqL K H sc (ns.map V.int)/\ns.length<=63/\∀ H',Q (.bl true) H'
def wd0 (K:L2.Fg)(mg:L2.SV):Wd:=⟨K,mg,0,[],fun ψ ψ=>True,fun ψ ψ ψ ψ ψ=>trivial⟩
theorem Z81 {prog:Program}{w:World}{A:Around}{s:Shared}{R:Result->Shared->Prop}{r:Addr}{a b c:Int}{t u v:Tok}{n:Nat}
  (hh:A.handled=none)(hr:IsRange s.heap r a b c t u v)(hsmall:Builtin.Range.small a b c=false)(hn:Builtin.Range.rangeSize a b c = ↑n)(hlen:n<=2 ^ 24)(S:Addr)(res:Value) (c₀:Nat)
  (hS:s.heap.get? S=some { cls:=Value.type "list",data:=Data.seq #[] c₀ })
  (hR:∀ (h':Heap) (tk:Nat)(acc':Array Value)(c':Nat),(∀ (b:Addr)(o:Obj),b≠S->s.heap.get? b=some o->h'.get? b=some o)->h'.get? S=some { cls:=Value.type "list",data:=Data.seq acc' c' } ->
   ItemsOf (fun i v=>∃ t,v=Value.int (a + ↑i*c) t) acc' n->R (Except.ok (Flow.ret res)) { heap:=h',gens:=s.gens,drawn:=s.drawn,toks:=tk,os:=s.os }) :
  wpAny (model prog w) A.in1 (Builtin.List.listExtendWith (Value.ref S) (Value.ref r) res)
   (fun fin s'=>match fin with
    |Fin.done f=>R (Except.ok f) s'
    | Fin.again c'=>c'.quiet=true/\codeAny (model prog w) A c' R s')
   (fun e s'=>R (Except.error e) s') s:=by
 have hSr:S≠r:=fun e=>by
  rw[e]at hS;rw[show s.heap.get? r=_ from hr]at hS;simp at hS
 have hSlt:=Heap.lt_size hS;have hSf:S∉[s.heap.objs.size]:=fun hm=>Nat.ne_of_lt hSlt (List.mem_singleton.mp hm);have W:=Walks.toS (Walks.longrange (prog:=prog) (w:=w) (A:=A.in1) hh s.heap.objs.size a c n);have key:∀(h:Heap)(c₁ tk:Nat),IsLongIter h s.heap.objs.size (a+((0:Nat):Int)*c) ((n:Int)-((0:Nat):Int)) c->(∀(b:Addr)(o:Obj),b≠S->s.heap.get? b=some o->h.get? b=some o)->h.get? S=some { cls:=Value.type "list",data:=Data.seq #[] c₁ } ->
   codeAny (model prog w) A (Code.builtin "list.extend.loop" { pos:=[Value.ref S,Value.ref s.heap.objs.size,res] }) R { heap:=h,gens:=s.gens,drawn:=s.drawn,toks:=tk,os:=s.os }:=fun h c₁ tk hit hk hS₁=>by
  refine codeAny_extend_loopS W (by rw[sizeLine_eq];exact hlen) S hSf res n 0 _ #[] c₁ rfl (Nat.zero_le n) hit hS₁ (ItemsOf.nil _) fun s' acc' c' hm hS' hacc=>?_;rw[Moved.eq_with hm];refine hR s'.heap s'.toks acc' c' (fun b o hb e=>hm.heap b o (fun hmem=>?_) (hk b o hb e)) hS' hacc;rcases List.mem_cons.mp hmem with e'|hmem
  ·exact hb e'
  ·have:=Heap.lt_size e
   rw[List.mem_singleton.mp hmem]at this;exact absurd this (Nat.lt_irrefl _)
 unfold Builtin.List.listExtendWith;refine wpAny_bind (wpAny_typeOf ⟨_,hr,rfl⟩ ?_);have h1:Builtin.List.listSameRef (Value.ref S) (Value.ref r)=false:=by
  unfold Builtin.List.listSameRef;simp[hSr]
 have h2:(Value.type "range" == Value.type "list")=false:=by decide
 have h3:(Value.type "range" == Value.type "tuple")=false:=by decide
 simp only[h1,h2,h3,Bool.or_false,Bool.false_eq_true,if_false];refine wpAny_bind (wpAny_pyIter_longrange hr hsmall ?_);refine wpAny_bind (wpAny_holding (wpAny_hint_range (Heap.get?_push_of_some _ hr) hn hlen ?_));have hit₁:IsLongIter (s.heap.push { cls:=Value.type "longrange_iterator",data:=Data.fields #[rawInt a,rawInt (Builtin.Range.rangeSize a b c),rawInt c] }) s.heap.objs.size (a+((0:Nat):Int)*c) ((n:Int)-((0:Nat):Int)) c:=by
  have:=Heap.get?_push_size s.heap (o:={ cls:=Value.type "longrange_iterator",data:=Data.fields #[rawInt a,rawInt (Builtin.Range.rangeSize a b c),rawInt c] }) rfl
  rw[hn]at this ⊢;simpa using this
 have hS₁:(s.heap.push { cls:=Value.type "longrange_iterator",data:=Data.fields #[rawInt a,rawInt (Builtin.Range.rangeSize a b c),rawInt c] }).get? S=_:=Heap.get?_push_of_some _ hS;refine wpAny_ite_split (fun ψ=>?_) (fun ψ=>?_)
 ·refine wpAny_bind (wpAny_rule (wpAny_bind ?_));unfold Builtin.List.listTouch;refine wpAny_bind (wpAny_updateSeq hS₁ rfl ?_ (by rw[sizeLine_eq];decide) (by rw[sizeLine_eq];decide));have hS₂:=Heap.get?_update_self (Obj.mapSeq fun x=>x.push Value.none) hS₁ rfl;refine wpAny_updateSeq hS₂ rfl ?_ (by rw[sizeLine_eq];decide) (by rw[sizeLine_eq];decide);have hS₃:=Heap.get?_update_self (Obj.mapSeq fun x=>x.pop) hS₂ rfl;refine wpAny_pure ⟨plainId_quiet F.plain_extend_loop _,key _ _ _ ?_ (fun b o hb e=>?_) hS₃⟩
  ·unfold IsLongIter;rw[Heap.get?_update_other _ _ (Nat.ne_of_lt hSlt),Heap.get?_update_other _ _ (Nat.ne_of_lt hSlt)];exact hit₁
  ·rw[Heap.get?_update_other _ _ (Ne.symm hb),Heap.get?_update_other _ _ (Ne.symm hb)];exact Heap.get?_push_of_some _ e
 ·exact wpAny_pure ⟨plainId_quiet F.plain_extend_loop _,key _ _ _ hit₁ (fun b o ψ e=>Heap.get?_push_of_some _ e) hS₁⟩
theorem Z4u {prog:Program}{w:World}{A:Around}{s:Shared}{R:Result->Shared->Prop}{r:Addr}{a b c:Int}{t u v:Tok}{n:Nat}
  (hh:A.handled=none)(hr:IsRange s.heap r a b c t u v)(hsmall:Builtin.Range.small a b c=false)(hn:Builtin.Range.rangeSize a b c = ↑n)(hlen:n<=2 ^ 24)(S:Addr)
  (hS:s.heap.get? S=some { cls:=Value.type "list",data:=Data.seq #[] })
  (hR:∀ (h':Heap) (tk:Nat)(acc':Array Value)(c':Nat),(∀ (b:Addr)(o:Obj),b≠S->s.heap.get? b=some o->h'.get? b=some o)->h'.get? S=some { cls:=Value.type "list",data:=Data.seq acc' c' } ->
   ItemsOf (fun i v=>∃ t,v=Value.int (a + ↑i*c) t) acc' n->R (Except.ok (Flow.ret Value.none)) { heap:=h',gens:=s.gens,drawn:=s.drawn,toks:=tk,os:=s.os }) :
  wpAny (model prog w) A.in1 (Builtin.«list.__init__» { pos:=[Value.ref S,Value.ref r] })
   (fun fin s'=>match fin with
    |Fin.done f=>R (Except.ok f) s'
    | Fin.again c'=>c'.quiet=true/\codeAny (model prog w) A c' R s')
   (fun e s'=>R (Except.error e) s') s:=by
 have hSr:S≠r:=fun e=>by
  rw[e]at hS;rw[show s.heap.get? r=_ from hr]at hS;simp at hS
 unfold Builtin.«list.__init__»;refine wpAny_bind (?_:wpAny _ _ (Builtin.List.listItems _) _ _ _);unfold Builtin.List.listItems;refine wpAny_bind (wpAny_seqItems hS rfl (wpAny_pure ?_));refine wpAny_bind (wpAny_updateSeq hS rfl ?_ (by rw[sizeLine_eq];decide) (by rw[sizeLine_eq];decide));have hS₂:=Heap.get?_update_self (Obj.mapSeq fun x=>#[]) hS rfl;have oth:∀(b:Addr)(o:Obj),b≠S->s.heap.get? b=some o->(s.heap.update S (Obj.mapSeq fun x=>#[])).get? b=some o:=fun b o hb e=>(Heap.get?_update_other s.heap (Obj.mapSeq fun x=>#[]) (Ne.symm hb)).trans e;refine wpAny_bind (wpAny_letGo ?_);exact Z81 hh (oth r _ (Ne.symm hSr) hr) hsmall hn hlen S Value.none _ hS₂ fun h' tk acc' c' hk hS' hacc=>hR h' tk acc' c' (fun b o hb e=>hk b o hb (oth b o hb e)) hS' hacc
theorem Z4v {prog:Program}{w:World}{A:Around}{E:L2.VSP}{s:Shared}{Q:L2.VSP}{r:Addr}{a b c:Int}{t u v:Tok}{n:Nat}
  (hh:A.handled=none)(hr:IsRange s.heap r a b c t u v)(hsmall:Builtin.Range.small a b c=false)(hn:Builtin.Range.rangeSize a b c = ↑n)(hlen:n<=2 ^ 24)
  (hQ:∀ (h':Heap) (tk:Nat)(acc':Array Value)(c':Nat),(∀ (b:Addr)(o:Obj),s.heap.get? b=some o->h'.get? b=some o)->h'.get? s.heap.objs.size=some { cls:=Value.type "list",data:=Data.seq acc' c' } ->
   ItemsOf (fun i v=>∃ t,v=Value.int (a + ↑i*c) t) acc' n->Q (Value.ref s.heap.objs.size) { heap:=h',gens:=s.gens,drawn:=s.drawn,toks:=tk,os:=s.os }) :
  wpAny (model prog w) A (call (Value.type "list") [Value.ref r]) Q E s:=by
 refine callType_codes F.called_list (F.typeCall_list_1 (Value.ref r)) F.entry_list_init (code_list_new (Value.ref r) (Q₁:=fun o s'=>o=Value.ref s.heap.objs.size/\s'={ heap:=s.heap.push { cls:=Value.type "list",data:=Data.seq #[] },gens:=s.gens,drawn:=s.drawn,toks:=s.toks,os:=s.os }) ⟨rfl,rfl⟩) fun obj s₁ h₁=>?_;obtain⟨rfl,rfl⟩:=h₁;have hS:=Heap.get?_push_size s.heap (o:={ cls:=Value.type "list",data:=Data.seq #[] }) rfl;refine⟨⟨_,hS,rfl⟩,F.args_list_init_2 _ _,?_⟩;exact Z4u (A:=A.in1) (s:={ heap:=s.heap.push { cls:=Value.type "list",data:=Data.seq #[] },gens:=s.gens,drawn:=s.drawn,toks:=s.toks,os:=s.os }) (R:=wants (fun r s₂=>r=Value.none/\Q (Value.ref s.heap.objs.size) s₂) E) hh (Heap.get?_push_of_some _ hr) hsmall hn hlen s.heap.objs.size hS fun h' tk acc' c' hk hS' hacc=>⟨rfl,hQ h' tk acc' c' (fun b o e=>hk b o (Nat.ne_of_lt (Heap.lt_size e)) (Heap.get?_push_of_some _ e)) hS' hacc⟩
theorem Z5r {prog:Program}{w:World}{A:Around}{E:L2.VSP}{s:Shared}{Q:L2.VSP}{r:Addr}{a b c:Int}{t u v:Tok}{n:Nat}
  (hh:A.handled=none)(hr:IsRange s.heap r a b c t u v)(hn:Builtin.Range.rangeSize a b c = ↑n)(hlen:n<=2 ^ 24)
  (hQ:∀ (h':Heap) (tk:Nat)(acc':Array Value)(c':Nat),(∀ (b:Addr)(o:Obj),s.heap.get? b=some o->h'.get? b=some o)->h'.get? s.heap.objs.size=some { cls:=Value.type "list",data:=Data.seq acc' c' } ->
   ItemsOf (fun i v=>∃ t,v=Value.int (a + ↑i*c) t) acc' n->Q (Value.ref s.heap.objs.size) { heap:=h',gens:=s.gens,drawn:=s.drawn,toks:=tk,os:=s.os }) :
  wpAny (model prog w) A (call (Value.type "list") [Value.ref r]) Q E s:=by
 cases e:Builtin.Range.small a b c with
 |true=>exact call_list_range hh hr e hn hlen hQ
 |false=>exact Z4v hh hr e hn hlen hQ
def uIn (neg:Bool):U->U->Option U
 |.int i,.lst us=>(Z13 us).map fun ns=>.bl (if neg then !decide (i∈ns)else decide (i∈ns))
 |.int i,.tup us=>(Z13 us).map fun ns=>.bl (if neg then !decide (i∈ns)else decide (i∈ns))
 |_,_=>none
theorem Z5s {i:Int}:∀ ns:List Int,inV (.int i) (ns.map V.int)=decide (i∈ns)
 |[]=>rfl
 |n::ns=>by
  have h:=Z5s (i:=i) ns;unfold inV at h ⊢;rw[List.map_cons,List.any_cons,h];show((n==i)||_)=_;by_cases e:n=i
  ·subst e;simp
  ·have e':¬ i=n:=fun z=>e z.symm;simp[e,e']
theorem Z6v (ns:List Int):(ns.map V.int).all Z4s=true:=by
 simp[List.all_map,Z4s]
section
variable {W:Wd}
theorem Zsz {neg:Bool}:OpU W (rIn W.K neg) (uIn neg):=by
 intro Hc H ω u1 u2 x y s p rx ry u e Q k;unfold uIn at e;split at e
 ·rename_i i us
  cases q:Z13 us with
  |none=>rw[q]at e;exact noS e
  |some ns=>
   rw[q]at e;cases e;have:=Z1f q;subst this
   have:=rx.int;subst this
   obtain⟨a,vs,rfl,h1,r1⟩:=ry.lst s;have:=r1.ints;subst this
   refine⟨a,_,rfl,.inl (.of h1),rfl,Z6v ns,?_⟩;rw[Z5s];exact k _ Hc H (Ext.refl s) p .bl
 ·rename_i i us
  cases q:Z13 us with
  |none=>rw[q]at e;exact noS e
  |some ns=>
   rw[q]at e;cases e;have:=Z1f q;subst this
   have:=rx.int;subst this
   obtain⟨a,vs,rfl,h1,r1⟩:=ry.tup;have:=r1.ints;subst this
   refine⟨a,_,rfl,.inr (.of (s _ _ h1)),rfl,Z6v ns,?_⟩;rw[Z5s];exact k _ Hc H (Ext.refl s) p .bl
 ·cases e
end
theorem Zcx {Y:Cx}{K:L2.Fg}(h:Y.K=K):OpR Y (compareOp .NotIn) (rIn K true):=h▸Z6d
section
variable {ι:Type}{X:L2.FC ι}{W:Wd}{m:Md}{E:XK}{a b:Expr}{fa fb:Ef}{pos:Pos}
theorem Z93 (cx:Ctx X W E)(ha:QB X W m E a fa)(hb:QB X W m E b fb)(hm:lastMarks [.NotIn] [b]=false:=by with_unfolding_all rfl):QT X W m E (.Compare a [.NotIn] [b] pos) (tfB (eOp (uIn true) fa fb)):=Z30 (fun y=>Zcx (cx.hK y)) Zsz hm ha hb
end
def Zpr:List V->Hp->VK->Prop:=fun xs H Q=>∃ i j,xs=[.int i,.int j]/\∀ l,H l=none->Q (.ref l) (upd H l (.rng i j))
def Z82:List V->Hp->VK->Prop:=fun xs H Q=>∃ p lo hi,xs=[.ref p]/\H p=some (.rng lo hi)/\hi-lo<=100000/\∀ l,H l=none->Q (.ref l) (upd H l (.lst ((List.range (hi-lo).toNat).map fun i:Nat=>V.int (lo+i))))
section
variable {X:Cx}
theorem Zcy:Z10 X (.type "range") Zpr:=by
 intro pins s σ H xs us Q I r h;obtain⟨i,j,rfl,q⟩:=h;obtain⟨u,v,rfl,ru,rv⟩:=Znc r;obtain⟨t,rfl⟩:=ru;obtain⟨t',rfl⟩:=rv;refine call_range_2 ⟨.ref s.heap.objs.size,_,I.laid (fun b o e=>Heap.get?_push_of_some _ e) (Nat.le_refl _) (show Z0s X.prog X.w _ _ _ (.rng i j)from⟨_,_,_,Heap.get?_push_size _ rfl⟩),rfl,q _ (I.hok.fresh (Nat.le_refl _))⟩
theorem Z94 {lo:Int}:∀(n:Nat) (k:Nat)(its:List Value),its.length=n->(∀(j:Nat)(v:Value),its[j]?=some v->∃ t,v=Value.int (lo+(k:Nat)+j) t)->Vals ((List.range n).map fun i:Nat=>V.int (lo+(k:Nat)+i)) its
 |0,k,[],_,_=>.nil
 |n+1,k,v::its,hl,h=>by
  rw[List.range_succ_eq_map,List.map_cons,List.map_map];refine .cons (by obtain⟨t,e⟩:=h 0 v rfl;exact⟨t,by rw[e]⟩) ?_;have:=Z94 (lo:=lo) n (k+1) its (by simpa using hl) (fun j w hw=>by
   obtain⟨t,e⟩:=h (j+1) w (by simpa using hw);exact⟨t,by rw[e];congr 1;lia⟩)
  have e:((List.range n).map fun i:Nat=>V.int (lo+((k+1:Nat):Int)+i))=(List.range n).map ((fun i:Nat=>V.int (lo+(k:Nat)+i))∘Nat.succ):=by
   apply List.map_congr_left;intro i ψ;show V.int _=V.int _;congr 1;lia
  rw[<-e];exact this
theorem Z6w (hc:X.calm=true):Z10 X (.type "list") Z82:=by
 intro pins s σ H xs us Q I r h;obtain⟨p,lo,hi,rfl,hp,h3,q⟩:=h;obtain⟨u,rfl,ru⟩:=Z2o r
 cases ru;obtain⟨t,u,v,e⟩:=I.hok p _ hp;have sz:Builtin.Range.rangeSize lo hi 1=(((hi-lo).toNat:Nat):Int):=by rw[rangeSize_one];split<;>lia
 refine Z5r (n:=(hi-lo).toNat) (I.ok.hd hc) e sz (by lia) fun h' tk acc' c' kp e' it=>?_;have hv:=Z94 (lo:=lo) (hi-lo).toNat 0 acc'.toList (by simpa using it.1) (fun j v hv=>by
  obtain⟨t,z⟩:=it.2 j v (by simpa using hv);exact⟨t,by rw[z];congr 1;simp⟩)
 have e0:((List.range (hi-lo).toNat).map fun i:Nat=>V.int (lo+((0:Nat):Int)+i))=(List.range (hi-lo).toNat).map fun i:Nat=>V.int (lo+i):=by
  apply List.map_congr_left;intro i ψ;show V.int _=V.int _;congr 1;lia
 rw[e0]at hv;exact⟨.ref s.heap.objs.size,_,I.laid (t':=tk) kp (Nat.le_refl _) (show Z0s X.prog X.w _ h' _ (.lst _)from⟨Nat.le_trans (by simp;lia) Z21,acc'.toList,c',hv,by simpa using e'⟩),rfl,q _ (I.hok.fresh (Nat.le_refl _))⟩
end
def Z4w:List U->Option U:=fun us=>match us with
 |[.int j]=>if j-0<=100000 then some (.lst (rngU 0 (j-0).toNat))else none
 |[.int i,.int j]=>if j-i<=100000 then some (.lst (rngU i (j-i).toNat))else none
 |_=>none
theorem uRngL_1 {j:Int}(h1:j<=100000):Z4w [.int j]=some (.lst (rngU 0 j.toNat)):=by
 unfold Z4w;simp only;rw[if_pos (by lia)];simp
theorem uRngL_2 {i j:Int}(h4:j-i<=100000):Z4w [.int i,.int j]=some (.lst (rngU i (j-i).toNat)):=by
 unfold Z4w;simp only;rw[if_pos h4]
section
variable {W:Wd}{m:Md}{E:XK}{tr:TA}{fr:Af}
theorem RUs.rngL {H:Hp}{lo:Int}{n:Nat}:RUs W H (rngU lo n) ((List.range n).map fun i:Nat=>V.int (lo+i)):=by
 have e:rngU lo n=((List.range n).map fun i:Nat=>lo+(i:Int)).map U.int:=by rw[rngU,List.map_map];rfl
 have e2:((List.range n).map fun i:Nat=>V.int (lo+(i:Int)))=((List.range n).map fun i:Nat=>lo+(i:Int)).map V.int:=by rw[List.map_map];rfl
 rw[e,e2];exact .ofInts
theorem Zl0 {ω:Om}{Hc H:Hp}{i j:Int}{l:Addr}{Q:VK}(s:Same Hc H)(p:PlOk W ω Hc H)(c:j-i<=100000)(n:H l=none)
  (k:∀ us a vs Hc' H',Ext W Hc H Hc' H'->PlOk W ω Hc' H'->U.lst (rngU i (j-i).toNat)=.lst us->Hc' a=none->H a=none->H' a=some (.lst vs)->RUs W Hc' us vs->Q (.ref a) H'):Z82 [.ref l] (upd H l (.rng i j)) Q:=by
 refine⟨l,i,j,rfl,Z05,c,fun l2 n2=>?_⟩;have x1:=Z0v (o:=.rng i j) s p n;have x2:=Z0v (o:=.lst ((List.range (j-i).toNat).map fun k:Nat=>V.int (i+k))) x1.1.sub x1.2 n2;have nl:H l2=none:=by
  by_cases z:l2=l
  ·rw[z];exact n
  ·rw[Z06 z]at n2;exact n2
 exact k _ l2 _ Hc _ (x1.1.trans x2.1) x2.2 rfl (s.free nl) nl Z05 RUs.rngL
theorem Zfw (hr:DA W m E [true,true] tr fr):DF W m E (tCB Z82 (Z4r (tCB Zpr tr) tNil)) (eB Z4w fr):=by
 intro H0 ρ ω σ Hc H ow S Q h;refine hr H0 ρ ω σ Hc H ow S _ ((Aft.bnd h).imp fun us ω1 Hc1 H1 e1 p1 h1 xs rs=>?_);revert h1
 have l:=rs.len.2;match us,l,rs with
 |[u,u'],_,rs=>
  obtain⟨v,v',rfl,rv,rv'⟩:=rs.two
  cases u with
  |int i=>
   cases u' with
   |int j=>
    have:=rv.int;subst this
    have:=rv'.int;subst this
    by_cases c:j-i<=100000
    ·rw[show Z4w [U.int i,U.int j]=some (U.lst (rngU i (j-i).toNat))from if_pos c];refine fun h1=>⟨i,j,rfl,fun l n=>?_⟩
     exact Zl0 e1.sub p1 c n fun us a vs Hc' H' e p q1 q2 q3 q4 q5=>h1 Hc' H' e p us a vs q1 q2 (e1.frz' q3) q4 q5
    ·rw[show Z4w [U.int i,U.int j]=none from if_neg c];exact fun h1=>h1.elim
   |_=>exact fun h1=>h1.elim
  |_=>exact fun h1=>h1.elim
end
section
variable {ι:Type}{X:L2.FC ι}{W:Wd}{m:Md}{E:XK}{a b:Expr}{fr:Af}{pos p p2 pos2:Pos}
theorem Zcz (cx:Ctx X W E)(B:Bl W.mg)(ha:QA X W m E [true,true] [a,b] fr)(hg:∀ y,Gl (X y) "list" := by intro ψ;rfl)(hg2:∀ y,Gl (X y) "range" := by intro ψ;rfl)(hs:∀ y,starEach [a,b] (X y).env=(false,eval a (X y).env)::starEach [b] (X y).env:=by intro ψ;rfl)(hp:∀ y,(backTo pos2 (starEach [b] (X y).env)).any (·.1)=false:=by intro ψ;rfl)
  (hs':∀ y,starEach [.Call (.Name "range" p2) [a,b] [] pos2] (X y).env=(false,eval (.Call (.Name "range" p2) [a,b] [] pos2) (X y).env)::starEach [] (X y).env:=by intro ψ;rfl)(hp':∀ y,(backTo pos (starEach [] (X y).env)).any (·.1)=false:=by intro ψ;rfl) :
  QF X W m E (.Call (.Name "list" p) [.Call (.Name "range" p2) [a,b] [] pos2] [] pos) (eB Z4w fr):=
 let ⟨_, pa, da⟩ := ha; ⟨_, fun y => Z26 (Z6w (cx.calm y)) (hg y) ((congrFun (cx.hm y) _).trans B.list) boot_list (Z2p (Z26 Zcy (hg2 y) ((congrFun (cx.hm y) _).trans B.range) boot_range (pa y) (by decide) (by decide) (hs y) (hp y)) Z4z (hs' y)) (by decide) (by decide) (hs' y) (hp' y), Zfw da⟩
end
structure PlW (W:Wd):Prop where
 mem:W.pa∈W.L
 out:∀ ω H,W.pl ω H->∃ sc,H W.pa=some (.lst (.ref sc::ω.rs.map V.int))/\SqL W.K H sc (ω.cs.map V.int)
 inn:∀ ω H sc rs,W.pl ω H->H W.pa=some (.lst (.ref sc::ω.rs.map V.int))->W.pl ⟨ω.cs,rs⟩ (upd H W.pa (.lst (.ref sc::rs.map V.int)))
open Classical in
def Hr (L:List Addr)(H:Hp):Hp:=fun b=>if b∈L then H b else none
theorem Zd0 {L:List Addr}{H:Hp}:Same (Hr L H) H:=fun b o h=>by
 unfold Hr at h;by_cases c:b∈L
 ·rw[if_pos c]at h;exact h
 ·rw[if_neg c]at h;cases h
def wdP (K:L2.Fg)(mg:L2.SV)(pa:Addr)(L:List Addr):Wd where
 K:=K
 mg:=mg
 pa:=pa
 L:=L
 pl:=fun ω H=>pa∈L/\∃ sc,H pa=some (.lst (.ref sc::ω.rs.map V.int))/\SqL K (Hr L H) sc (ω.cs.map V.int)
 st:=fun ω H H' h k=>by
  obtain⟨m,sc,e,q⟩:=h;refine⟨m,sc,k _ _ e (.inl m),Same.seq (fun b o hb=>?_) q⟩;unfold Hr at hb ⊢;by_cases c:b∈L
  ·rw[if_pos c]at hb ⊢;exact k _ _ hb (.inl c)
  ·rw[if_neg c]at hb;cases hb
theorem Zps {K:L2.Fg}{mg:L2.SV}{pa:Addr}{L:List Addr}(h:pa∈L):PlW (wdP K mg pa L):=by
 refine⟨h,fun ω H p=>?_,fun ω H sc rs p e=>?_⟩
 ·obtain⟨_,sc,e,q⟩:=p;exact⟨sc,e,Zd0.seq q⟩
 ·obtain⟨m,sc',e',q⟩:=p;have e0:H pa=some (.lst (.ref sc::ω.rs.map V.int)):=e;rw[e']at e0;have z:sc'=sc:=by injection e0 with z1;injection z1 with z2;injection z2 with z3;injection z3
  subst z;refine⟨m,sc',Z05,?_⟩;rcases q with q|q
  ·refine .inl ?_;have key:∀ o,Hr L H sc'=some o->(∃ xs:List Int,o=.lst (xs.map V.int))\/(∃ ob u,o=.frz ob u)->Hr L (upd H pa (.lst (.ref sc'::rs.map V.int))) sc'=some o:=fun o ho hk=>by
    have hh:=Zd0 _ _ ho;have ne:sc'≠pa:=fun z=>by
     rw[z,e']at hh;injection hh with hh;rcases hk with ⟨xs,rfl⟩|⟨ob,u,rfl⟩
     ·injection hh with hh
      cases xs with
      |nil=>cases hh
      |cons x xs=>rw[List.map_cons]at hh;injection hh with h1 h2;cases h1
     ·cases hh
    unfold Hr at ho ⊢;by_cases c:sc'∈L
    ·rw[if_pos c]at ho ⊢;rw[Z06 ne];exact ho
    ·rw[if_neg c]at ho;cases ho
   rcases q with q|⟨o,q⟩
   ·exact .inl (key _ q (.inl ⟨_,rfl⟩))
   ·exact .inr ⟨o,key _ q (.inr ⟨_,_,rfl⟩)⟩
  ·exact .inr q
def ePl (i k:Nat):Ef:=fun ρ ω=>match ρ[i]? with
 |some (some .pile)=>.of ((ω.rs[k]?).map U.int) ω
 |_=>.stk
def Z6x (i:Nat):Ef:=fun ρ ω=>match ρ[i]? with
 |some (some .pile)=>.ok (.int ω.cs.length) ω
 |_=>.stk
def Zd1 (i k:Nat):Ef:=fun ρ ω=>match ρ[i]? with
 |some (some .pile)=>match ω.rs[k]? with
  |some n=>.of ((atI ω.cs n).map U.int) ω
  |none=>.stk
 |_=>.stk
def sPl (i k:Nat)(fa:Ef):Sf:=fun ρ ω=>Fl.of (fa ρ ω) fun u ω1=>match ρ[i]? with
 |some (some .pile)=>match u with
  |.int n=>if k<ω1.rs.length then .nx ρ ⟨ω1.cs,ω1.rs.set k n⟩else .stk
  |_=>.stk
 |_=>.stk
section
variable {W:Wd}{m:Md}{E:XK}{i k:Nat}{ta:TE}{fa:Ef}{ρ:En}{ω:Om}{σ:St}{H0 Hc0 Hc H:Hp}{ow:Nat->Addr}
theorem Sr.pile (S:Sr W m ρ ω σ H0 Hc H ow)(h:ρ[i]?=some (some .pile)):σ[i]?=some (some (.ref W.pa)):=by
 obtain⟨v,q,r⟩:=S.get h;rw[q,r.pile]
theorem Z95 {α:Type}{x:α}{xs:List α}{k:Nat}{y:α}(h:xs[k]?=some y):atI (x::xs) ((k+1:Nat):Int)=some y:=by
 rw[Z1r];simpa using h
theorem Zt0 (w:PlW W):DE W m E (tOp (rIxA W.K) (tVar i) (tC (.int ((k+1:Nat):Int)))) (ePl i k):=by
 intro H0 ρ ω σ Hc H ow S Q h;unfold ePl at h;split at h
 ·rename_i e
  cases q:ω.rs[k]? with
  |none=>rw[q]at h;exact h.elim
  |some n=>
   rw[q]at h;obtain⟨sc,h1,h2⟩:=w.out _ _ S.pl.pl;refine⟨_,S.pile e,.inl ⟨W.pa,_,_,.int n,rfl,rfl,.of h1,Z95 (by rw[List.getElem?_map,q];rfl),?_⟩⟩;exact h Hc H (Ext.refl S.sub) S.pl _ .int
 ·exact h.elim
theorem Zfx (w:PlW W):DE W m E (tCB (rLen W.K) (Z4r (tOp (rIxA W.K) (tVar i) (tC (.int 0))) tNil)) (Z6x i):=by
 intro H0 ρ ω σ Hc H ow S Q h;unfold Z6x at h;split at h
 ·rename_i e
  obtain⟨sc,h1,h2⟩:=w.out _ _ S.pl.pl;refine⟨_,S.pile e,.inl ⟨W.pa,_,_,.ref sc,rfl,rfl,.of h1,by rw[atI_zero];rfl,?_⟩⟩;refine⟨sc,_,rfl,.inl h2,?_⟩;rw[List.length_map];exact h Hc H (Ext.refl S.sub) S.pl _ .int
 ·exact h.elim
theorem Zt1 {ns:List Int}{k n:Int}(h:atI ns k=some n):atI (ns.map V.int) k=some (.int n):=by
 rw[Zky,h];rfl
theorem Zl1 (w:PlW W):DE W m E (tOp (rIxA W.K) (tOp (rIxA W.K) (tVar i) (tC (.int 0))) (tOp (rIxA W.K) (tVar i) (tC (.int ((k+1:Nat):Int))))) (Zd1 i k):=by
 intro H0 ρ ω σ Hc H ow S Q h;unfold Zd1 at h;split at h
 ·rename_i e
  split at h
  ·rename_i n q
   cases q2:atI ω.cs n with
   |none=>rw[q2]at h;exact h.elim
   |some c=>
    rw[q2]at h;obtain⟨sc,h1,h2⟩:=w.out _ _ S.pl.pl;refine⟨_,S.pile e,.inl ⟨W.pa,_,_,.ref sc,rfl,rfl,.of h1,by rw[atI_zero];rfl,?_⟩⟩;refine⟨_,S.pile e,.inl ⟨W.pa,_,_,.int n,rfl,rfl,.of h1,Z95 (by rw[List.getElem?_map,q];rfl),?_⟩⟩;refine .inl ⟨sc,_,_,.int c,rfl,rfl,h2,Zt1 q2,?_⟩;exact h Hc H (Ext.refl S.sub) S.pl _ .int
  ·exact h.elim
 ·exact h.elim
theorem Sr.plset {rs:List Int}{sc:Addr}(w:PlW W)(S:Sr W m ρ ω σ H0 Hc H ow)(h:H W.pa=some (.lst (.ref sc::ω.rs.map V.int))):Sr W m ρ ⟨ω.cs,rs⟩ σ H0 Hc (upd H W.pa (.lst (.ref sc::rs.map V.int))) ow:=by
 have nc:Hc W.pa=none:=(S.pl.out _ w.mem).1;refine⟨fun b o hb=>?_,fun b o n hb=>?_,S.p0,S.len,⟨w.inn _ _ _ _ S.pl.pl h,fun b hb=>⟨(S.pl.out b hb).1,?_⟩⟩,S.cl,S.bo,fun j u n hj=>?_,S.di⟩
 ·rw[Z06 (fun z=>by rw[z,nc]at hb;cases hb)];exact S.sub b o hb
 ·rw[Z06 (fun z=>n (by rw[z];exact w.mem))];exact S.s0 b o n hb
 ·by_cases z:b=W.pa
  ·rw[z,Z05];simp
  ·rw[Z06 z];exact(S.pl.out b hb).2
 ·obtain⟨o1,z2,z3,z4,z5,z6⟩:=S.mu j u n hj;exact⟨o1,z2,by rw[Z06 (fun z=>S.nl z5 (by rw[z];exact w.mem))];exact z3,z4,z5,z6⟩
theorem Ext.plset {o:HO}(w:PlW W)(nc:Hc W.pa=none)(x:Ext W Hc0 H0 Hc H):Ext W Hc0 H0 Hc (upd H W.pa o):=by
 refine⟨fun b u n hb=>?_,x.sc,fun b u hb=>?_,x.new,fun b hb=>?_⟩
 ·rw[Z06 (fun z=>n (by rw[z];exact w.mem))];exact x.same b u n hb
 ·rw[Z06 (fun z=>by rw[z,nc]at hb;cases hb)];exact x.sub b u hb
 ·by_cases z:b=W.pa
  ·rw[z,Z05];simp
  ·rw[Z06 z];exact x.frz b hb
theorem Zt2 (w:PlW W)(ha:DE W m E ta fa):DS W m E (tAsg ta (gSub (tVar i) (tC (.int ((k+1:Nat):Int))) Zjm)) (sPl i k fa):=by
 intro H0 Hc0 ρ ω σ Hc H ow S x D h;refine ha H0 ρ ω σ Hc H ow S _ ((Cont.of x h).imp fun u ω1 Hc1 H1 e1 p1 k1 v rv=>?_);have S1:=S.ext e1 p1;have x1:=x.trans e1;revert k1
 split
 ·rename_i e
  split
  ·rename_i n
   split
   ·rename_i lt
    intro k1;rw[RU]at rv;subst rv;obtain⟨sc,h1,h2⟩:=w.out _ _ p1.pl;refine⟨_,S1.pile e,W.pa,_,_,k+1,rfl,rfl,h1,?_,?_⟩
    ·unfold ixN;rw[if_pos (by lia),if_pos (by simp;lia)];simp
    ·have e2:((V.ref sc::ω1.rs.map V.int).set (k+1) (V.int n))=V.ref sc::(ω1.rs.set k n).map V.int:=by simp[List.map_set]
     rw[e2];exact k1 _ Hc1 _ ow (S1.plset w h1) (Ext.plset w (p1.out _ w.mem).1 x1)
   ·exact fun k1=>k1.elim
  ·exact fun k1=>k1.elim
 ·exact fun k1=>k1.elim
end
section
variable {ι:Type}{X:L2.FC ι}{W:Wd}{m:Md}{E:XK}{a:Expr}{fa:Ef}{pos p p2 p3 p4 p5 pos2 pos3 tp:Pos}{x:Str}{j j2:Nat}
theorem Z4c (i k:Nat){kk:Int}(w:PlW W)(cx:Ctx X W E)(hk:kk=((k+1:Nat):Int):=by rfl)(hN:∀ y,(X y).N[i]?=some x:=by intro ψ;rfl)(hv:∀ y,Vis (X y).env.scope x:=by intro ψ;first|exact Or.inl rfl|exact Or.inr (Or.inl rfl)|exact Or.inr (Or.inr rfl))(hd:(x==("__debug__" : Str))=false:=by decide)(hcd:(x==("__classdict__" : Str))=false:=by decide)
  (hs:Z2q (.Constant (.int kk) j p2):=by exact fun ψ ψ=>rfl):QE X W m E (.Subscript (.Name x p) (.Constant (.int kk) j p2) pos) (ePl i k):=by
 subst hk;exact⟨_,fun y=>Za6 (Z3b (cx.hK y)) (Z1w (hN y) (hv y) hd hcd) Z4x hs,Zt0 w⟩
theorem Zfy (i:Nat)(w:PlW W)(cx:Ctx X W E)(B:Bl W.mg)(hN:∀ y,(X y).N[i]?=some x:=by intro ψ;rfl)(hv:∀ y,Vis (X y).env.scope x:=by intro ψ;first|exact Or.inl rfl|exact Or.inr (Or.inl rfl)|exact Or.inr (Or.inr rfl))(hd:(x==("__debug__" : Str))=false:=by decide)(hcd:(x==("__classdict__" : Str))=false:=by decide)
  (hi:Z2q (.Constant (.int 0) j p2):=by exact fun ψ ψ=>rfl)(hg:∀ y,Gl (X y) "len" := by intro ψ;rfl)(hs:∀ y,starEach [.Subscript (.Name x p) (.Constant (.int 0) j p2) pos2] (X y).env=(false,eval (.Subscript (.Name x p) (.Constant (.int 0) j p2) pos2) (X y).env)::starEach [] (X y).env:=by intro ψ;rfl)(hp:∀ y,(backTo pos (starEach [] (X y).env)).any (·.1)=false:=by intro ψ;rfl) :
  QE X W m E (.Call (.Name "len" p3) [.Subscript (.Name x p) (.Constant (.int 0) j p2) pos2] [] pos) (Z6x i):=
 ⟨_,fun y=>Z3y (Z6n (cx.hK y)) (hg y) ((congrFun (cx.hm y) _).trans B.len) boot_len (Z2p (Za6 (Z3b (cx.hK y)) (Z1w (hN y) (hv y) hd hcd) Z4x hi) Z4z (hs y)) (by decide) (by decide) (hs y) (hp y),Zfx w⟩
theorem Zl2 (i k:Nat){kk:Int}(w:PlW W)(cx:Ctx X W E)(hk:kk=((k+1:Nat):Int):=by rfl)(hN:∀ y,(X y).N[i]?=some x:=by intro ψ;rfl)(hv:∀ y,Vis (X y).env.scope x:=by intro ψ;first|exact Or.inl rfl|exact Or.inr (Or.inl rfl)|exact Or.inr (Or.inr rfl))(hd:(x==("__debug__" : Str))=false:=by decide)(hcd:(x==("__classdict__" : Str))=false:=by decide)
  (hi:Z2q (.Constant (.int 0) j p2):=by exact fun ψ ψ=>rfl)(hi2:Z2q (.Constant (.int kk) j2 p5):=by exact fun ψ ψ=>rfl)(hi3:Z2q (.Subscript (.Name x p4) (.Constant (.int kk) j2 p5) pos3):=by exact fun ψ ψ=>rfl) :
  QE X W m E (.Subscript (.Subscript (.Name x p) (.Constant (.int 0) j p2) pos2) (.Subscript (.Name x p4) (.Constant (.int kk) j2 p5) pos3) pos) (Zd1 i k):=by
 subst hk;exact⟨_,fun y=>Za6 (Z3b (cx.hK y)) (Za6 (Z3b (cx.hK y)) (Z1w (hN y) (hv y) hd hcd) Z4x hi) (Za6 (Z3b (cx.hK y)) (Z1w (hN y) (hv y) hd hcd) Z4x hi2) hi3,Zl1 w⟩
theorem Zah (i k:Nat){kk:Int}(w:PlW W)(ha:QE X W m E a fa)(hk:kk=((k+1:Nat):Int):=by rfl)(hN:∀ y,(X y).N[i]?=some x:=by intro ψ;rfl)(hv:∀ y,Vis (X y).env.scope x:=by intro ψ;first|exact Or.inl rfl|exact Or.inr (Or.inl rfl)|exact Or.inr (Or.inr rfl))(hd:(x==("__debug__" : Str))=false:=by decide)(hcd:(x==("__classdict__" : Str))=false:=by decide)
  (hs:∀ y,swapsWithSole [.Subscript (.Name x p) (.Constant (.int kk) j p2) tp] a pos.line (X y).env=pure false:=by intro ψ;rfl)(hw:∀ y,swappedStores [.Subscript (.Name x p) (.Constant (.int kk) j p2) tp] a (X y).env=pure none:=by intro ψ;rfl)(h1:∀ y,(assignEach [.Subscript (.Name x p) (.Constant (.int kk) j p2) tp] (X y).env).map (·.2)=[assign (.Subscript (.Name x p) (.Constant (.int kk) j p2) tp) (X y).env]:=by intro ψ;rfl)
  (hq:∀ y v,assign (.Subscript (.Name x p) (.Constant (.int kk) j p2) tp) (X y).env v=(do
   let ov <- holding [v] (eval (.Name x p) (X y).env)
   let iv <- holding [v, ov] (eval (.Constant (.int kk) j p2) (X y).env)
   standAt tp
   holding [v,ov,iv] (setItem ov iv v)
   release [v,ov,iv] []):=by intro ψ ψ;rfl):QS X W m E (.Assign [.Subscript (.Name x p) (.Constant (.int kk) j p2) tp] a pos) (sPl i k fa):=by
 subst hk;exact let ⟨_,pa,da⟩:=ha;⟨_,fun y=>Z8o (pa y) (Zbh (Z1w (hN y) (hv y) hd hcd) Z4x Z8t (hq y)) (hs y) (hw y) (h1 y),Zt2 w da⟩
end
section
variable {P:Program}{w:World}{K:L2.Fg}{mg:L2.SV}{base:Heap}
theorem Fun.okP {x qual:Str}{st s1:Stmt}{rest:List Stmt}{f:Addr}{fd:FuncData}{N:List Str}{sn:Str}{k:Nat}{m:Md}{g:Sf}{Fp:Ff}{cells:List Int}(F:Fun K x qual st f fd)(S:Z0f N [sn] (Z02 st))(hb:Z0e st=s1::rest)(hN:2<=N.length)(h1M:1∉m.M)
  (hpr:∀ (cdv:Value)(A:Around)(outer:List Env)(s:Shared)(H:Hp)(E:XK),Room k (A.deeper (envOfC qual (Z02 st) s.heap.objs.size f cdv))->A.handled=none ->
   QS (defX P w K mg base N qual (Z02 st) f cdv A outer s H E) (wd0 K mg) ⟨[],[]⟩ E s1 (sSet 1 (Z0b Fp (Z01 (eVar 0) aNil))))
  (hbody:∀ (cdv:Value)(A:Around)(outer:List Env)(s:Shared)(H:Hp)(E:XK)(W:Wd),W.K=K->W.mg=mg->PlW W->Room k (A.deeper (envOfC qual (Z02 st) s.heap.objs.size f cdv))->A.handled=none ->
   QK (defX P w K mg base N qual (Z02 st) f cdv A outer s H E) W m E rest g)
  (hFp:∀ ns ω,Fp [.scr ns] ω=.ok (.lst (.scr ns::cells.map U.int)) ω)
  (hlaw:∀ ns:List Int,ns.length<=63->∃ ω',endF (g (none::some .pile::List.replicate (N.length-2) none) ⟨ns,cells⟩)=.ok (.bl true) ω') :
  FnOk P w K mg base (CX1 P w) (k+1) f fd [sn] (Zag K):=by
 refine F.okX S (fun vs H Q E h=>?_) fun cdv A outer s H vs Q E hr hA hsp=>?_
 ·obtain⟨sc,ns,rfl,_⟩:=h;rfl
 ·obtain⟨sc,ns,rfl,hs,hl,kq⟩:=hsp;obtain⟨t1,p1,d1⟩:=hpr cdv A outer s H E hr hA;have rs0:RBs (wd0 K mg) H H [false] [.scr ns] [.ref sc]:=⟨by rw[RU];exact⟨sc,rfl,hs⟩,trivial⟩
  have S0:=Sr.start (m:=⟨[],[]⟩) (N:=N) (ω:=⟨[],[]⟩) (fun ψ ψ h=>h:Same H H) ⟨trivial,fun b hb=>absurd hb (by simp[wd0])⟩ rs0 (fun i h=>by
   match i,h with
   |0,h=>cases h
   | i+1,h=>simp at h) (fun i h=>by simp at h) (by simp;lia)
  refine⟨tSeq t1 (fun D σ H'=>∃ t,PSs (cxOf (CX1 P w) P w K mg base N qual (Z02 st) f cdv A outer s H E) rest t/\t D σ H'),?_,?_⟩
  ·rw[hb];exact Z5g (p1 ()) fun pins s σ H D I ⟨t,p,h⟩=>p pins s σ H D I h
  ·refine d1 H H _ ⟨[],[]⟩ _ H H _ S0 (Ext.refl fun ψ ψ h=>h) _ ?_;have e0:sSet 1 (Z0b Fp (Z01 (eVar 0) aNil)) ([U.scr ns].map some++List.replicate (N.length - [U.scr ns].length) none) ⟨[],[]⟩=.nx (some (.scr ns)::some (.lst (.scr ns::cells.map U.int))::List.replicate (N.length-2) none) ⟨[],[]⟩:=by
    obtain⟨n,hn⟩: ∃ n,N.length=n+2:=⟨N.length-2,by lia⟩
    rw[hn];show Fl.of ((Res.ok [U.scr ns] ⟨[],[]⟩).bnd Fp) _=_;rw[Res.bnd_ok,hFp];simp[Fl.of,List.replicate_succ]
   rw[e0];intro σ' Hc' H' ow' S1 x1;obtain⟨v,q1,r1⟩:=S1.cl 1 _ (by simp) (by simp) rfl;rw[RU]at r1;obtain⟨a,vs,rfl,ha,r2⟩:=r1;rw[RUs]at r2;obtain⟨v2,vr,rfl,r3,r4⟩:=r2;rw[RU]at r3;obtain⟨sc',rfl,hsc⟩:=r3;have:=r4.ints;subst this
   have ha':=S1.sub _ _ ha;have hsc':SqL K H' sc' (ns.map V.int):=S1.sub.seq hsc;obtain⟨L,aL,okL,scL⟩: ∃ L:List Addr,a∈L/\(∀ b∈L,H' b≠none)/\(H' sc'≠none->sc'∈L):=by
    by_cases z:H' sc'=none
    ·exact⟨[a],by simp,fun b hb=>by rw[List.mem_singleton.mp hb,ha'];simp,fun h=>absurd z h⟩
    ·refine⟨[a,sc'],by simp,fun b hb=>?_,fun ψ=>by simp⟩;rcases List.mem_cons.mp hb with h|h
     ·rw[h,ha'];simp
     ·rw[List.mem_singleton.mp h];exact z
   have pw:=Zps (K:=K) (mg:=mg) aL;obtain⟨t2,p2,d2⟩:=hbody cdv A outer s H E (wdP K mg a L) rfl rfl pw hr hA;have hpl:(wdP K mg a L).pl ⟨ns,cells⟩ H':=by
    refine⟨aL,sc',ha',?_⟩;have key:∀ o,H' sc'=some o->Hr L H' sc'=some o:=fun o ho=>by
     unfold Hr;rw[if_pos (scL (by rw[ho];simp))];exact ho
    rcases hsc' with (q|⟨o,q⟩)|q
    ·exact .inl (.inl (key _ q))
    ·exact .inl (.inr ⟨o,key _ q⟩)
    ·exact .inr q
   have len':σ'.length=N.length:=by
    have:=S1.len
    rw[<-this];simp;lia
   obtain⟨ω',hw⟩:=hlaw ns hl;have cl0:∀(j:Nat)(u:U),(none::some U.pile::List.replicate (N.length-2) none:En)[j]?=some (some u)->j=1/\u=.pile:=fun j u hj=>by
    match j,hj with
    |0,hj=>simp at hj
    |1,hj=>simp at hj;exact⟨rfl,hj.symm⟩
    |j+2,hj=>
     simp only[List.getElem?_cons_succ]at hj;rw[List.getElem?_replicate]at hj;split at hj<;>cases hj
   refine⟨t2,p2 (),d2 H' (fun ψ=>none) (none::some .pile::List.replicate (N.length-2) none) ⟨ns,cells⟩ σ' (fun ψ=>none) H' (fun ψ=>0) ?_ ?_ _ ?_⟩
   ·refine⟨fun b o h=>(by cases h),fun b o ψ h=>h,fun b hb=>okL b hb,by rw[len'];simp;lia,⟨hpl,fun b hb=>⟨rfl,okL b hb⟩⟩,fun j u ψ ψ hj=>?_,fun j u ψ ψ hj=>?_,fun j u hm hj=>?_,fun i j u u' hi hj ne h1 h2=>?_⟩
    ·obtain⟨rfl,rfl⟩:=cl0 j u hj;exact⟨_,q1,by rw[RU];rfl⟩
    ·obtain⟨rfl,rfl⟩:=cl0 j u hj;exact⟨_,q1,.inl (by rw[RU];rfl)⟩
    ·obtain⟨rfl,rfl⟩:=cl0 j u hj;exact absurd hm h1M
    ·obtain⟨rfl,rfl⟩:=cl0 i u h1;exact absurd hi h1M
   ·exact Ext.refl fun b o h=>(by cases h)
   ·revert hw
    cases g (none::some .pile::List.replicate (N.length-2) none) ⟨ns,cells⟩with
    |rt u ω2=>
     intro hw v Hc2 H2 ψ ψ rv;have:u=.bl true:=by simp at hw;exact hw.1
     subst this;rw[RU]at rv;subst rv;exact kq H2
    |nx ρ2 ω2=>intro hw;simp at hw
    |err c p ω2=>intro hw;simp at hw
    |bk ρ2 ω2=>intro hw;cases hw
    |ct ρ2 ω2=>intro hw;cases hw
    |stk=>intro hw;cases hw
theorem Zfz {k:Nat}{f:Addr}{fd:FuncData}{ps:List Str}(G:FnOk P w K mg base (CX1 P w) k f fd ps (Zag K)):FnOk P w K mg base CX0 k f fd ps (Zag K):=(Zkz G).imp fun ψ ψ ψ ψ q=>q
end
section
variable {i k:Nat}{fa:Ef}{ρ:En}{ω:Om}
theorem ePl_ap:ePl i k ρ ω=match ρ[i]? with
 |some (some .pile)=>.of ((ω.rs[k]?).map U.int) ω
 |_=>.stk:=rfl
theorem ePlLen_ap:Z6x i ρ ω=match ρ[i]? with
 |some (some .pile)=>.ok (.int ω.cs.length) ω
 |_=>.stk:=rfl
theorem ePlAt_ap:Zd1 i k ρ ω=match ρ[i]? with
 |some (some .pile)=>match ω.rs[k]? with
  |some n=>.of ((atI ω.cs n).map U.int) ω
  |none=>.stk
 |_=>.stk:=rfl
theorem sPl_ap:sPl i k fa ρ ω=Fl.of (fa ρ ω) fun u ω1=>match ρ[i]? with
 |some (some .pile)=>match u with
  |.int n=>if k<ω1.rs.length then .nx ρ ⟨ω1.cs,ω1.rs.set k n⟩else .stk
  |_=>.stk
 |_=>.stk:=rfl
theorem Zg0 {neg:Bool}{x:Int}{ns:List Int}:uIn neg (.int x) (.lst (ns.map U.int))=some (.bl (if neg then !decide (x∈ns)else decide (x∈ns))):=by
 unfold uIn;simp only;rw[Z14];rfl
end
end L2
set_option maxHeartbeats 1000000
namespace L2
open PySem PySem.Spec PyProof.Rows
def Zg1:List U->Option U:=fun us=>match us with
 |[.int j]=>if j-0<=100000 then some (.tup (rngU 0 (j-0).toNat))else none
 |[.int i,.int j]=>if j-i<=100000 then some (.tup (rngU i (j-i).toNat))else none
 |_=>none
theorem uRngT_1 {j:Int}(h1:j<=100000):Zg1 [.int j]=some (.tup (rngU 0 j.toNat)):=by
 unfold Zg1;simp only;rw[if_pos (by lia)];simp
theorem uRngT_2 {i j:Int}(h4:j-i<=100000):Zg1 [.int i,.int j]=some (.tup (rngU i (j-i).toNat)):=by
 unfold Zg1;simp only;rw[if_pos h4]
def Z4d (i j:Nat)(fa:Ef):Sf:=fun ρ ω=>match ρ[i]? with
 |some (some (.lst us))=>match ρ[j]? with
  |some (some (.lst ws))=>Fl.of (fa ρ ω) fun u ω1=>match u with
   |.int k=>match ws[k.toNat]? with
    |some w=>if 0<=k/\us.length<sizeLine/\ws.length<=sizeLine then .nx ((ρ.set j (some (.lst (ws.eraseIdx k.toNat)))).set i (some (.lst (us++[w])))) ω1 else .stk
    |none=>.stk
   |_=>.stk
  |_=>.stk
 |_=>.stk
section
variable {W:Wd}{m:Md}{E:XK}{i j:Nat}{ta:TE}{fa:Ef}
theorem RUs.erase {H:Hp}:∀{us:List U}{vs:List V} (n:Nat),RUs W H us vs->RUs W H (us.eraseIdx n) (vs.eraseIdx n)
 |[],_,_,h=>by rw[RUs]at h;subst h;exact .nil
 |_::us,_,0,h=>by rw[RUs]at h;obtain⟨v,r,e,q,z⟩:=h;subst e;exact z
 |_::us,_,n+1,h=>by rw[RUs]at h;obtain⟨v,r,e,q,z⟩:=h;subst e;exact .cons q (z.erase n)
theorem Zd2 {K:L2.Fg}(hi:i∈m.M)(hj:j∈m.M)(ne:i≠j)(ha:DB W m E ta fa):DS W m E (Z7s (tBM K "list" Z7v (tVar i) (Z4r (tBM K "list" Zhj (tVar j) (Z4r ta tNil)) tNil))) (Z4d i j fa):=by
 intro H0 Hc0 ρ ω σ Hc H ow S x D h;unfold Z4d at h;split at h
 ·rename_i us ei
  split at h
  ·rename_i ws ej
   obtain⟨us0,vs0,z1,z2,z3,z4,z5,z6⟩:=S.muL i _ hi ei
   cases z1;obtain⟨ws0,xs0,y1,y2,y3,y4,y5,y6⟩:=S.muL j _ hj ej
   cases y1;refine⟨_,z2,.inl ⟨rfl,vs0,.of z3⟩,_,y2,.inl ⟨rfl,xs0,.of y3⟩,ha H0 ρ ω σ Hc H ow S _ ((Cont.of x h).imp fun u ω1 Hc1 H1 e1 p1 k v rv=>?_)⟩;revert k
   split
   ·rename_i n
    split
    ·rename_i w hw
     split
     ·rename_i c
      intro k;have:=rv.int;subst this
      have S1:=S.ext e1 p1;have lw:n.toNat<ws.length:=(List.getElem?_eq_some_iff.mp hw).1;have lx:xs0.length=ws.length:=y6.len.symm;obtain⟨y,hy,ry⟩:=(y6.mono e1.sc).at (i:=0) hw;have sl:sizeLine=16777216:=sizeLine_eq;refine⟨ow j,xs0,n,n.toNat,y,rfl,rfl,e1.same _ _ (S.nl y5) y3,by lia,by lia,seqIndex_of c.1 (by lia),hy,?_⟩;have nd:=S.di i j _ _ hi hj ne ei ej;refine⟨ow i,vs0,y,rfl,rfl,by rw[Z06 nd];exact e1.same _ _ (S.nl z5) z3,by rw[<-z6.len];exact c.2.1,?_⟩;have S2:=S1.mut hj ej ((y6.mono e1.sc).erase n.toNat);have ei2:(ρ.set j (some (.lst (ws.eraseIdx n.toNat))))[i]?=some (some (.lst us)):=by rw[List.getElem?_set_ne (Ne.symm ne)];exact ei
      exact k _ Hc1 _ ow (S2.mut hi ei2 ((z6.mono e1.sc).app (.one ry))) (S2.mutE hi ei2 (S1.mutE hj ej (x.trans e1)))
     ·exact fun k=>k.elim
    ·exact fun k=>k.elim
   ·exact fun k=>k.elim
  ·exact h.elim
 ·exact h.elim
end
theorem Zpt {Y:Cx}{K:L2.Fg}{s:Stmt}{T T':String}{r r':V->List V->Hp->VK->Prop}{to to':TE}{t':TA}(h:Y.K=K)(q:PS Y s (Z7s (tBM Y.K T r to (Z4r (tBM Y.K T' r' to' t') tNil)))):PS Y s (Z7s (tBM K T r to (Z4r (tBM K T' r' to' t') tNil))):=h▸q
section
variable {ι:Type}{X:L2.FC ι}{W:Wd}{m:Md}{E:XK}{a:Expr}{fa:Ef}{pos p p2:Pos}{x x2:Str}
theorem Zd3 {apos cpos apos2 cpos2:Pos}(i j:Nat)(cx:Ctx X W E)(ha:QB X W m E a fa)(h2:i∈m.M:=by decide)(h3:j∈m.M:=by decide)(hij:i≠j:=by decide)(hN:∀ y,(X y).N[i]?=some x:=by intro ψ;rfl)(hN2:∀ y,(X y).N[j]?=some x2:=by intro ψ;rfl)(hv:∀ y,Vis (X y).env.scope x:=by intro ψ;first|exact Or.inl rfl|exact Or.inr (Or.inl rfl)|exact Or.inr (Or.inr rfl))(hv2:∀ y,Vis (X y).env.scope x2:=by intro ψ;first|exact Or.inl rfl|exact Or.inr (Or.inl rfl)|exact Or.inr (Or.inr rfl))
  (hd:(x==("__debug__" : Str))=false:=by decide)(hcd:(x==("__classdict__" : Str))=false:=by decide)(hd2:(x2==("__debug__" : Str))=false:=by decide)(hcd2:(x2==("__classdict__" : Str))=false:=by decide)
  (hline:(apos.endLine==cpos.line)=true:=by rfl)(hline2:(apos2.endLine==cpos2.line)=true:=by rfl)(hst2:∀ y,starEach [a] (X y).env=(false,eval a (X y).env)::starEach [] (X y).env:=by intro ψ;rfl)(hp2:∀ y,(backTo cpos2 (starEach [] (X y).env)).any (·.1)=false:=by intro ψ;rfl)
  (hst:∀ y,starEach [.Call (.Attribute (.Name x2 p2) "pop" apos2) [a] [] cpos2] (X y).env=(false,eval (.Call (.Attribute (.Name x2 p2) "pop" apos2) [a] [] cpos2) (X y).env)::starEach [] (X y).env:=by intro ψ;rfl)(hp:∀ y,(backTo cpos (starEach [] (X y).env)).any (·.1)=false:=by intro ψ;rfl)
  (hbase:∀ y,attributeBase (.Name x p) "append" (X y).env (eval (.Name x p) (X y).env)=eval (.Name x p) (X y).env:=by intro ψ;rfl)
  (hbase2:∀ y,attributeBase (.Name x2 p2) "pop" (X y).env (eval (.Name x2 p2) (X y).env)=eval (.Name x2 p2) (X y).env:=by intro ψ;rfl)
  (hfew:∀ y,((backTo cpos (starEach [.Call (.Attribute (.Name x2 p2) "pop" apos2) [a] [] cpos2] (X y).env)).all (fun x =>!x.1)&&(backToKw cpos (keywordEach [] (X y).env)).all (fun x=>x.1.isSome)&&decide (([.Call (.Attribute (.Name x2 p2) "pop" apos2) [a] [] cpos2]:List Expr).length+([]:List Keyword).length+(if ([]:List Keyword).isEmpty then 0 else 1)<30))=true:=by intro ψ;rfl)
  (hfew2:∀ y,((backTo cpos2 (starEach [a] (X y).env)).all (fun x =>!x.1)&&(backToKw cpos2 (keywordEach [] (X y).env)).all (fun x=>x.1.isSome)&&decide (([a]:List Expr).length+([]:List Keyword).length+(if ([]:List Keyword).isEmpty then 0 else 1)<30))=true:=by intro ψ;rfl)
  (hs:∀ y,swapsWith (.Call (.Attribute (.Name x p) "append" apos) [.Call (.Attribute (.Name x2 p2) "pop" apos2) [a] [] cpos2] [] cpos) none pos.line (X y).env=pure false:=by intro ψ;rfl):QS X W m E (.Expr (.Call (.Attribute (.Name x p) "append" apos) [.Call (.Attribute (.Name x2 p2) "pop" apos2) [a] [] cpos2] [] cpos) pos) (Z4d i j fa):=
 let ⟨_, pa, da⟩ := ha; ⟨_, fun y => Zpt (cx.hK y) (Zbg (Zjo PySem.F.plainAttrs_list PySem.F.slot_list_append PySem.F.type_list_append Z6i (Z1w (hN y) (hv y) hd hcd) (Z2p (Zjo PySem.F.plainAttrs_list PySem.F.slot_list_pop PySem.F.type_list_pop Zfb (Z1w (hN2 y) (hv2 y) hd2 hcd2) (Z2p (pa y) Z4z (hst2 y)) (hbase2 y) (hfew2 y) hline2 (hst2 y) (hp2 y)) Z4z (hst y)) (hbase y) (hfew y) hline (hst y) (hp y)) (hs y)), Zd2 h2 h3 hij da⟩
end
theorem Zai {prog:Program}{w:World}{A:Around}{E:L2.VSP}{s:Shared}{Q:L2.VSP}{it:Addr}{T:String}{o:Obj}{items:Array Value}{n:Nat}{ns:List Int}
  (hT:T = "list" \/ T = "tuple")(ho:s.heap.get? it=some o)(hc:o.cls=Value.type T)(hd:o.data=Data.seq items n)(hI:IntsAre items.toList ns)(h64:items.toList.length<64)
  (h:∀ (h1 h2:Heap)(out:Array Value)(ns':List Int) (e:Nat),(∀ (b:Addr)(o':Obj),s.heap.get? b=some o'->h1.get? b=some o')->(∀ (b:Addr)(o':Obj),h1.get? b=some o'->h2.get? b=some o')->h2.get? h1.objs.size=some (seqObj "list" out e) ->
   IntsAre out.toList ns'->ns'.Perm ns->List.Pairwise (fun x1 x2=>x1<=x2) ns'->Q (Value.ref h1.objs.size) { heap:=h2,gens:=s.gens,drawn:=s.drawn,toks:=s.toks,os:=s.os }) :
  wpAny (model prog w) A (call (Value.builtin "sorted") [Value.ref it]) Q E s:=by
 refine Calls.call_function_entry kind_sorted plain_sorted entry_sorted (args_sorted1 _) ?_;have h64':items.size<64:=by simpa using h64
 refine wpAny_bind (wpAny_pure (wpAny_bind (wpAny_collect_seq it hT ho hc hd (fun h1 kp=>?_) (by rw[sizeLine_eq];lia))));refine wpAny_bind (wpAny_newList ?_ (by rw[sizeLine_eq];lia));have hoL:(h1.push (seqObj "list" items.toList.toArray 0)).get? h1.objs.size=some (seqObj "list" items.toList.toArray 0):=Heap.get?_push_size _ rfl;refine wpAny_bind (wpAny_holding (wpAny_call_entry slot_list_sort ⟨_,hoL,rfl⟩ entry_list_sort (list_sort_tree (s:={ heap:=h1.push (seqObj "list" items.toList.toArray 0),gens:=s.gens,drawn:=s.drawn,toks:=s.toks,os:=s.os }) hoL hI h64 fun out ns' a1 a2 a3=>⟨.none,rfl,wpAny_pure ⟨_,rfl,?_⟩⟩) (args_list_sort _)));obtain⟨e,he⟩:=sortedHeap_at (out:=out) hoL;refine h h1 _ out ns' e kp (fun b o' hb=>?_) he a1 a2 a3;have lt:=Heap.lt_size hb;refine(sortedHeap_old (Nat.ne_of_lt lt) ?_).trans (Heap.get?_push_of_some _ hb);rw[Heap.size_push];exact Nat.lt_succ_of_lt lt
theorem Z4e:∀{a b:List Int},a.Perm b->a.Pairwise (· <= ·)->b.Pairwise (· <= ·)->a=b
 |[],b,p,_,_=>by rw[List.nil_perm.mp p]
 |x::a,[],p,_,_=>absurd p.length_eq (by simp)
 |x::a,y::b,p,ha,hb=>by
  have hx:=List.pairwise_cons.mp ha;have hy:=List.pairwise_cons.mp hb;have e:x=y:=by
   have m1:x∈y::b:=p.mem_iff.mp (by simp);have m2:y∈x::a:=p.mem_iff.mpr (by simp);rcases List.mem_cons.mp m1 with h|h
   ·exact h
   ·rcases List.mem_cons.mp m2 with h'|h'
    ·exact h'.symm
    ·exact Int.le_antisymm (hx.1 y h') (hy.1 x h)
  subst e;rw[Z4e ((List.perm_cons x).mp p) hx.2 hy.2]
def ins (x:Int):List Int->List Int
 |[]=>[x]
 |y::ys=>if x<=y then x::y::ys else y::ins x ys
def srt:List Int->List Int
 |[]=>[]
 |x::xs=>ins x (srt xs)
theorem Z5t (x:Int):∀ ys:List Int,(ins x ys).Perm (x::ys)
 |[]=>.refl _
 |y::ys=>by
  unfold ins;split
  ·exact .refl _
  ·exact((Z5t x ys).cons y).trans (.swap x y ys)
theorem Z1s:∀ xs:List Int,(srt xs).Perm xs
 |[]=>.refl _
 |x::xs=>(Z5t x _).trans ((Z1s xs).cons x)
theorem Zhv (x:Int):∀ ys:List Int,ys.Pairwise (· <= ·)->(ins x ys).Pairwise (· <= ·)
 |[],_=>by simp[ins]
 |y::ys,h=>by
  have hy:=List.pairwise_cons.mp h;unfold ins;split
  ·rename_i c
   refine List.pairwise_cons.mpr ⟨fun z hz=>?_,h⟩;rcases List.mem_cons.mp hz with e|e
   ·rw[e];exact c
   ·exact Int.le_trans c (hy.1 z e)
  ·rename_i c
   refine List.pairwise_cons.mpr ⟨fun z hz=>?_,Zhv x ys hy.2⟩;rcases List.mem_cons.mp ((Z5t x ys).mem_iff.mp hz)with e|e
   ·rw[e];lia
   ·exact hy.1 z e
theorem Zd4:∀ xs:List Int,(srt xs).Pairwise (· <= ·)
 |[]=>.nil
 |x::xs=>Zhv x _ (Zd4 xs)
theorem Zhw {a b:List Int}(p:a.Perm b)(h:a.Pairwise (· <= ·)):a=srt b:=Z4e (p.trans (Z1s b).symm) h (Zd4 b)
def Z5u (K:L2.Fg):List V->Hp->VK->Prop:=fun xs H Q=>∃(p:Addr)(ns:List Int),xs=[.ref p]/\(SqL K H p (ns.map V.int)\/SqT K H p (ns.map V.int))/\ns.length<64/\∀ l,H l=none->Q (.ref l) (upd H l (.lst ((srt ns).map V.int)))
theorem Z1t:∀{vs:List Value}{ns:List Int},IntsAre vs ns->Vals (ns.map V.int) vs
 |_,_,.nil=>.nil
 |_,_,.cons n t h=>.cons ⟨t,rfl⟩ (Z1t h)
theorem Z83 {X:Cx}:Z10 X (.builtin "sorted") (Z5u X.K):=by
 intro pins s σ H xs us Q I r h;obtain⟨p,ns,rfl,hq,hl,q⟩:=h;obtain⟨u,rfl,rx⟩:=Z2o r
 cases rx;have key:∀(its:List Value)(T:String)(o:Obj) (n:Nat),Vals (ns.map V.int) its->(T = "list" \/ T = "tuple")->s.heap.get? p=some o->o.cls=Value.type T->o.data=Data.seq its.toArray n->wpAny (model X.prog X.w) X.A (call (.builtin "sorted") [.ref p]) (EP X pins σ Q) X.xe s:=fun its T o n r' hT ho hc hd=>by
  have hi:=Za5 r';have hlen:=r'.length;refine Zai hT ho hc hd (by simpa using hi) (by simp at hlen ⊢;lia) fun h1 h2 out ns' e kp1 kp2 he a1 a2 a3=>?_;have es:=Zhw a2 a3;subst es;have I1:Inv X pins σ H { s with heap:=h1 }:=I.kept (t':=s.toks) kp1;have I2:=I1.laid (t':=s.toks) (a:=h1.objs.size) (o:=.lst ((srt ns).map V.int)) (h':=h2) kp2 (Nat.le_refl _)
   (show Z0s X.prog X.w _ h2 _ (.lst _)from⟨by
    rw[List.length_map,(Z1s ns).length_eq,sizeLine_eq];lia,out.toList,e,Z1t a1,by simpa[seqObj]using he⟩)
  exact⟨.ref h1.objs.size,_,I2,rfl,q _ (I1.hok.fresh (Nat.le_refl _))⟩
 rcases hq with hq|hq
 ·obtain⟨its,r',pl,hz⟩:=I.list hq;obtain⟨o,ho,hc,n,hd⟩:=pl.isList;exact key its "list" o n r' (.inl rfl) ho hc hd
 ·obtain⟨its,r',pl,hz⟩:=I.tuple hq;obtain⟨o,ho,hc,n,hd⟩:=pl;exact key its "tuple" o n r' (.inr rfl) ho hc hd
theorem Z6y {Y:Cx}{K:L2.Fg}(h:Y.K=K):Z10 Y (.builtin "sorted") (Z5u K):=h▸Z83
def Z29:List U->Option U
 |[.lst us]=>(Z13 us).bind fun ns=>if ns.length<64 then some (.lst ((srt ns).map U.int))else none
 |[.tup us]=>(Z13 us).bind fun ns=>if ns.length<64 then some (.lst ((srt ns).map U.int))else none
 |_=>none
theorem uSorted_l {ns:List Int}(h:ns.length<64):Z29 [.lst (ns.map U.int)]=some (.lst ((srt ns).map U.int)):=by
 unfold Z29;simp only;rw[Z14];exact if_pos h
theorem uSorted_t {ns:List Int}(h:ns.length<64):Z29 [.tup (ns.map U.int)]=some (.lst ((srt ns).map U.int)):=by
 unfold Z29;simp only;rw[Z14];exact if_pos h
section
variable {W:Wd}
theorem Zd5:Za9 W [true] (Z5u W.K) Z29:=by
 intro Hc H ω us vs s p rs u e Q k;have fin:∀(a:Addr)(ns:List Int),(SqL W.K H a (ns.map V.int)\/SqT W.K H a (ns.map V.int))->((if ns.length<64 then some (U.lst ((srt ns).map U.int))else none)=some u)->Z5u W.K [.ref a] H Q:=fun a ns hq hu=>by
  by_cases c:ns.length<64
  ·rw[if_pos c]at hu;cases hu;exact⟨a,ns,rfl,hq,c,fun l n=>k _ _ _ _ _ (Z0v s p n).1 (Z0v s p n).2 rfl (s.free n) n Z05 .ofInts⟩
  ·rw[if_neg c]at hu;cases hu
 unfold Z29 at e;split at e
 ·rename_i us
  obtain⟨v,rfl,rv⟩:=rs.one;obtain⟨a,vs,rfl,h1,r1⟩:=rv.lst s
  cases q:Z13 us with
  |none=>rw[q]at e;exact noS e
  |some ns=>
   rw[q]at e;have:=Z1f q;subst this
   have:=r1.ints;subst this
   exact fin a ns (.inl (.of h1)) e
 ·rename_i us
  obtain⟨v,rfl,rv⟩:=rs.one;obtain⟨a,vs,rfl,h1,r1⟩:=rv.tup
  cases q:Z13 us with
  |none=>rw[q]at e;exact noS e
  |some ns=>
   rw[q]at e;have:=Z1f q;subst this
   have:=r1.ints;subst this
   exact fin a ns (.inr (.of (s _ _ h1))) e
 ·cases e
end
section
variable {ι:Type}{X:L2.FC ι}{W:Wd}{m:Md}{E:XK}{a:Expr}{fa:Ef}{pos p:Pos}
theorem Zd6 (cx:Ctx X W E)(B:Bl W.mg)(ha:QB X W m E a fa)(hg:∀ y,Gl (X y) "sorted" := by intro ψ;rfl)(hs:∀ y,starEach [a] (X y).env=(false,eval a (X y).env)::starEach [] (X y).env:=by intro ψ;rfl)(hp:∀ y,(backTo pos (starEach [] (X y).env)).any (·.1)=false:=by intro ψ;rfl):QF X W m E (.Call (.Name "sorted" p) [a] [] pos) (eB Z29 (Z01 fa aNil)):=
 let ⟨_, pa, da⟩ := qa_b ha Z04 hs; ⟨_, fun y => Z3y (Z6y (cx.hK y)) (hg y) ((congrFun (cx.hm y) _).trans B.sorted) boot_sorted (pa y) (by decide) (by decide) (hs y) (hp y), Zkb Zd5 da⟩
end
theorem Z56 {prog:Program}{w:World}{A:Around}{E:L2.VSP}{I:Addr}{fp wr:List Addr}{n:Nat}{P:Nat->Value->Prop}{St:Nat->Heap->Prop}(W:Walks prog w A I fp wr n P St):∀(k i:Nat)(s:Shared)(Q:List Value->Shared->Prop),i+k<=n->St i s.heap ->
  (∀(vs:List Value)(h':Heap) (tk:Nat),vs.length=k->(∀(j:Nat)(v:Value),vs[j]?=some v->P (i+j) v)->St (i+k) h'->(∀(b:Addr)(o:Obj),b∉wr->s.heap.get? b=some o->h'.get? b=some o)->Q vs { heap:=h',gens:=s.gens,drawn:=s.drawn,toks:=tk,os:=s.os }) ->
  wpAny (model prog w) A (draw (.ref I) k) Q E s
 |0,i,s,Q,_,hs,h=>by
  rw[draw.eq_1];exact wpAny_pure (h [] s.heap s.toks rfl (fun j v hv=>by simp at hv) hs fun b o ψ e=>e)
 |k+1,i,s,Q,hk,hs,h=>by
  rw[draw.eq_2];refine wpAny_bind (W.item i s _ _ (by lia) hs fun v h1 tk hp hs1 kp=>?_);refine wpAny_bind (wpAny_holding (Z56 W k (i+1) _ _ (by lia) hs1 fun vs h2 tk2 hl hv hs2 kp2=>wpAny_pure ?_));refine h (v::vs) h2 tk2 (by simp[hl]) (fun j x hx=>?_) (by rw[show i+(k+1)=i+1+k by lia];exact hs2) fun b o hb e=>kp2 b o hb (kp b o hb e)
  cases j with
  |zero=>simp at hx;subst hx;exact hp
  |succ j=>have:=hv j x (by simpa using hx);rw[show i+(j+1)=i+1+j by lia];exact this
theorem Z3w {prog:Program}{w:World}{A:Around}{E:L2.VSP}{s:Shared}{l:Addr}{items:Array Value}{Q:List Value->Shared->Prop}(hh:A.handled=none)(hl:s.heap.IsList l items)
  (h:∀(h':Heap) (tk:Nat),(∀(b:Addr)(o:Obj),s.heap.get? b=some o->h'.get? b=some o)->Q items.toList { heap:=h',gens:=s.gens,drawn:=s.drawn,toks:=tk,os:=s.os }) :
  wpAny (model prog w) A (unpackItems (.ref l) items.size none) Q E s:=by
 obtain⟨o,ho,hc,n,hd⟩:=id hl;have ty:s.TypeIs (.ref l) "list" := ⟨o,ho,hc⟩
 unfold unpackItems;refine wpAny_bind ?_;unfold notIterableAtAll;refine wpAny_bind (wpAny_specialOf ty slot_list_iter.lookup (wpAny_pure ?_));simp only[Bool.false_eq_true,if_false];refine wpAny_bind (wpAny_holding (wpAny_pyIter_list hl ?_));have ne:l≠s.heap.objs.size:=Nat.ne_of_lt (Heap.lt_size ho);have W:=Walks.list (prog:=prog) (w:=w) (A:=A) hh s.heap.objs.size l ne items;refine wpAny_bind (wpAny_holding (Z56 W items.size 0 _ _ (by lia) ⟨?_,?_⟩ fun vs h1 tk1 hl1 hv hs1 kp1=>?_))
 ·exact⟨_,Heap.get?_push_size _ rfl,rfl,rfl⟩
 ·exact⟨o,Heap.get?_push_of_some _ ho,hc,n,hd⟩
 ·have ev:vs=items.toList:=by
   apply List.ext_getElem?;intro j;by_cases c:j<vs.length
   ·have:=hv j vs[j] (by simp[c])
    rw[Nat.zero_add]at this;rw[List.getElem?_eq_getElem c,Array.getElem?_toList,this]
   ·rw[List.getElem?_eq_none (by lia),List.getElem?_eq_none (by simp;lia)]
  subst ev;rw[if_neg (by simp)];refine wpAny_bind (wpAny_holding (W.done _ _ _ (by simpa using hs1) fun h2 tk2 kp2=>?_));simp only[Option.isSome_none,Bool.false_eq_true,if_false];refine wpAny_pure (h h2 tk2 fun b o' e=>?_);have lb:b∉[s.heap.objs.size]:=fun z=>Nat.ne_of_lt (Heap.lt_size e) (List.mem_singleton.mp z);exact kp2 b o' lb (kp1 b o' lb (Heap.get?_push_of_some _ e))
def gLst (K:L2.Fg) (n:Nat)(t:TGs):TG:=fun v σ H Q=>∃ a xs,v=.ref a/\SqL K H a xs/\xs.length=n/\t xs σ H Q
theorem Zpu {X:Cx}{K:L2.Fg}{es:List Expr}{k:Nat}{t:TGs}{n:Nat}{pos:Pos}(hK:X.K=K)(hc:X.calm=true)(h:PGs X es t)(hn:(assignEach es X.env).length=n:=by rfl)(hst:(assignEach es X.env).findIdx? (·.1)=none:=by rfl):PG X (.Tuple es k pos) (gLst K n t):=by
 subst hK;intro pins s σ H v u Q I r hw;obtain⟨a,xs,e1,hq,hl,hw⟩:=hw;subst e1
 cases r;obtain⟨its,rv,pl,hz⟩:=I.list hq;have hlen:=rv.length;rw[PyProof.Rows.assign_Tuple];refine wpAny_bind (wpAny_standAt ?_);unfold unpack;rw[hst,show(assignEach es X.env).length=its.toArray.size by simp[hn,<-hl,hlen]];refine wpAny_bind (wpAny_holding (Z3w (I.ok.hd hc) pl.isList fun h' tk kp=>?_));have I1:Inv X pins σ H { s with heap:=h',toks:=tk }:=I.kept kp;exact h pins _ σ H xs _ Q I1 (by simpa using rv) hw
def aLst (n:Nat)(b:List U->En->Option En):U->En->Option En:=fun u ρ=>match u with
 |.lst us=>if us.length=n then b us ρ else none
 |_=>none
theorem aLst_ap {n:Nat}{b:List U->En->Option En}{us:List U}{ρ:En}:aLst n b (.lst us) ρ=if us.length=n then b us ρ else none:=rfl
theorem Zpv {W:Wd}{m:Md}{n:Nat}{K:L2.Fg}{gg:TGs}{b:List U->En->Option En}(h2:DGs W m gg b):DG W m (gLst K n gg) (aLst n b):=fun H0 ρ ω σ Hc H ow u v ρ' S r e Q k=>by
 unfold aLst at e;split at e
 ·split at e
  ·rw[RU]at r;obtain⟨a,vs,rfl,h1,r1⟩:=r;exact⟨a,vs,rfl,.of (S.sub _ _ h1),by rw[<-r1.len];assumption,h2 H0 ρ ω σ Hc H ow _ vs ρ' S r1 e Q k⟩
  ·cases e
 ·cases e
section
variable {ι:Type}{X:L2.FC ι}{W:Wd}{m:Md}{E:XK}{es:List Expr}{pos:Pos}
theorem Zpw {n k:Nat}{v:List U->En->Option En}(cx:Ctx X W E)(h2:QGs X W m es v)(hn:∀ y,(assignEach es (X y).env).length=n:=by intro ψ;rfl)(hst:∀ y,(assignEach es (X y).env).findIdx? (·.1)=none:=by intro ψ;rfl):QG X W m (.Tuple es k pos) (aLst n v):=
 let ⟨_, p2, d2⟩ := h2; ⟨_, fun y => Zpu (cx.hK y) (cx.calm y) (p2 y) (hn y) (hst y), Zpv d2⟩
end
abbrev TY:=Ends->XK->St->Hp->Prop
def excG (e C:Addr)(od:Option Addr):HO:=.ext fun h=>∃ o,h.get? e=some o/\o.cls=.ref C/\o.dict=od/\PySem.W.notCls o=true
def Zl3 (W:Wd)(m:Md)(E:XK)(Hc0 H0 Hc H:Hp)(D:Ends)(r:Fl):Prop:=match r with
 |.err c pl ω'=>∀ C od Hc' H',Ext W Hc H Hc' H'->PlOk W ω' Hc' H'->W.mg c=some (.ref C)->XR Hc' pl od->E (.ref C) od H'
 |.nx ρ' ω'=>Cont W m E Hc0 H0 D (.nx ρ' ω')
 |.bk ρ' ω'=>Cont W m E Hc0 H0 D (.bk ρ' ω')
 |.ct ρ' ω'=>Cont W m E Hc0 H0 D (.ct ρ' ω')
 |.rt u ω'=>Cont W m E Hc0 H0 D (.rt u ω')
 |.stk=>False
section
variable {W:Wd}{m:Md}{E:XK}
theorem Zl3.ext {Hc0 H0 Hc H Hc1 H1:Hp}{D:Ends}{r:Fl}(e:Ext W Hc H Hc1 H1)(h:Zl3 W m E Hc0 H0 Hc H D r):Zl3 W m E Hc0 H0 Hc1 H1 D r:=by
 cases r with
 |err c pl ω=>exact fun C od Hc' H' e'=>h C od Hc' H' (e.trans e')
 |_=>exact h
end
def ExIn (H:Hp)(e C:Addr):Prop:=∃ od,H e=some (excG e C od)/\∀ d,od=some d->H d≠none
def tbl {α:Type} [DecidableEq α]:List (Str×α×Bool)->Str->α->Option Bool
 |[],_,_=>none
 |(c',b',r)::l,c,b=>if c'=c/\b'=b then some r else tbl l c b
def XN (K:L2.Fg)(mg:L2.SV):List (Str×Str×Bool)->Prop
 |[]=>True
 |(c,b,r)::l=>(∃ C B,mg c=some (.ref C)/\mg b=some (.ref B)/\ExcK K C/\PySem.W.kitOne K (.ref C) (.ref B)=some r)/\XN K mg l
def XT (K:L2.Fg)(mg:L2.SV):List (Str×String×Bool)->Prop
 |[]=>True
 |(c,b,r)::l=>(∃ C,mg c=some (.ref C)/\ExcK K C/\PySem.W.kitOne K (.ref C) (.type b)=some r)/\XT K mg l
theorem XN.of {K:L2.Fg}{mg:L2.SV}:∀{l:List (Str×Str×Bool)}{c b:Str}{r:Bool},XN K mg l->tbl l c b=some r->∃ C B,mg c=some (.ref C)/\mg b=some (.ref B)/\ExcK K C/\PySem.W.kitOne K (.ref C) (.ref B)=some r
 |[],_,_,_,_,e=>by cases e
 |(c',b',r')::l,c,b,r,h,e=>by
  unfold tbl at e;split at e
  ·rename_i z;cases e;obtain⟨rfl,rfl⟩:=z;exact h.1
  ·exact XN.of h.2 e
theorem XT.of {K:L2.Fg}{mg:L2.SV}:∀{l:List (Str×String×Bool)}{c:Str}{b:String}{r:Bool},XT K mg l->tbl l c b=some r->∃ C,mg c=some (.ref C)/\ExcK K C/\PySem.W.kitOne K (.ref C) (.type b)=some r
 |[],_,_,_,_,e=>by cases e
 |(c',b',r')::l,c,b,r,h,e=>by
  unfold tbl at e;split at e
  ·rename_i z;cases e;obtain⟨rfl,rfl⟩:=z;exact h.1
  ·exact XT.of h.2 e
section
variable {W:Wd}
theorem RB.exc {Hc H:Hp}{c:Str}{pl:Option Int}{v:V}(s:Same Hc H)(h:RB W Hc H (.exc c pl) v):∃ e C,v=.ref e/\W.mg c=some (.ref C)/\ExIn H e C:=by
 rcases h with h|⟨_,_,_,_,_,e⟩
 ·cases pl with
  |none=>rw[RU]at h;obtain⟨a,C,rfl,hm,q⟩:=h;exact⟨a,C,rfl,hm,none,s _ _ q,fun d z=>by cases z⟩
  |some n=>rw[RU]at h;obtain⟨a,C,d,rfl,hm,q,q2⟩:=h;exact⟨a,C,rfl,hm,some d,s _ _ q,fun d' z=>by cases z;rw[s _ _ q2];simp⟩
 ·cases e
end
structure Ctw {ι:Type}(X:L2.FC ι)(W:Wd):Prop where
 hK:∀ x,(X x).K=W.K
 hm:∀ x,(X x).mg=W.mg
section
variable {ι:Type}{X:L2.FC ι}{W:Wd}{E:XK}
theorem Ctx.w (cx:Ctx X W E):Ctw X W:=⟨cx.hK,cx.hm⟩
theorem Ctx.nox (cx:Ctx X W E):Ctx (fun y=>(X y).nox) W E0:=⟨cx.hK,cx.hm,cx.calm,cx.hu,fun ψ ψ ψ ψ ψ ψ ψ ψ h=>by obtain⟨_,_,_,_,_,_,_,_,_,_,q⟩:=h;exact q.elim⟩
end
def XC (K:L2.Fg)(mg:L2.SV)(B:Addr):List Str->Prop
 |[]=>True
 |c::l=>(∃ C,mg c=some (.ref C)/\PySem.W.exmOne K (.ref C) (.ref B)=some true)/\XC K mg B l
theorem XC.of {K:L2.Fg}{mg:L2.SV}{B:Addr}:∀{l:List Str},XC K mg B l->∀ c∈l,∀ C,mg c=some (.ref C)->PySem.W.exmOne K (.ref C) (.ref B)=some true
 |[],_,c,hc,_,_=>by cases hc
 |d::l,h,c,hc,C,hm=>by
  rcases List.mem_cons.mp hc with rfl|hc
  ·obtain⟨C',hm',k⟩:=h.1;rw[hm]at hm';cases hm';exact k
  ·exact XC.of h.2 c hc C hm
theorem Z1c {ns:List Int}{k:Int}(h0:0<=k)(h1:k<ns.length):atI (ns.map U.int) k=some (.int (ns.getD k.toNat 0)):=by
 obtain⟨n,rfl⟩: ∃ n:Nat,k=n:=⟨k.toNat,by lia⟩
 have l:n<ns.length:=by lia
 rw[Z1r,List.getElem?_map,List.getElem?_eq_getElem l];simp[List.getD,l]
section
variable {a b c d e f g h i j:Int}{k:Int}
theorem atI_i2 (h0:0<=k)(h1:k<2):atI [U.int a,.int b] k=some (.int (([a,b]:List Int).getD k.toNat 0)):=Z1c (ns:=[a,b]) h0 h1
theorem atI_i3 (h0:0<=k)(h1:k<3):atI [U.int a,.int b,.int c] k=some (.int (([a,b,c]:List Int).getD k.toNat 0)):=Z1c (ns:=[a,b,c]) h0 h1
theorem atI_i4 (h0:0<=k)(h1:k<4):atI [U.int a,.int b,.int c,.int d] k=some (.int (([a,b,c,d]:List Int).getD k.toNat 0)):=Z1c (ns:=[a,b,c,d]) h0 h1
theorem atI_i5 (h0:0<=k)(h1:k<5):atI [U.int a,.int b,.int c,.int d,.int e] k=some (.int (([a,b,c,d,e]:List Int).getD k.toNat 0)):=Z1c (ns:=[a,b,c,d,e]) h0 h1
theorem atI_i6 (h0:0<=k)(h1:k<6):atI [U.int a,.int b,.int c,.int d,.int e,.int f] k=some (.int (([a,b,c,d,e,f]:List Int).getD k.toNat 0)):=Z1c (ns:=[a,b,c,d,e,f]) h0 h1
theorem atI_i7 (h0:0<=k)(h1:k<7):atI [U.int a,.int b,.int c,.int d,.int e,.int f,.int g] k=some (.int (([a,b,c,d,e,f,g]:List Int).getD k.toNat 0)):=Z1c (ns:=[a,b,c,d,e,f,g]) h0 h1
theorem atI_i8 (h0:0<=k)(h1:k<8):atI [U.int a,.int b,.int c,.int d,.int e,.int f,.int g,.int h] k=some (.int (([a,b,c,d,e,f,g,h]:List Int).getD k.toNat 0)):=Z1c (ns:=[a,b,c,d,e,f,g,h]) h0 h1
theorem atI_i10 (h0:0<=k)(h1:k<10):atI [U.int a,.int b,.int c,.int d,.int e,.int f,.int g,.int h,.int i,.int j] k=some (.int (([a,b,c,d,e,f,g,h,i,j]:List Int).getD k.toNat 0)):=Z1c (ns:=[a,b,c,d,e,f,g,h,i,j]) h0 h1
end
theorem Zt3 {n:Nat}{k:Int}(h0:0<=k)(h1:k<n):ixN n k=some k.toNat:=by
 unfold ixN;rw[if_pos h0,if_pos (by lia)]
theorem Zg2 {us:List U}{k:Int}(h0:0<=k):cutG us (some k) none=us.drop k.toNat:=by
 obtain⟨t,rfl⟩: ∃ n:Nat,k=n:=⟨k.toNat,by lia⟩
 unfold cutG;have e1:HT.sIx us.length 0 (some (t:Int))=min t us.length:=HT.sIx_nat _ _ _;have e2:HT.sIx us.length us.length none=us.length:=rfl;rw[e1,e2,Int.toNat_natCast,List.take_of_length_le (by simp)];by_cases h:t<=us.length
 ·rw[Nat.min_eq_left h]
 ·rw[Nat.min_eq_right (by lia),List.drop_length,List.drop_eq_nil_of_le (by lia)]
theorem uRep_t1 {x:U}{k:Int}(h0: -10000<=k)(h1:k<=10000):uRep (.tup [x]) (.int k)=some (.tup (List.replicate k.toNat x)):=by
 show(if -10000<=k/\k<=10000 then some (U.tup (List.replicate k.toNat x))else none)=_;rw[if_pos ⟨h0,h1⟩]
theorem uRep_l1 {x:U}{k:Int}(h0: -10000<=k)(h1:k<=10000):uRep (.lst [x]) (.int k)=some (.lst (List.replicate k.toNat x)):=by
 show(if -10000<=k/\k<=10000 then some (U.lst (List.replicate k.toNat x))else none)=_;rw[if_pos ⟨h0,h1⟩]
structure NdK (K:L2.Fg)(mg:L2.SV)(C S f:Addr):Prop where
 mS:mg "ScaleError" = some (.ref S)
 lk:∃ nm qn N bs sn sub ab col dd k0 k1 k2 k3 k5,K.lookup C=some (excClassObj nm qn C N bs [.ref S,.type "ValueError",.type "Exception",.type "BaseException",.type "object"] true sn sub ab col dd k0 k1 k2 k3 k5 "ValueError.__new__")
 ex:PySem.W.excIn K S [.type "ValueError",.type "Exception",.type "BaseException",.type "object"] "ValueError.__new__" = true
 init:PySem.W.findIn K (.ref C) "__init__" = some (some (.ref f))
 fn:PySem.W.isFn K (.ref f)=true
 sa:PySem.W.findIn K (.ref C) "__setattr__" = some (some (.builtin "object.__setattr__"))
 np:PySem.W.findIn K (.ref C) "place" = some none
 rd:PySem.W.readsIn K S (.type "type")=true
 sg:PySem.W.specialIn K (.ref S) "__getattribute__" = some (some (.builtin "type.__getattribute__"))
 fi:PySem.W.findCls K (.ref S) (.type "type") "__init__" = some (.val (.builtin "ValueError.__init__"))
theorem NdK.elim {K:L2.Fg}{mg:L2.SV}{C S f:Addr}{G:Prop}(n:NdK K mg C S f)(k:∀ nm qn N bs sn sub ab col dd k0 k1 k2 k3 k5,K.lookup C=some (excClassObj nm qn C N bs [.ref S,.type "ValueError",.type "Exception",.type "BaseException",.type "object"] true sn sub ab col dd k0 k1 k2 k3 k5 "ValueError.__new__")->G):G:=by
 obtain⟨nm,qn,N,bs,sn,sub,ab,col,dd,k0,k1,k2,k3,k5,lk⟩:=n.lk;exact k _ _ _ _ _ _ _ _ _ _ _ _ _ _ lk
theorem NdK.tail {K:L2.Fg}{mg:L2.SV}{C S f:Addr}(n:NdK K mg C S f){h:Heap}(KX:K.In h):OwnTail h [.type "ValueError",.type "Exception",.type "BaseException",.type "object"] [.ref S,.type "ValueError",.type "Exception",.type "BaseException",.type "object"]:=by
 have q:=n.ex;obtain⟨bm,Ns,nm,qn,bs,hdct,sn,sub,ab,col,dd,k0,k1,k2,k3,k5,mN,hcl,hns,hni,tl⟩:=Zk0 KX q;exact .own hcl hns hni .base
section
variable {a b:Int}{k:Bool}{us:List U}{ns:List Int}{lo hi:Option Int}{u:U}{ρ:En}{n:Nat}{js:List Nat}{x:Str}{p:Option Int}
theorem asB_r:asB (.bl k)=some k:=rfl
theorem asI_r:asI (.int a)=some (some a):=rfl
theorem asSeq_l:Zfp (.lst us)=some us:=rfl
theorem asSeq_t:Zfp (.tup us)=some us:=rfl
theorem uSub_r:uSub (.int a) (.int b)=some (.int (a-b)):=rfl
theorem uNeg_r:uNeg (.int a)=some (.int (-a)):=rfl
theorem uLt_r:uLt (.int a) (.int b)=some (.bl (decide (a<b))):=rfl
theorem uLe_r:uLe (.int a) (.int b)=some (.bl (decide (a<=b))):=rfl
theorem uGt_r:uGt (.int a) (.int b)=some (.bl (decide (b<a))):=rfl
theorem uGe_r:uGe (.int a) (.int b)=some (.bl (decide (b<=a))):=rfl
theorem uIs_r:uIs k u .non=some (.bl (if k then !Z3c u else Z3c u)):=by cases u<;>rfl
theorem isNon_n:Z3c .non=true:=rfl
theorem isNon_i:Z3c (.int a)=false:=rfl
theorem isNon_b:Z3c (.bl k)=false:=rfl
theorem isNon_t:Z3c (.tup us)=false:=rfl
theorem isNon_l:Z3c (.lst us)=false:=rfl
theorem isNon_s:Z3c (.str x)=false:=rfl
theorem isNon_x:Z3c (.exc x p)=false:=rfl
theorem uLen_l:uLen [.lst us]=some (.int us.length):=rfl
theorem uLen_t:uLen [.tup us]=some (.int us.length):=rfl
theorem uLen_s:uLen [.scr ns]=some (.int ns.length):=rfl
theorem uTuple_l:Z2g [.lst us]=some (.tup us):=rfl
theorem uTuple_t:Z2g [.tup us]=some (.tup us):=rfl
theorem uList_l:Z7y [.lst us]=some (.lst us):=rfl
theorem uList_t:Z7y [.tup us]=some (.lst us):=rfl
theorem uList_s:Z7y [.scr ns]=some (.lst (ns.map U.int)):=rfl
theorem uMax2_r:Zaa [.int a,.int b]=some (.int (max a b)):=rfl
theorem uAbs_r:uAbs [.int a]=some (.int (if a<0 then -a else a)):=rfl
theorem uInt_i:uInt [.int a]=some (.int a):=rfl
theorem uInt_b:uInt [.bl k]=some (.int (if k then 1 else 0)):=rfl
theorem uAddI_r:Zfu (.int a) (.int b)=some (.int (a+b)):=rfl
theorem blkU_r:blkU n js ρ=List.replicate n none++js.map fun j=>(ρ[j]?).getD none:=rfl
theorem uSl_l:uSl (.lst us) lo hi=some (.lst (cutG us lo hi)):=rfl
theorem uSl_t:uSl (.tup us) lo hi=some (.tup (cutG us lo hi)):=rfl
theorem uSlL_l:uSlL (.lst us) lo hi=some (.lst (cutG us lo hi)):=rfl
end
section
variable {κ:Type} [DecidableEq κ]
def valV (kvs:List (κ×V))(k:κ):Option V:=(kvs.find? fun kv=>decide (kv.1=k)).map (·.2)
def putK (kvs:List (κ×V))(k:κ)(v:V):List (κ×V):=
 if (kvs.any fun kv=>decide (kv.1=k))=true then kvs.map (fun kv=>if kv.1=k then (kv.1,v)else kv)else kvs++[(k,v)]
def Zg3 (kvs:List (κ×V))(k:κ):List (κ×V):=kvs.filter fun kv=>decide (kv.1≠k)
theorem Z2c {p:κ×V}{r:List (κ×V)}{k:κ}(e:p.1=k):valV (p::r) k=some p.2:=by simp[valV,List.find?_cons,e]
theorem Z2d {p:κ×V}{r:List (κ×V)}{k:κ}(e:¬ p.1=k):valV (p::r) k=valV r k:=by simp[valV,List.find?_cons,e]
theorem Z96 (k:κ):∀ kvs:List (κ×V),(kvs.any fun kv=>decide (kv.1=k))=(valV kvs k).isSome
 |[]=>rfl
 |p::r=>by
  rw[List.any_cons];by_cases e:p.1=k
  ·simp only[Z2c e,decide_eq_true e,Bool.true_or,Option.isSome_some]
  ·rw[Z2d e,decide_eq_false e,Bool.false_or];exact Z96 k r
theorem Z22 (kvs:List (κ×V))(k:κ)(v:V):(putK kvs k v).length<=kvs.length+1:=by
 unfold putK;split
 ·rw[List.length_map];omega
 ·rw[List.length_append,List.length_cons,List.length_nil];omega
theorem RelO.isSome_eq {o:Option V}{u:Option Value}(r:RelO o u):o.isSome=u.isSome:=by
 cases o with
 |none=>cases u with
  |none=>rfl
  |some _=>exact(show False from r).elim
 |some _=>cases u with
  |none=>exact(show False from r).elim
  |some _=>rfl
theorem RelO.getD {o:Option V}{u:Option Value}{d:V}{d':Value}(r:RelO o u)(rd:RelV d d'):RelV (o.getD d) (u.getD d'):=by
 cases o with
 |none=>cases u with
  |none=>exact rd
  |some _=>exact(show False from r).elim
 |some _=>cases u with
  |none=>exact(show False from r).elim
  |some _=>exact r
theorem KV.val {kvs:List (κ×V)}{vs:List (κ×Value)}(r:KV kvs vs)(k:κ):RelO (valV kvs k) (valueAt vs k):=by
 unfold KV at r;induction r with
 |nil=>exact True.intro
 |@cons p q ps qs h t ih=>
  obtain⟨h1,h2⟩:=h;by_cases e:p.1=k
  ·have e':q.1=k:=h1.symm.trans e;have b:valueAt (q::qs) k=some q.2:=by simp[valueAt,List.find?_cons,e']
   rw[Z2c e,b];exact h2
  ·have e':¬ q.1=k:=fun z=>e (h1.trans z);have b:valueAt (q::qs) k=valueAt qs k:=by simp[valueAt,List.find?_cons,e']
   rw[Z2d e,b];exact ih
theorem KV.any {kvs:List (κ×V)}{vs:List (κ×Value)}(r:KV kvs vs)(k:κ):(kvs.any fun kv=>decide (kv.1=k))=vs.any fun kv=>decide (kv.1=k):=by
 unfold KV at r;induction r with
 |nil=>rfl
 |cons h t ih=>rw[List.any_cons,List.any_cons,ih,h.1]
theorem KV.repl {kvs:List (κ×V)}{vs:List (κ×Value)}(r:KV kvs vs)(k:κ){y:V}{u:Value}(ry:RelV y u) :
  KV (kvs.map fun kv=>if kv.1=k then (kv.1,y)else kv) (vs.map fun kv=>if kv.1=k then (kv.1,u)else kv):=by
 unfold KV at r ⊢;induction r with
 |nil=>exact .nil
 |@cons p q ps qs h t ih=>
  rw[List.map_cons,List.map_cons];refine .cons ?_ ih;obtain⟨h1,h2⟩:=h;by_cases e:p.1=k
  ·rw[if_pos e,if_pos (h1.symm.trans e)];exact⟨h1,ry⟩
  ·rw[if_neg e,if_neg (fun z=>e (h1.trans z))];exact⟨h1,h2⟩
theorem KV.put {kvs:List (κ×V)}{vs:List (κ×Value)}(r:KV kvs vs)(k:κ){y:V}{u:Value}(ry:RelV y u):KV (putK kvs k y) (stored vs k u):=by
 unfold putK stored;rw[r.any k];by_cases e:(vs.any fun kv=>decide (kv.1=k))=true
 ·rw[if_pos e,if_pos e];exact r.repl k ry
 ·rw[if_neg e,if_neg e];exact Paired.snoc r ⟨rfl,ry⟩
theorem KV.drop {kvs:List (κ×V)}{vs:List (κ×Value)}(r:KV kvs vs)(k:κ):KV (Zg3 kvs k) (without vs k):=by
 unfold KV at r ⊢;unfold Zg3 without;induction r with
 |nil=>exact .nil
 |@cons p q ps qs h t ih=>
  obtain⟨h1,h2⟩:=h;rw[List.filter_cons,List.filter_cons];by_cases e:p.1=k
  ·have a:¬ decide (p.1≠k)=true:=by simp[e]
   have b:¬ decide (q.1≠k)=true:=by simp[h1.symm.trans e]
   rw[if_neg a,if_neg b];exact ih
  ·have e':¬ q.1=k:=fun z=>e (h1.trans z);have a:decide (p.1≠k)=true:=by simp[e]
   have b:decide (q.1≠k)=true:=by simp[e']
   rw[if_pos a,if_pos b];exact .cons ⟨h1,h2⟩ ih
theorem KV.keys {kvs:List (κ×V)}{vs:List (κ×Value)}(r:KV kvs vs):kvs.map (·.1)=vs.map (·.1):=by
 unfold KV at r;induction r with
 |nil=>rfl
 |cons h t ih=>rw[List.map_cons,List.map_cons,ih,h.1]
theorem KV.length {kvs:List (κ×V)}{vs:List (κ×Value)}(r:KV kvs vs):kvs.length=vs.length:=Paired.length r
end
theorem Z84 {P:Program}{w:World}{k:Key}{u:Value}(r:RelV (kV k) u):(Z0d P w).is k u=true:=by
 cases k with
 |inl i=>obtain⟨t,e⟩:=(show ∃ t,u=Value.int i t from r);subst e;exact Z7p P w i t
 |inr x=>obtain⟨t,e⟩:=(show ∃ t,u=Value.str x t from r);subst e;exact Z7q P w x t
theorem Z6z {P:Program}{w:World}:∀{ks:List Key}{us:List Value},Vals (ks.map kV) us->ItemsAre (Z0d P w) ks us
 |[],_,r=>by rw[List.map_nil]at r;cases r;exact .nil
 |k::ks,_,r=>by
  rw[List.map_cons]at r
  cases r with
  |cons h t=>exact .cons (Z84 h) (Z6z t)
abbrev KT (H:Hp):List (List Key×V)->List (List Key×Addr×Value)->Prop:=Paired fun p q=>p.1=q.1/\H q.2.1=some (.tup (p.1.map kV))/\RelV p.2 q.2.2
theorem KT.val {H:Hp}{kvs:List (List Key×V)}{xs:List (List Key×Addr×Value)}(r:KT H kvs xs)(k:List Key):RelO (valV kvs k) ((atKey xs k).map (·.2)):=by
 induction r with
 |nil=>exact True.intro
 |@cons p q ps qs h t ih=>
  obtain⟨h1,_,h2⟩:=h;by_cases e:p.1=k
  ·have e':q.1=k:=h1.symm.trans e;have b:atKey (q::qs) k=some q.2:=by simp[atKey,List.find?_cons,e']
   rw[Z2c e,b];exact h2
  ·have e':¬ q.1=k:=fun z=>e (h1.trans z);have b:atKey (q::qs) k=atKey qs k:=by simp[atKey,List.find?_cons,e']
   rw[Z2d e,b];exact ih
theorem KT.repl {H:Hp}{kvs:List (List Key×V)}{xs:List (List Key×Addr×Value)}(r:KT H kvs xs)(k:List Key){y:V}{u:Value}(ry:RelV y u) :
  KT H (kvs.map fun kv=>if kv.1=k then (kv.1,y)else kv) (xs.map (putAt k u)):=by
 induction r with
 |nil=>exact .nil
 |@cons p q ps qs h t ih=>
  rw[List.map_cons,List.map_cons];refine .cons ?_ ih;obtain⟨h1,h2,h3⟩:=h;unfold putAt;by_cases e:p.1=k
  ·rw[if_pos e,if_pos (h1.symm.trans e)];exact⟨h1,h2,ry⟩
  ·rw[if_neg e,if_neg (fun z=>e (h1.trans z))];exact⟨h1,h2,h3⟩
theorem KT.put {H:Hp}{kvs:List (List Key×V)}{xs:List (List Key×Addr×Value)}(r:KT H kvs xs)(k:List Key){b:Addr}{y:V}{u:Value}(hb:H b=some (.tup (k.map kV)))(ry:RelV y u) :
  KT H (putK kvs k y) (storedH xs k b u):=by
 have e:(kvs.any fun kv=>decide (kv.1=k))=(atKey xs k).isSome:=by
  rw[Z96,(r.val k).isSome_eq,Option.isSome_map]
 unfold putK storedH;rw[e];by_cases q:(atKey xs k).isSome=true
 ·rw[if_pos q,if_pos q];exact r.repl k ry
 ·rw[if_neg q,if_neg q];exact Paired.snoc r ⟨rfl,hb,ry⟩
theorem KT.keeps {H H':Hp}{kvs:List (List Key×V)}{xs:List (List Key×Addr×Value)}(r:KT H kvs xs)(ht:∀ b ys,H b=some (.tup ys)->H' b=some (.tup ys)):KT H' kvs xs:=
 Paired.mapP r fun ψ ψ z=>⟨z.1,ht _ _ z.2.1,z.2.2⟩
section
variable {P:Program}{w:World}{H:Hp}{h:Heap}{a:Addr}
theorem Zpx {u:HO}(ok:HOk P w H h)(e:Rd H a u):Z0s P w H h a u:=e.ok ok
theorem Zd7 {kvs:List (Key×V)}(ok:HOk P w H h)(e:Rd H a (.dK kvs)):kvs.length<=sizeLine/\(a==sysModules)=false/\∃ vs,KV kvs vs/\h.DictOf (Z0d P w) a vs:=
 show Z0s P w H h a (.dK kvs)from Zpx ok e
theorem Zpy {kvs:List (Key×V)}(ok:HOk P w H h)(e:H a=some (.dK kvs)):kvs.length<=sizeLine/\(a==sysModules)=false/\∃ vs,KV kvs vs/\h.DictOf (Z0d P w) a vs:=Zd7 ok (.inl e)
theorem Z70 {ks:List Key}(ok:HOk P w H h)(e:H a=some (.tup (ks.map kV))):(tupleKind (Z0d P w)).is h ks a:=by
 obtain⟨_,its,r,o,h1,h2,n,h3⟩:=(show Z0s P w H h a (.tup (ks.map kV))from ok a _ e)
 exact⟨o,its.toArray,n,h1,h2,h3,by simpa using Z6z r⟩
theorem Zd8 {kvs:List (List Key×V)}(ok:HOk P w H h)(e:Rd H a (.dT kvs)):kvs.length<=sizeLine/\(a==sysModules)=false /\
  ∃ xs,KT H kvs xs/\h.DictOfH (tupleKind (Z0d P w)) a xs:=by
 obtain⟨z,y,xs,r,o,es,ep,h1,h2,h3,h4,h5⟩:=(show Z0s P w H h a (.dT kvs)from Zpx ok e)
 refine⟨z,y,xs,r,o,es,ep,h1,h2,h3,h4,fun x hx=>?_,h5⟩;have all:∀{l:List (List Key×V)}{m:List (List Key×Addr×Value)},KT H l m->∀ x∈m,(tupleKind (Z0d P w)).is h x.1 x.2.1:=by
  intro l m q;induction q with
  |nil=>intro x hx;exact nomatch hx
  |@cons p q ps qs hq t ih=>
   intro x hx;rcases List.mem_cons.mp hx with e|hx
   ·subst e;exact Z70 ok (by rw[<-hq.1];exact hq.2.1)
   ·exact ih x hx
 exact all r x hx
theorem Zt4 {kvs:List (List Key×V)}(ok:HOk P w H h)(e:H a=some (.dT kvs)):kvs.length<=sizeLine/\(a==sysModules)=false /\
  ∃ xs,KT H kvs xs/\h.DictOfH (tupleKind (Z0d P w)) a xs:=Zd8 ok (.inl e)
end
def DGet (H:Hp)(a:Addr)(y:V)(r:Option V):Prop:=
 (∃ kvs k,Rd H a (.dK kvs)/\y=kV k/\r=valV kvs k)\/∃ kvs k b,Rd H a (.dT kvs)/\y=.ref b/\H b=some (.tup (k.map kV))/\r=valV kvs k
def DPut (H:Hp)(a:Addr)(y v:V)(H':Hp):Prop:=
 (∃ kvs k,H a=some (.dK kvs)/\y=kV k/\kvs.length<sizeLine/\H'=upd H a (.dK (putK kvs k v))) \/
 ∃ kvs k b,H a=some (.dT kvs)/\y=.ref b/\H b=some (.tup (k.map kV))/\kvs.length<sizeLine/\H'=upd H a (.dT (putK kvs k v))
theorem DPut.k {H:Hp}{a:Addr}{kvs:List (Key×V)}{k:Key}{v:V}(e:H a=some (.dK kvs))(hl:kvs.length<sizeLine):DPut H a (kV k) v (upd H a (.dK (putK kvs k v))):=.inl ⟨kvs,k,e,rfl,hl,rfl⟩
section
variable {X:Cx}{pins:L2.AO}{σ:St}{H:Hp}{s:Shared}{a:Addr}{y v:V}{u r:Value}{o:Option V}{A:Around}{E:L2.VSP}
theorem Inv.big (I:Inv X pins σ H s):sysModules<s.heap.objs.size:=by
 have h:mainGlobals<s.heap.objs.size:=(I.mod.glob.keeps I.bk).lt;exact Nat.lt_trans (by decide) h
theorem Zd9 {Q:L2.VSP}(hu:A.units+1<cLine)(I:Inv X pins σ H s)(g:DGet H a y (some v))(ry:RelV y u)(h:∀ w' s',Inv X pins σ H s'->RelV v w'->Q w' s') :
  wpAny (model X.prog X.w) A (getItem (.ref a) u) Q E s:=by
 rcases g with ⟨kvs,k,e,ey,l⟩|⟨kvs,k,b,e,ey,eb,l⟩
 ·subst ey;obtain⟨z,hd,vs,rel,dd⟩:=Zd7 I.hok e;obtain⟨w',hw,rw'⟩:=RelO.some_of (v:=v) (o:=valueAt vs k) (by rw[l];exact rel.val k);exact wpAny_getItem_of (Z84 ry) dd.mapOf hw (h w' _ (I.tok _) rw')
 ·subst ey
  cases(show u=Value.ref b from ry);obtain⟨z,hd,xs,rel,dd⟩:=Zd8 I.hok e;obtain⟨w',hw,rw'⟩:=RelO.some_of (v:=v) (o:=(atKey xs k).map (·.2)) (by rw[l];exact rel.val k);obtain⟨p,hp,hp2⟩:=Option.map_eq_some_iff.mp hw;refine wpAny_getItem_heap (tupleKind_room_in1 hu) (Z70 I.hok eb) dd hp ?_;rw[hp2];exact h w' _ (I.tok _) rw'
theorem d_in {Q:L2.VSP}(hu:A.units+1<cLine)(I:Inv X pins σ H s)(g:DGet H a y o)(ry:RelV y u)(h:∀ s',Inv X pins σ H s'->Q (.bool o.isSome) s') :
  wpAny (model X.prog X.w) A (compareOp .In u (.ref a)) Q E s:=by
 rcases g with ⟨kvs,k,e,ey,l⟩|⟨kvs,k,b,e,ey,eb,l⟩
 ·subst ey;obtain⟨z,hd,vs,rel,dd⟩:=Zd7 I.hok e;refine wpAny_in_of (Z84 ry) hd dd.mapOf ?_;rw[<-(rel.val k).isSome_eq,<-l];exact h _ (I.tok _)
 ·subst ey
  cases(show u=Value.ref b from ry);obtain⟨z,hd,xs,rel,dd⟩:=Zd8 I.hok e;refine wpAny_in_heap (tupleKind_room_in1 hu) (Z70 I.hok eb) hd dd ?_;have q:=(rel.val k).isSome_eq;rw[Option.isSome_map]at q;rw[<-q,<-l];exact h _ (I.tok _)
theorem Zl4 {Q:L2.VSP}(hu:A.units+1<cLine)(I:Inv X pins σ H s)(g:DGet H a y o)(ry:RelV y u)(h:∀ s',Inv X pins σ H s'->Q (.bool (!o.isSome)) s') :
  wpAny (model X.prog X.w) A (compareOp .NotIn u (.ref a)) Q E s:=by
 rcases g with ⟨kvs,k,e,ey,l⟩|⟨kvs,k,b,e,ey,eb,l⟩
 ·subst ey;obtain⟨z,hd,vs,rel,dd⟩:=Zd7 I.hok e;refine wpAny_notIn_of (Z84 ry) hd dd.mapOf ?_;rw[<-(rel.val k).isSome_eq,<-l];exact h _ (I.tok _)
 ·subst ey
  cases(show u=Value.ref b from ry);obtain⟨z,hd,xs,rel,dd⟩:=Zd8 I.hok e;refine wpAny_notIn_heap (tupleKind_room_in1 hu) (Z70 I.hok eb) hd dd ?_;have q:=(rel.val k).isSome_eq;rw[Option.isSome_map]at q;rw[<-q,<-l];exact h _ (I.tok _)
theorem Z3g {h':Heap}{t':Nat}{ob:HO}(I:Inv X pins σ H s)(mu:Mut (H a))(hs:Heap.SameBut a s.heap h')(he:∃ q,h'.get? a=some q)(new:Z0s X.prog X.w (upd H a ob) h' a ob) :
  Inv X pins σ (upd H a ob) { s with heap:=h',toks:=t' }:=
 I.write (x:=a) (e:=a) mu (.inl rfl) (fun b q hb z=>(hs.2 b hb).trans z) he new
theorem Zda {P:Program}{w:World}{H':Hp}{h':Heap}{kvs:List (Key×V)}{vs:List (Key×Value)}(z:kvs.length<=sizeLine)(hd:(a==sysModules)=false)(rel:KV kvs vs)(dd:h'.DictOf (Z0d P w) a vs) :
  Z0s P w H' h' a (.dK kvs):=⟨z,hd,vs,rel,dd⟩
theorem Zdb {H':Hp}{Q:Unit->Shared->Prop}(hu:A.units+1<cLine)(I:Inv X pins σ H s)(g:DPut H a y v H')(ry:RelV y u)(rv:RelV v r)(h:∀ s',Inv X pins σ H' s'->Q () s') :
  wpAny (model X.prog X.w) A (setItem (.ref a) u r) Q E s:=by
 rcases g with ⟨kvs,k,e,ey,l,eH⟩|⟨kvs,k,b,e,ey,eb,l,eH⟩
 ·subst ey eH;obtain⟨z,hd,vs,rel,dd⟩:=Zpy I.hok e;have hz:vs.length<=sizeLine:=by rw[<-rel.length];exact z
  have hl:(putK kvs k v).length<=sizeLine:=by have:=Z22 kvs k v;omega
  refine wpAny_setItem_pairs (hsz:=hz) (Z84 ry) dd fun h' dd' hs=>h _ ?_;have he:∃ q,h'.get? a=some q:=let ⟨q,_,_,hq,_⟩:=dd';⟨q,hq⟩
  exact Z3g I (by rw[e];exact True.intro) hs he (Zda hl hd (rel.put k rv) dd')
 ·subst ey eH
  cases(show u=Value.ref b from ry);obtain⟨z,hd,xs,rel,dd⟩:=Zt4 I.hok e;have hz:xs.length<=sizeLine:=by rw[<-Paired.length rel];exact z
  have hl:(putK kvs k v).length<=sizeLine:=by have:=Z22 kvs k v;omega
  refine wpAny_setItem_heap (hsz:=hz) (tupleKind_room_in1 hu) (Z70 I.hok eb) dd fun h' dd' hs=>h _ ?_;obtain⟨q,es,ep,hq,h2,h3,h4,_,h5⟩:=dd';refine Z3g I (by rw[e];exact True.intro) hs ⟨q,hq⟩ ⟨hl,hd,_,(rel.put k eb rv).keeps fun c ys ec=>?_,q,es,ep,hq,h2,h3,h4,h5⟩;rw[Z06 (Zmm ec e (fun z=>nomatch z))];exact ec
end
def NoSl (i:Expr):Prop:=∀ ov iv,subscripted i false ov iv=operate [ov,iv] (getItem ov iv)
theorem Zl5 {prog:Program}{w:World}{A:Around}{E:L2.VSP}{s:Shared}{env:Env}{value slice:Expr}{pos:Pos}{T id:String}{Q:L2.VSP}
  (hl:typeLookup (.type T) "__getitem__" = pure (some (.builtin id)))(hs:NoSl slice)
  (h:wpAny (model prog w) A (eval value env) (fun o s₁=>wpAny (model prog w) A (eval slice env) (fun i s₂=>s₂.TypeIs o T/\wpAny (model prog w) A (getItem o i) Q E s₂) E s₁) E s) :
  wpAny (model prog w) A (eval (.Subscript value slice pos) env) Q E s:=by
 refine Subscript_ (wpAny_mono h (fun o s₁ h₁=>wpAny_mono h₁ (fun i s₂ h₂=>?_) fun ψ ψ x=>x) fun ψ ψ x=>x);obtain⟨hT,h₂⟩:=h₂;unfold subscriptTail;refine wpAny_bind ?_;rw[getitemInPython_of_ne hT.not_modules];refine wpAny_bind (wpAny_specialOf hT hl ?_);have fin:wpAny (model prog w) A (subscripted slice false o i) (fun r s₃=>wpAny (model prog w) A (letTemporaryGo value o r >>= fun ψ=>pure r) Q E s₃) E s₂:=by
  rw[hs o i];exact wpAny_operating (wpAny_mono h₂ (fun r s₃ h₃=>wpAny_bind (wpAny_letTemporaryGo (wpAny_pure h₃))) fun ψ ψ x=>x)
 first
  |exact wpAny_pure (wpAny_bind fin)
  |exact wpAny_bind (wpAny_pure (wpAny_bind fin))
  |exact wpAny_bind fin
theorem Z85 {X:Cx}{pins:L2.AO}{σ:St}{H:Hp}{s:Shared}{a:Addr}{y:V}{o:Option V}(I:Inv X pins σ H s)(g:DGet H a y o):s.TypeIs (.ref a) "dict" := by
 rcases g with ⟨kvs,k,e,_,_⟩|⟨kvs,k,b,e,_,_,_⟩
 ·obtain⟨_,_,vs,_,dd⟩:=Zd7 I.hok e;exact dd.typeIs
 ·obtain⟨_,_,xs,_,dd⟩:=Zd8 I.hok e;exact dd.typeIs
theorem Z97 {P:Program}{w:World}{H:Hp}(h:Heap)(hb:sysModules<h.objs.size):Z0s P w H (h.push { cls:=.type "dict",data:=.dict #[] }) h.objs.size (.dK []):=
 ⟨Nat.zero_le _,beq_eq_false_iff_ne.mpr (Ne.symm (Nat.ne_of_lt hb)),[],.nil,Heap.DictOf.new h⟩
def Zpz:TE:=fun ψ H Q=>∀ p,H p=none->Q (.ref p) (upd H p (.dK []))
section
variable {X:Cx}{pos:Pos}
theorem Zg4:PE X (.Dict [] [] pos) Zpz:=fun pins s σ H Q I h=>
 wpAny_Dict_empty ⟨.ref s.heap.objs.size,_,I.laid (a:=s.heap.objs.size) (o:=.dK []) (t':=s.toks) (fun ψ ψ q=>Heap.get?_push_of_some _ q) (Nat.le_refl _) (Z97 s.heap I.big),rfl,h _ (I.hok.fresh (Nat.le_refl _))⟩
end
def Zhx:List (TE×TE)->St->Hp->(List (V×V)->Hp->Prop)->Prop
 |[],_,H,Q=>Q [] H
 |(tk,tv)::r,σ,H,Q=>tk σ H fun x H1=>tv σ H1 fun y H2=>Zhx r σ H2 fun ps H3=>Q ((x,y)::ps) H3
abbrev VV:List (V×V)->List (Value×Value)->Prop:=Paired fun p q=>RelV p.1 q.1/\RelV p.2 q.2
def PPs (X:Cx)(pos:Pos)(keys:List (Option Expr))(values:List Expr)(trs:List (TE×TE)):Prop:=
 ∀(pins:L2.AO)(s:Shared)(σ:St)(H:Hp)(Q:List (V×V)->Hp->Prop),Inv X pins σ H s->Zhx trs σ H Q ->
  wpAny (model X.prog X.w) X.A (evalPairs (pairTrees keys values X.env pos)) (fun vs s'=>∃ ps H',Inv X pins σ H' s'/\VV ps vs/\Q ps H') X.xe s
theorem Zl6 {X:Cx}{pos:Pos}:PPs X pos [] [] []:=fun pins s σ H Q I h=>pairTrees_nil_walk ⟨[],H,I,.nil,h⟩
theorem Zg5 {X:Cx}{pos:Pos}{k v:Expr}{ks:List (Option Expr)}{vs:List Expr}{tk tv:TE}{trs:List (TE×TE)}(hk:PE X k tk)(hv:PE X v tv)(hr:PPs X pos ks vs trs) :
  PPs X pos (some k::ks) (v::vs) ((tk,tv)::trs):=fun pins s σ H Q I h=>
 pairTrees_cons_walk (thn (hk pins s σ H _ I h) fun u s1 ⟨x,H1,I1,rx,q1⟩=>thn (hv pins s1 σ H1 _ I1 q1) fun w2 s2 ⟨y,H2,I2,ry,q2⟩ =>
  thn (hr pins s2 σ H2 _ I2 q2) fun ws s3 ⟨ps,H3,I3,rel,q3⟩=>⟨(x,y)::ps,H3,I3,.cons ⟨rx,ry⟩ rel,q3⟩)
def Zhy (kvs more:List (Key×V)):List (Key×V):=more.foldl (fun acc kv=>putK acc kv.1 kv.2) kvs
theorem KV.merge:∀{more:List (Key×V)}{rs:List (Key×Value)}{kvs:List (Key×V)}{vs:List (Key×Value)},KV more rs->KV kvs vs->KV (Zhy kvs more) (merged vs rs):=by
 intro more rs kvs vs r;unfold KV at r;induction r generalizing kvs vs with
 |nil=>intro q;exact q
 |@cons p q ps qs h t ih=>
  intro r0;have e:KV (putK kvs p.1 p.2) (stored vs q.1 q.2):=by
   have:=r0.put p.1 h.2
   rw[<-h.1];exact this
  exact ih e
theorem Z57 {P:Program}{w:World}:∀{kvs:List (Key×V)}{ws:List (Value×Value)},VV (kvs.map fun kv=>(kV kv.1,kv.2)) ws->∃ rs,Carries (Z0d P w) ws rs/\KV kvs rs
 |[],_,r=>by rw[List.map_nil]at r;cases r;exact⟨[],True.intro,.nil⟩
 |p::kvs,_,r=>by
  rw[List.map_cons]at r
  cases r with
  |@cons a b as bs h t=>
   obtain⟨rs,c,q⟩:=Z57 (P:=P) (w:=w) t;obtain⟨b1,b2⟩:=b;exact⟨(p.1,b2)::rs,⟨Z84 h.1,rfl,c⟩,.cons ⟨rfl,h.2⟩ q⟩
def IsD (H:Hp)(a:Addr):Prop:=(∃ kvs,Rd H a (.dK kvs))\/∃ kvs,Rd H a (.dT kvs)
abbrev Ps:=List (Int×U)
def dicI (ps:Ps):U:=.dic (ps.map fun p=>.int p.1) (ps.map (·.2))
def asD:U->Option Ps
 |.dic ks us=>(Z13 ks).bind fun ns=>if ns.length=us.length then some (ns.zip us)else none
 |_=>none
theorem asD_I (ps:Ps):asD (dicI ps)=some ps:=by
 unfold asD dicI;simp only;rw[show(ps.map fun p=>U.int p.1)=(ps.map (·.1)).map U.int by simp,Z14];simp only[Option.bind_some,List.length_map,if_true];exact congrArg some (List.zip_of_prod (by rfl) (by rfl)).symm
theorem Z2k {u:U}{ps:Ps}(h:asD u=some ps):u=dicI ps:=by
 unfold asD at h;split at h
 ·rename_i ks us
  cases q:Z13 ks with
  |none=>rw[q]at h;exact noS h
  |some ns=>
   rw[q]at h;simp only[Option.bind_some]at h;split at h
   ·rename_i l
    cases h;rw[Z1f q];unfold dicI;congr 1
    ·conv=>lhs;rw[<-List.map_fst_zip (l₁:=ns) (l₂:=us) (by omega)]
     simp
    ·exact(List.map_snd_zip (by omega)).symm
   ·cases h
 ·cases h
def asc (ps:Ps) (k:Int):Option U:=(ps.find? fun p=>decide (p.1=k)).map (·.2)
def putI (ps:Ps) (k:Int)(u:U):Ps:=if ps.any (fun p=>decide (p.1=k))=true then ps.map (fun p=>if p.1=k then (p.1,u)else p)else ps++[(k,u)]
def Z86 (ps:Ps) (k:Int):Ps:=ps.filter fun p=>decide (p.1≠k)
def RPs (W:Wd)(H:Hp):Ps->List (Int×V)->Prop
 |[],kvs=>kvs=[]
 |p::ps,kvs=>∃ v r,kvs=(p.1,v)::r/\RU W H p.2 v/\RPs W H ps r
section
variable {W:Wd}{H H':Hp}
theorem RPs.mono (s:Same H H'):∀{ps:Ps}{kvs:List (Int×V)},RPs W H ps kvs->RPs W H' ps kvs
 |[],_,h=>h
 |p::ps,_,⟨v,r,e,h,t⟩=>⟨v,r,e,h.mono s,t.mono s⟩
theorem RPs.of:∀{ps:Ps}{kvs:List (Int×V)},(ps.map fun p=>U.int p.1)=kvs.map (fun p=>U.int p.1)->RUs W H (ps.map (·.2)) (kvs.map (·.2))->RPs W H ps kvs
 |[],kvs,e,_=>by
  cases kvs with
  |nil=>rfl
  |cons _ _=>cases e
 |p::ps,kvs,e,r=>by
  cases kvs with
  |nil=>cases e
  |cons q kvs=>
   rw[List.map_cons,List.map_cons]at e r;injection e with e1 e2;rw[RUs]at r;obtain⟨v,z,e3,r1,r2⟩:=r;injection e3 with e3 e4;subst e4;injection e1 with e1;exact⟨v,kvs,by rw[<-e3,e1],r1,RPs.of e2 r2⟩
theorem RPs.to:∀{ps:Ps}{kvs:List (Int×V)},RPs W H ps kvs->(ps.map fun p=>U.int p.1)=kvs.map (fun p=>U.int p.1)/\RUs W H (ps.map (·.2)) (kvs.map (·.2))
 |[],_,h=>by subst h;exact⟨rfl,.nil⟩
 |p::ps,_,⟨v,r,e,h,t⟩=>by
  subst e;obtain⟨a,b⟩:=t.to;exact⟨by rw[List.map_cons,List.map_cons,a],.cons h b⟩
theorem RPs.len:∀{ps:Ps}{kvs:List (Int×V)},RPs W H ps kvs->ps.length=kvs.length
 |[],_,h=>by subst h;rfl
 |p::ps,_,⟨v,r,e,h,t⟩=>by subst e;simp[t.len]
theorem RPs.val:∀{ps:Ps}{kvs:List (Int×V)},RPs W H ps kvs->∀ k:Int,(asc ps k=none/\valV kvs k=none)\/∃ u v,asc ps k=some u/\valV kvs k=some v/\RU W H u v
 |[],_,h,k=>by subst h;exact .inl ⟨rfl,rfl⟩
 |p::ps,_,⟨v,r,e,h,t⟩,k=>by
  subst e;by_cases c:p.1=k
  ·refine .inr ⟨p.2,v,?_,Z2c c,h⟩;unfold asc;rw[List.find?_cons_of_pos (by simp[c])];rfl
  ·have e1:asc (p::ps) k=asc ps k:=by unfold asc;rw[List.find?_cons_of_neg (by simp[c])]
   rw[e1,Z2d c];exact t.val k
theorem RPs.valS {ps:Ps}{kvs:List (Int×V)}(r:RPs W H ps kvs){k:Int}{u:U}(h:asc ps k=some u):∃ v,valV kvs k=some v/\RU W H u v:=by
 rcases r.val k with ⟨e,_⟩|⟨u',v,e,q⟩
 ·rw[h]at e;cases e
 ·rw[h]at e;cases e;exact⟨v,q⟩
theorem RPs.any:∀{ps:Ps}{kvs:List (Int×V)},RPs W H ps kvs->∀ k:Int,(ps.any fun p=>decide (p.1=k))=kvs.any fun kv=>decide (kv.1=k)
 |[],_,h,k=>by subst h;rfl
 |p::ps,_,⟨v,r,e,h,t⟩,k=>by
  subst e;rw[List.any_cons,List.any_cons,t.any k]
theorem RPs.app {qs:Ps}{kws:List (Int×V)}(t2:RPs W H qs kws):∀{ps:Ps}{kvs:List (Int×V)},RPs W H ps kvs->RPs W H (ps++qs) (kvs++kws)
 |[],_,h=>by subst h;exact t2
 |p::ps,_,⟨v,r,e,h,t⟩=>by subst e;exact⟨v,r++kws,rfl,h,RPs.app t2 t⟩
theorem RPs.repl {k:Int}{u:U}{y:V}(ru:RU W H u y):∀{ps:Ps}{kvs:List (Int×V)},RPs W H ps kvs->RPs W H (ps.map fun p=>if p.1=k then (p.1,u)else p) (kvs.map fun kv=>if kv.1=k then (kv.1,y)else kv)
 |[],_,h=>by subst h;rfl
 |p::ps,_,⟨v,r,e,h,t⟩=>by
  subst e;rw[List.map_cons,List.map_cons];by_cases c:p.1=k
  ·rw[if_pos c,if_pos c];exact⟨y,_,rfl,ru,RPs.repl ru t⟩
  ·rw[if_neg c,if_neg c];exact⟨v,_,rfl,h,RPs.repl ru t⟩
theorem RPs.put {ps:Ps}{kvs:List (Int×V)}{k:Int}{u:U}{y:V}(r:RPs W H ps kvs)(ru:RU W H u y):RPs W H (putI ps k u) (putK kvs k y):=by
 unfold putI putK;rw[r.any k];split
 ·exact r.repl ru
 ·exact RPs.app (qs:=[(k,u)]) (kws:=[(k,y)]) ⟨y,[],rfl,ru,rfl⟩ r
theorem RPs.drop:∀{ps:Ps}{kvs:List (Int×V)},RPs W H ps kvs->∀ k:Int,RPs W H (Z86 ps k) (Zg3 kvs k)
 |[],_,h,k=>by subst h;rfl
 |p::ps,_,⟨v,r,e,h,t⟩,k=>by
  subst e;unfold Z86 Zg3;by_cases c:p.1=k
  ·rw[List.filter_cons_of_neg (by simp[c]),List.filter_cons_of_neg (by simp[c])];exact t.drop k
  ·rw[List.filter_cons_of_pos (by simp[c]),List.filter_cons_of_pos (by simp[c])];exact⟨v,_,rfl,h,t.drop k⟩
theorem RPs.keys:∀{ps:Ps}{kvs:List (Int×V)},RPs W H ps kvs->kvs.map (·.1)=ps.map (·.1)
 |[],_,h=>by subst h;rfl
 |p::ps,_,⟨v,r,e,h,t⟩=>by subst e;rw[List.map_cons,List.map_cons,t.keys]
theorem RU.dicI {ps:Ps}{a:Addr}{ob:Obj}{kvs:List (Int×V)}(h:H a=some (dE a ob kvs))(r:RPs W H ps kvs):RU W H (dicI ps) (.ref a):=by
 unfold L2.dicI;rw[RU];exact⟨a,ob,kvs,rfl,h,r.to.1,r.to.2⟩
theorem OwO.dicI {ps:Ps}{a:Addr}{ob:Obj}{kvs:List (Int×V)}(r:RPs W H ps kvs):OwO W H a (dicI ps) (dE a ob kvs):=⟨ob,kvs,rfl,r.to.1,r.to.2⟩
theorem RB.dicI {Hc:Hp}{ps:Ps}{v:V}(h:RB W Hc H (dicI ps) v)(s:Same Hc H):∃ a ob kvs,v=.ref a/\H a=some (dE a ob kvs)/\RPs W Hc ps kvs:=by
 obtain⟨a,ob,kvs,e,q,k,r⟩:=RB.dic h s;exact⟨a,ob,kvs,e,q,.of k r⟩
end
section
variable {W:Wd}{m:Md}{ρ:En}{ω:Om}{σ:St}{H0 Hc H:Hp}{ow:Nat->Addr}{i:Nat}
theorem Sr.muI (S:Sr W m ρ ω σ H0 Hc H ow){ps:Ps}(hi:i∈m.M)(h:ρ[i]?=some (some (dicI ps))):∃ ob kvs,σ[i]?=some (some (.ref (ow i)))/\H (ow i)=some (dE (ow i) ob kvs)/\Hc (ow i)=none/\H0 (ow i)=none/\RPs W Hc ps kvs:=by
 obtain⟨ob,kvs,z2,z3,z4,z5,k,r⟩:=S.muD i _ _ hi h;exact⟨ob,kvs,z2,z3,z4,z5,.of k r⟩
end
abbrev kvK (kvs:List (Int×V)):List (Key×V):=kvs.map fun p=>(.inl p.1,p.2)
theorem Zhz (k:Int):∀ kvs:List (Int×V),valV (kvK kvs) (.inl k)=valV kvs k
 |[]=>rfl
 |p::r=>by
  show valV ((Sum.inl p.1,p.2)::kvK r) (Sum.inl k)=_;by_cases c:p.1=k
  ·rw[Z2c c,Z2c (by rw[c])]
  ·rw[Z2d c,Z2d (fun z=>c (by injection z)),Zhz k r]
theorem Zq0 (k:Int):∀ kvs:List (Int×V),((kvK kvs).any fun kv=>decide (kv.1=.inl k))=kvs.any fun kv=>decide (kv.1=k)
 |[]=>rfl
 |p::r=>by
  show(decide ((Sum.inl p.1:Key)=.inl k)||(kvK r).any fun kv=>decide (kv.1=.inl k))=(decide (p.1=k)||_)
  rw[Zq0 k r];congr 1;by_cases c:p.1=k
  ·simp[c]
  ·simp[c]
theorem Zq1 (k:Int)(v:V)(kvs:List (Int×V)):putK (kvK kvs) (.inl k) v=kvK (putK kvs k v):=by
 unfold putK;rw[Zq0];split
 ·induction kvs with
  |nil=>rfl
  |cons p r ih=>
   simp only[kvK,List.map_cons,List.map_map]at *
   rw[List.cons.injEq];refine⟨?_,?_⟩
   ·by_cases c:p.1=k
    ·simp[c]
    ·simp[c]
   ·apply List.map_congr_left;intro q ψ;simp only[Function.comp];by_cases c:q.1=k
    ·simp[c]
    ·simp[c]
 ·simp[kvK]
theorem Z4f {P:Program}{w:World}:∀{es:List DictEntry}{kvs:List (Int×V)},Paired (fun(e:DictEntry)(p:Int×V)=>Z38 (.inl p.1) e.key=true/\(∀ w,e.hash=keyH w (.inl p.1))/\RelV p.2 e.val) es kvs ->
  ∃ vs,KV (kvK kvs) vs/\(∀ e∈es,∃ k,(Z0d P w).is k e.key=true/\e.hash=(Z0d P w).hash k)/\Pairs (Z0d P w) es vs
 |_,_,.nil=>⟨[],.nil,fun e h=>absurd h (by simp),.nil⟩
 |_,_,.cons (a:=e) (b:=p) h t=>by
  obtain⟨vs,a1,a2,a3⟩:=Z4f (P:=P) (w:=w) t;refine⟨(.inl p.1,e.val)::vs,.cons ⟨rfl,h.2.2⟩ a1,fun x hx=>?_,.cons h.1 rfl a3⟩;rcases List.mem_cons.mp hx with rfl|hx
  ·exact⟨.inl p.1,h.1,h.2.1 w⟩
  ·exact a2 x hx
theorem Z71 {P:Program}{w:World}:∀{es:List DictEntry}{kvs:List (Int×V)}{vs:List (Key×Value)},KV (kvK kvs) vs->(∀ e∈es,∃ k,(Z0d P w).is k e.key=true/\e.hash=(Z0d P w).hash k)->Pairs (Z0d P w) es vs ->
  Paired (fun(e:DictEntry)(p:Int×V)=>Z38 (.inl p.1) e.key=true/\(∀ w,e.hash=keyH w (.inl p.1))/\RelV p.2 e.val) es kvs
 |_,[],_,h,_,q=>by
  cases h;cases q;exact .nil
 |_,p::kvs,_,h,k,q=>by
  have h:KV ((Sum.inl p.1,p.2)::kvK kvs) _:=h
  cases h with
  |cons h1 h2=>
   cases q with
   |cons q1 q2 q3=>
    rename_i b es e bs
    refine .cons ⟨by rw[show(Sum.inl p.1:Key)=b.1 from h1.1];exact q1,fun w'=>?_,by rw[q2];exact h1.2⟩ (Z71 h2 (fun x hx=>k x (List.mem_cons_of_mem _ hx)) q3);obtain⟨kk,z1,z2⟩:=k e (List.mem_cons_self ..);have:=(Z0d P w).inj e.key kk b.1 z1 q1
    rw[this,<-show(Sum.inl p.1:Key)=b.1 from h1.1]at z2;exact z2
theorem Zdc {kvs:List (Int×V)}{vs:List (Key×Value)}(h:KV (kvK kvs) vs):(vs.map (·.1)).Nodup↔(kvs.map (·.1)).Nodup:=by
 rw[<-h.keys];have e:(kvK kvs).map (·.1)=(kvs.map (·.1)).map (Sum.inl:Int->Key):=by simp[kvK]
 rw[e];refine⟨fun h=>?_,fun h=>?_⟩
 ·unfold List.Nodup at h ⊢;rw[List.pairwise_map]at h;exact h.imp fun ne e=>ne (by rw[e])
 ·unfold List.Nodup at h ⊢;rw[List.pairwise_map];exact h.imp fun ne e=>ne (by injection e)
theorem Zi0 {P:Program}{w:World}{H:Hp}{h:Heap}{a:Addr}{ob:Obj}{kvs:List (Int×V)}(x:Z0s P w H h a (dE a ob kvs)):h.get? a=some ob/\∀ H',Z0s P w H' h a (.dK (kvK kvs)):=by
 obtain⟨⟨e,ns,hl,es,ep,h1,h2,h3,h4⟩,_,_⟩:=x;refine⟨e,fun H'=>⟨by rw[List.length_map];exact hl,ns,?_⟩⟩;obtain⟨vs,a1,a2,a3⟩:=Z4f (P:=P) (w:=w) h3;exact⟨vs,a1,ob,es,ep,e,h1,h2,fun x hx=>a2 x (by simpa using hx),a3,(Zdc a1).mpr h4⟩
theorem Zq2 {P:Program}{w:World}{H:Hp}{h:Heap}{a:Addr}{kvs:List (Int×V)}(x:Z0s P w H h a (.dK (kvK kvs))):∃ ob,h.get? a=some ob/\∀ H',Z0s P w H' h a (dE a ob kvs):=by
 obtain⟨hl,ns,vs,rel,ob,es,ep,e,h1,h2,h3,h4,h5⟩:=x;refine⟨ob,e,fun ψ=>⟨⟨e,ns,by rw[List.length_map]at hl;exact hl,es,ep,h1,h2,Z71 rel (fun x hx=>h3 x (by simpa using hx)) h4,(Zdc rel).mp h5⟩,⟨ob,e⟩,fun h1 h2 p k=>⟨k _ p.1,p.2⟩⟩⟩
section
variable {X:Cx}{pins:L2.AO}{σ:St}{H:Hp}{s s':Shared}{a:Addr}{ob:Obj}{kvs:List (Int×V)}
theorem Inv.dE_in (I:Inv X pins σ H s)(h:H a=some (dE a ob kvs)):Inv X pins σ (upd H a (.frz ob (.dK (kvK kvs)))) s:=by
 obtain⟨e,x⟩:=Zi0 (I.hok a _ h);exact Z3g I (by rw[h];exact True.intro) (Heap.SameBut.refl _ _) ⟨_,e⟩ (show _/\_ from⟨e,x _⟩)
theorem Inv.dE_w (I:Inv X pins σ H s)(h:H a=some (dE a ob kvs)):Inv X pins σ (upd H a (.dK (kvK kvs))) s:=by
 obtain⟨e,x⟩:=Zi0 (I.hok a _ h);exact Z3g I (by rw[h];exact True.intro) (Heap.SameBut.refl _ _) ⟨_,e⟩ (x _)
theorem Inv.w_dE (I:Inv X pins σ H s)(h:H a=some (.dK (kvK kvs))):∃ ob,Inv X pins σ (upd H a (dE a ob kvs)) s:=by
 obtain⟨ob,e,x⟩:=Zq2 (I.hok a _ h);exact⟨ob,Z3g I (by rw[h];exact True.intro) (Heap.SameBut.refl _ _) ⟨_,e⟩ (x _)⟩
theorem Inv.out' (nf:∀ o u,X.H₀ a≠some (.frz o u))(dt:(a==sysModules)=false/\kvs.length<=sizeLine/\DOb ob kvs)(h:H a=some (dE a ob kvs))(J:Inv X pins σ (upd H a (.frz ob (.dK (kvK kvs)))) s'):Inv X pins σ H s':=by
 have back:∀{b o},upd H a (.frz ob (.dK (kvK kvs))) b=some o->(∀ x y,o≠.frz x y)->H b=some o:=fun{b o} q nf=>by
  by_cases c:b=a
  ·rw[c,Z05]at q;cases q;exact absurd rfl (nf _ _)
  ·rw[Z06 c]at q;exact q
 have non:∀{b},upd H a (.frz ob (.dK (kvK kvs))) b=none->H b=none:=fun{b} q=>by
  by_cases c:b=a
  ·rw[c,Z05]at q;cases q
  ·rw[Z06 c]at q;exact q
 refine⟨J.ok,J.os,J.bare,⟨J.base.keep,J.base.slot,fun b o e n hx=>non (J.base.free b o e n hx),J.base.there,fun b xs e=>back (J.base.tups b xs e) (fun ψ ψ z=>nomatch z),fun b o u e=>?_,fun b ps e=>?_⟩,J.loc,J.cell,non J.free,fun x c e=>non (J.freeC x c e),fun p hp=>?_,fun b u e=>?_,J.len⟩
 ·have q:=J.base.frzs b o u e;by_cases c:b=a
  ·rw[c]at e;exact absurd e (nf o u)
  ·rw[Z06 c]at q;exact q
 ·obtain⟨mo,q⟩:=J.base.tbls b ps e;exact⟨mo,back q (fun ψ ψ z=>nomatch z)⟩
 ·obtain⟨h1,h2,h3⟩:=J.pin p hp;exact⟨h1,non h2,h3⟩
 ·by_cases c:b=a
  ·subst c;rw[h]at e;cases e;obtain⟨g,_⟩:=J.hok b _ Z05;exact⟨⟨g,dt⟩,⟨ob,g⟩,fun h1 h2 p k=>⟨k _ p.1,p.2⟩⟩
  ·have e':upd H a (.frz ob (.dK (kvK kvs))) b=some u:=by rw[Z06 c];exact e
   exact(J.hok b u e').stay (fun ψ ψ ψ q=>q) (fun d q=>back q (fun ψ ψ z=>nomatch z)) fun d xs q=>back q (fun ψ ψ z=>nomatch z)
theorem Inv.dE_nf (I:Inv X pins σ H s)(h:H a=some (dE a ob kvs)):∀ o u,X.H₀ a≠some (.frz o u):=fun o u z=>by
 have:=I.base.frzs a o u z
 rw[h]at this;cases this
theorem Inv.dE_dt (I:Inv X pins σ H s)(h:H a=some (dE a ob kvs)):(a==sysModules)=false/\kvs.length<=sizeLine/\DOb ob kvs:=by
 obtain⟨p,_,_⟩:=I.hok a _ h;exact p.2
theorem Inv.dE_out (I:Inv X pins σ H s)(h:H a=some (dE a ob kvs))(J:Inv X pins σ (upd H a (.frz ob (.dK (kvK kvs)))) s'):Inv X pins σ H s':=J.out' (I.dE_nf h) (I.dE_dt h) h
theorem Inv.dE_wr (I:Inv X pins σ (upd H a (.dK (kvK kvs))) s):∃ ob,Inv X pins σ (upd H a (dE a ob kvs)) s:=by
 obtain⟨ob,J⟩:=I.w_dE Z05;rw[Z7r]at J;exact⟨ob,J⟩
end
def eGet (td ty:TE):TE:=fun σ H Q=>td σ H fun x H1=>ty σ H1 fun y H2=>∃ a ob kvs k v,x=.ref a/\y=.int k/\H2 a=some (dE a ob kvs)/\valV kvs k=some v/\Q v H2
def eIn (neg:Bool)(ty td:TE):TE:=fun σ H Q=>ty σ H fun y H1=>td σ H1 fun x H2=>∃ a ob kvs k,x=.ref a/\y=.int k/\H2 a=some (dE a ob kvs)/\Q (.bl (if neg=true then !(valV kvs k).isSome else (valV kvs k).isSome)) H2
def eNew:TE:=fun ψ H Q=>∀ p ob,H p=none->Q (.ref p) (upd H p (dE p ob []))
def Zi1 (tk tv:TE):TE:=fun σ H Q=>∀ p ob,H p=none->tk σ (upd H p (dE p ob [])) fun x H1=>tv σ H1 fun y H2=>∃ k,x=.int k/\H2 p=some (dE p ob [])/\∀ ob',Q (.ref p) (upd H2 p (dE p ob' [(k,y)]))
def Zq3:TSet:=fun o i v H Q=>∃ a ob kvs k,o=.ref a/\i=.int k/\H a=some (dE a ob kvs)/\kvs.length<sizeLine/\∀ ob',Q (upd H a (dE a ob' (putK kvs k v)))
theorem Zl7 {H:Hp}{a:Addr}{ob:Obj}{kvs:List (Int×V)}{k:Int}:DGet (upd H a (.frz ob (.dK (kvK kvs)))) a (.int k) (valV kvs k):=.inl ⟨kvK kvs,.inl k,.inr ⟨ob,Z05⟩,rfl,(Zhz k kvs).symm⟩
section
variable {X:Cx}{o i:Expr}{pos:Pos}{td ty:TE}
theorem Zl8 (hu:X.A.units+1<cLine)(ho:PE X o td)(hi:PE X i ty)(hs:NoSl i):PE X (.Subscript o i pos) (eGet td ty):=by
 intro pins s σ H Q I h;refine Zl5 PySem.F.slot_dict_getitem.lookup hs (thn (ho pins s σ H _ I h) fun u s1 ⟨x,H1,I1,rx,q1⟩=>thn (hi pins s1 σ H1 _ I1 q1) fun iv s2 ⟨y,H2,I2,ry,a,ob,kvs,k,v,ex,ey,ha,hv,q2⟩=>?_);subst ex;subst ey;obtain rfl:u=Value.ref a:=rx;have g:=Zl7 (H:=H2) (a:=a) (ob:=ob) (kvs:=kvs) (k:=k);rw[hv]at g;exact⟨Z85 (I2.dE_in ha) g,Zd9 hu (I2.dE_in ha) g ry fun w' s3 I3 rw'=>⟨v,H2,I2.dE_out ha I3,rw',q2⟩⟩
theorem Zi2 (hu:X.A.units+1<cLine)(hi:PE X i ty)(ho:PE X o td):PC X .In i o (eIn false ty td):=by
 intro pins s σ H Q I h;refine thn (hi pins s σ H _ I h) fun iv s1 ⟨y,H1,I1,ry,q1⟩=>thn (ho pins s1 σ H1 _ I1 q1) fun u s2 ⟨x,H2,I2,rx,a,ob,kvs,k,ex,ey,ha,q2⟩=>?_;subst ex;subst ey;obtain rfl:u=Value.ref a:=rx;exact d_in hu (I2.dE_in ha) Zl7 ry fun s3 I3=>⟨.bl _,H2,I2.dE_out ha I3,rfl,q2⟩
theorem Zdd (hu:X.A.units+1<cLine)(hi:PE X i ty)(ho:PE X o td):PC X .NotIn i o (eIn true ty td):=by
 intro pins s σ H Q I h;refine thn (hi pins s σ H _ I h) fun iv s1 ⟨y,H1,I1,ry,q1⟩=>thn (ho pins s1 σ H1 _ I1 q1) fun u s2 ⟨x,H2,I2,rx,a,ob,kvs,k,ex,ey,ha,q2⟩=>?_;subst ex;subst ey;obtain rfl:u=Value.ref a:=rx;exact Zl4 hu (I2.dE_in ha) Zl7 ry fun s3 I3=>⟨.bl _,H2,I2.dE_out ha I3,rfl,q2⟩
theorem Zt5 (hu:X.A.units+1<cLine):PSet X Zq3:=by
 intro pins s σ H x y v ov iv u Q I r1 r2 r3 h;obtain⟨a,ob,kvs,k,rfl,rfl,ha,hl,q⟩:=h
 cases r1;refine Zdb hu (I.dE_w ha) (DPut.k (k:=.inl k) Z05 (by rw[List.length_map];exact hl)) r2 r3 fun s4 I4=>?_;rw[Z7r,Zq1]at I4;obtain⟨ob',I5⟩:=I4.dE_wr;exact⟨_,I5,q ob'⟩
theorem Zl9:PE X (.Dict [] [] pos) eNew:=by
 intro pins s σ H Q I h;refine thn (Zg4 pins s σ H (fun x H'=>∃ p,x=.ref p/\H p=none/\H'=upd H p (.dK (kvK []))) I fun p n=>⟨p,rfl,n,rfl⟩) fun v s1 ⟨x,H1,I1,rx,p,ex,n,e1⟩=>?_;subst e1;obtain⟨ob,I2⟩:=I1.dE_wr;exact⟨x,_,I2,rx,by rw[ex];exact h p ob n⟩
theorem Zde {k v:Expr}{tk tv:TE}(hk:PE X k tk)(hv:PE X v tv):PE X (.Dict [some k] [v] pos) (Zi1 tk tv):=by
 intro pins s σ H Q I q;have hn:=I.hok.fresh (Nat.le_refl s.heap.objs.size);have I1:=I.laid (a:=s.heap.objs.size) (o:=.dK (kvK [])) (h':=s.heap.push { cls:=.type "dict",data:=.dict #[] }) (t':=s.toks) (fun ψ ψ q=>Heap.get?_push_of_some _ q) (Nat.le_refl _) (Z97 s.heap I.big);obtain⟨ob,J1⟩:=I1.dE_wr;have h:=Zg5 (pos:=pos) hk hv Zl6;refine wpAny_Dict_walk (knd:=Z0d X.prog X.w) (by rfl) (by rfl) (by simp) (by simp) (thn (h pins _ σ _ (fun ps H2=>match ps with
  |[(x,y)]=>∃ k,x=.int k/\H2 s.heap.objs.size=some (dE s.heap.objs.size ob [])/\∀ ob',Q (.ref s.heap.objs.size) (upd H2 s.heap.objs.size (dE s.heap.objs.size ob' [(k,y)]))
  | _=>False) J1 (q _ ob hn)) fun ws s2 ⟨ps,H2,I2,rel,q2⟩ => ?_)
 match ps,rel,q2 with
 |[(x,y)],rel,q2=>
  obtain⟨k,ex,ha,q2⟩:=q2;subst ex;obtain⟨rs,c,rk⟩:=Z57 (P:=X.prog) (w:=X.w) (kvs:=[(.inl k,y)]) rel;have I3:=I2.dE_w ha;obtain⟨z,hd,vs0,r0,dd⟩:=Zpy I3.hok Z05
  cases r0;refine⟨rs,c,dd,fun h' dd' hs=>?_⟩;have he:∃ q,h'.get? s.heap.objs.size=some q:=let ⟨q,_,_,hq,_⟩:=dd';⟨q,hq⟩
  have I4:=Z3g (t':=s2.toks+ws.length) I3 (by rw[Z05];exact True.intro) hs he (Zda (by show(Zhy [] [((Sum.inl k:Key),y)]).length<=sizeLine;rw[sizeLine_eq];show 1<=_;omega) hd (rk.merge .nil) dd');rw[Z7r]at I4;obtain⟨ob',I5⟩:=Inv.dE_wr (kvs:=[(k,y)]) I4;exact⟨.ref s.heap.objs.size,_,I5,rfl,q2 ob'⟩
end
def Z4g:U->U->Option U
 |d,.int k=>(asD d).bind fun ps=>asc ps k
 |_,_=>none
def uDIn (neg:Bool):U->U->Option U
 |.int k,d=>(asD d).map fun ps=>.bl (if neg then !(asc ps k).isSome else (asc ps k).isSome)
 |_,_=>none
def uGt1 (ps:Ps):U->Option U
 |.int k=>some ((asc ps k).getD .non)
 |_=>none
def Zq4 (fa fb:Ef):Ef:=fun ρ ω=>(fa ρ ω).bnd fun a ω1=>match asD a with
 |some ps=>(fb ρ ω1).bnd fun b ω2=>.of (uGt1 ps b) ω2
 |none=>.stk
section
variable {W:Wd}{m:Md}{E:XK}{ta tb:TE}{fa fb:Ef}
theorem Zla (ha:DB W m E ta fa)(hb:DB W m E tb fb):DE W m E (eGet ta tb) (eOp Z4g fa fb):=by
 intro H0 ρ ω σ Hc H ow S Q h;refine ha H0 ρ ω σ Hc H ow S _ ((Aft.bnd h).imp fun a ω1 Hc1 H1 e1 p1 h1 x rx=>?_);refine hb H0 ρ ω1 σ Hc1 H1 ow (S.ext e1 p1) _ ((Aft.bnd h1).imp fun b ω2 Hc2 H2 e2 p2 h2 y ry=>?_);revert h2
 cases b with
 |int k=>
  have:=ry.int;subst this
  cases hg:Z4g a (.int k)with
  |none=>exact fun h2=>h2.elim
  |some u=>
   intro h2;unfold Z4g at hg;simp only at hg
   cases q:asD a with
   |none=>rw[q]at hg;exact noS hg
   |some ps=>
    rw[q]at hg;have:=Z2k q;subst this
    obtain⟨p,ob,kvs,rfl,hp,rp⟩:=(rx.ext e2).dicI e2.sub;obtain⟨v,hv,rv⟩:=rp.valS hg;exact⟨p,ob,kvs,k,v,rfl,rfl,hp,hv,h2 Hc2 H2 (Ext.refl e2.sub) p2 v rv⟩
 |_=>exact fun h2=>h2.elim
theorem Zdf {neg:Bool}(ha:DB W m E ta fa)(hb:DB W m E tb fb):DE W m E (eIn neg ta tb) (eOp (uDIn neg) fa fb):=by
 intro H0 ρ ω σ Hc H ow S Q h;refine ha H0 ρ ω σ Hc H ow S _ ((Aft.bnd h).imp fun a ω1 Hc1 H1 e1 p1 h1 x rx=>?_);refine hb H0 ρ ω1 σ Hc1 H1 ow (S.ext e1 p1) _ ((Aft.bnd h1).imp fun b ω2 Hc2 H2 e2 p2 h2 y ry=>?_);revert h2
 cases a with
 |int k=>
  have:=rx.int;subst this
  cases q:asD b with
  |none=>unfold uDIn;simp only;rw[q];exact fun h2=>h2.elim
  |some ps=>
   unfold uDIn;simp only;rw[q];intro h2;have:=Z2k q;subst this
   obtain⟨p,ob,kvs,rfl,hp,rp⟩:=ry.dicI e2.sub;refine⟨p,ob,kvs,k,rfl,rfl,hp,?_⟩;have es:(valV kvs k).isSome=(asc ps k).isSome:=by
    rcases rp.val k with ⟨z1,z2⟩|⟨u,v,z1,z2,_⟩<;>rw[z1,z2]<;>rfl
   rw[es];exact h2 Hc2 H2 (Ext.refl e2.sub) p2 _ .bl
 |_=>exact fun h2=>h2.elim
end
def DO (W:Wd)(m:Md)(E:XK)(t:TE)(f:Ef):Prop:=∀ H0 ρ ω σ Hc H ow,Sr W m ρ ω σ H0 Hc H ow->∀ Q:VK,Aft W E Hc H (f ρ ω) (fun u ψ Hc' H'=>∀ a o,OwO W Hc' a u o->Hc' a=none->H a=none->H' a=some o->Q (.ref a) H')->t σ H Q
section
variable {W:Wd}{m:Md}{E:XK}{ta tb:TE}{fa fb:Ef}{i:Nat}
theorem DO.e (h:DO W m E ta fa):DE W m E ta fa:=by
 intro H0 ρ ω σ Hc H ow S Q k;refine h H0 ρ ω σ Hc H ow S Q ?_;revert k
 cases fa ρ ω with
 |ok u ω'=>
  intro k Hc' H' e p a o ho n1 n2 ha;have nl:a∉W.L:=fun z=>(S.pl.out a z).2 n2;exact k (upd Hc' a o) H' (e.own n1 n2 ha) (p.own nl) (.ref a) ((ho.mono (Same.own n1)).ru Z05)
 |err c pl ω'=>exact fun k=>k
 |stk=>exact fun k=>k
theorem Zlb (h1:i∉m.B)(h2:i∈m.M)(ha:DO W m E ta fa):DS W m E (tAsg ta (Z7t i)) (sSet i fa):=by
 intro H0 Hc0 ρ ω σ Hc H ow S x D h;refine ha H0 ρ ω σ Hc H ow S _ ((Cont.of x h).imp fun u ω1 Hc1 H1 e1 p1 k a o ho n1 n2 ha=>?_);have S1:=S.ext e1 p1;have n0:H0 a=none:=by
  cases q:H0 a with
  |none=>rfl
  |some o=>
   by_cases l:a∈W.L
   ·exact absurd n2 (S.pl.out a l).2
   ·rw[S.s0 a o l q]at n2;cases n2
 refine k _ Hc1 H1 _ (S1.ownO h2 h1 n1 n0 ha ho fun j w hj ψ hw z=>?_) (x.trans e1);obtain⟨o0,z2,z3,z4,z5,z6⟩:=S.mu j _ hj hw;rw[z,n2]at z3;cases z3
def Z72:Ef:=fun ψ ω=>.ok (dicI []) ω
theorem Zq5:DO W m E eNew Z72:=by
 intro H0 ρ ω σ Hc H ow S Q k p ob n;exact k Hc (upd H p (dE p ob [])) (Z0v S.sub S.pl n).1 (Z0v S.sub S.pl n).2 p _ (OwO.dicI (ps:=[]) rfl) (S.sub.free n) n Z05
def uD1:U->U->Option U
 |.int k,u=>some (dicI [(k,u)])
 |_,_=>none
def eD1 (fa fb:Ef):Ef:=fun ρ ω=>(fa ρ ω).bnd fun a ω1=>(fb ρ ω1).bnd fun b ω2=>.of (uD1 a b) ω2
theorem Aft.bndK {α β:Type}{Hc H Hc' H':Hp}{r:Res α}{g:α->Om->Res β}{k:β->Om->Hp->Hp->Prop}(e:Ext W Hc H Hc' H')(h:Aft W E Hc H (r.bnd g) k):Aft W E Hc' H' r fun a ω ψ ψ=>Aft W E Hc H (g a ω) k:=by
 cases r with
 |ok a ω=>exact fun ψ ψ ψ ψ=>h
 |err c pl ω=>exact fun C od Hc2 H2 e' p=>h C od Hc2 H2 (e.trans e') p
 |stk=>exact h
theorem Zq6 (ha:DB W m E ta fa)(hb:DE W m E tb fb):DO W m E (Zi1 ta tb) (eD1 fa fb):=by
 intro H0 ρ ω σ Hc H ow S Q h p ob n;have e0:=(Z0v (W:=W) (o:=dE p ob []) S.sub S.pl n)
 have S0:=S.ext e0.1 e0.2;have np:p∉W.L:=fun z=>(S.pl.out p z).2 n;have nc:Hc p=none:=S.sub.free n;refine ha H0 ρ ω σ Hc _ ow S0 _ ((Aft.bndK e0.1 h).imp fun a ω1 Hc1 H1 e1 p1 h1 x rx=>?_);refine hb H0 ρ ω1 σ Hc1 H1 ow (S0.ext e1 p1) _ ((Aft.bndK (e0.1.trans e1) h1).imp fun b ω2 Hc2 H2 e2 p2 h2 y ry=>?_);have hp:H2 p=some (dE p ob []):=(e1.trans e2).same p _ np Z05;have hc2:Hc2 p=none:=(e1.trans e2).new p nc (by rw[Z05];simp);revert h2
 cases a with
 |int k=>
  have:=rx.int;subst this
  intro h2;refine⟨k,rfl,hp,fun ob'=>?_⟩;have e3:Ext W Hc H Hc2 (upd H2 p (dE p ob' [(k,y)])):=by
   have ee:=(e0.1.trans e1).trans e2;refine⟨fun b o nb hb=>?_,ee.sc,fun b o hb=>?_,ee.new,fun b hb=>?_⟩
   ·rw[Z06 (Z0k hb n)];exact ee.same b o nb hb
   ·rw[Z06 (Z0k hb hc2)];exact ee.sub b o hb
   ·by_cases z:b=p
    ·rw[z,Z05];simp
    ·rw[Z06 z];exact ee.frz b hb
  have p3:PlOk W ω2 Hc2 (upd H2 p (dE p ob' [(k,y)])):=by
   refine⟨W.st _ _ _ p2.pl fun b o hb hl=>?_,fun b hb=>⟨(p2.out b hb).1,?_⟩⟩
   ·refine(Z06 fun z=>?_).trans hb;subst z;rcases hl with hl|⟨x1,y1,hl⟩
    ·exact np hl
    ·rw[hp]at hb;cases hb;cases hl
   ·by_cases z:b=p
    ·rw[z,Z05];simp
    ·rw[Z06 z];exact(p2.out b hb).2
  exact h2 Hc2 _ e3 p3 p _ (OwO.dicI (ps:=[(k,b)]) ⟨y,[],rfl,ry,rfl⟩) hc2 n Z05
 |_=>exact fun h2=>h2.elim
def Z2l (i:Nat)(fi fa:Ef):Sf:=fun ρ ω=>Fl.of (fa ρ ω) fun u ω1=>match (ρ[i]?).bind (fun o=>o.bind asD)with
 |some ps=>Fl.of (fi ρ ω1) fun k ω2=>match k with
  |.int k=>if ps.length<10000 then .nx (ρ.set i (some (dicI (putI ps k u)))) ω2 else .stk
  |_=>.stk
 |none=>.stk
theorem Zg6 {o:Option (Option U)}{ps:Ps}(h:(o.bind (fun o=>o.bind asD))=some ps):o=some (some (dicI ps)):=by
 cases o with
 |none=>cases h
 |some o=>cases o with
  |none=>cases h
  |some u=>rw[Z2k (show asD u=some ps from h)]
theorem Zg7 (h2:i∈m.M)(hi:DB W m E tb fb)(ha:DE W m E ta fa):DS W m E (tAsg ta (gSub (tVar i) tb Zq3)) (Z2l i fb fa):=by
 intro H0 Hc0 ρ ω σ Hc H ow S x D h;refine ha H0 ρ ω σ Hc H ow S _ ((Cont.of x h).imp fun u ω1 Hc1 H1 e1 p1 k v rv=>?_);have S1:=S.ext e1 p1;have x1:=x.trans e1;revert k
 cases q:(ρ[i]?).bind (fun o=>o.bind asD)with
 |none=>exact fun k=>k.elim
 |some ps=>
  intro k;have e:=Zg6 q;obtain⟨ob,kvs,z2,z3,z4,z5,z6⟩:=S1.muI h2 e;refine⟨_,z2,hi H0 ρ ω1 σ Hc1 H1 ow S1 _ ((Cont.of x1 k).imp fun ku ω2 Hc2 H2 e2 p2 k2 y ry=>?_)⟩;revert k2
  cases ku with
  |int kk=>
   have:=ry.int;subst this
   simp only;split
   ·rename_i hl
    intro k2;have S2:=S1.ext e2 p2;obtain⟨ob',kvs',y2,y3,y4,y5,y6⟩:=S2.muI h2 e;refine⟨ow i,ob',kvs',kk,rfl,rfl,y3,by rw[<-y6.len,sizeLine_eq];omega,fun ob2=>?_⟩;exact k2 _ Hc2 _ ow (S2.mutO h2 e (OwO.dicI (y6.put (rv.mono e2.sc)))) (S2.mutE h2 e (x1.trans e2))
   ·exact fun k2=>k2.elim
  |_=>exact fun k2=>k2.elim
end
def Z3x:List Nat->En->En
 |[],ρ=>ρ
 |i::is,ρ=>Z3x is (ρ.set i none)
theorem Z73:∀(is:List Nat)(ρ:En),(Z3x is ρ).length=ρ.length
 |[],ρ=>rfl
 |i::is,ρ=>by rw[Z3x,Z73 is];simp
theorem Z2e:∀{is:List Nat}{ρ:En}{j:Nat}{u:U},(Z3x is ρ)[j]?=some (some u)->j∉is/\ρ[j]?=some (some u)
 |[],ρ,j,u,h=>⟨by simp,h⟩
 |i::is,ρ,j,u,h=>by
  obtain⟨h1,h2⟩:=Z2e (is:=is) h;rw[List.getElem?_set]at h2;by_cases e:i=j
  ·rw[if_pos e]at h2;split at h2<;>cases h2
  ·rw[if_neg e]at h2;exact⟨fun z=>(List.mem_cons.mp z).elim (fun y=>e y.symm) h1,h2⟩
def Z74 (is:List Nat):Fl->Fl
 |.nx ρ ω=>.nx (Z3x is ρ) ω
 |.bk ρ ω=>.bk (Z3x is ρ) ω
 |.ct ρ ω=>.ct (Z3x is ρ) ω
 |o=>o
def sFz (is:List Nat)(g:Sf):Sf:=fun ρ ω=>Z74 is (g ρ ω)
section
variable {W:Wd}{m:Md}{E:XK}{t:TS}{g:Sf}
theorem Sr.unfz {ρ:En}{ω:Om}{σ:St}{H0 Hc H:Hp}{ow:Nat->Addr}{M' is:List Nat}(h1:∀ j∈m.M,j∈is\/j∈M')(h2:∀ j∈M',j∈m.M)(S:Sr W ⟨m.B,M'⟩ ρ ω σ H0 Hc H ow):Sr W m (Z3x is ρ) ω σ H0 Hc H ow:=by
 refine⟨S.sub,S.s0,S.p0,by rw[Z73];exact S.len,S.pl,fun j u n1 n2 h=>?_,fun j u n1 n2 h=>?_,fun j u n h=>?_,fun i j u w ni nj ne hi hj=>?_⟩
 ·obtain⟨_,h⟩:=Z2e h;exact S.cl j u n1 (fun z=>n2 (h2 j z)) h
 ·obtain⟨_,h⟩:=Z2e h;exact S.bo j u n1 (fun z=>n2 (h2 j z)) h
 ·obtain⟨k,h⟩:=Z2e h;exact S.mu j u ((h1 j n).resolve_left k) h
 ·obtain⟨k1,hi⟩:=Z2e hi;obtain⟨k2,hj⟩:=Z2e hj;exact S.di i j u w ((h1 i ni).resolve_left k1) ((h1 j nj).resolve_left k2) ne hi hj
theorem Zt6 (is M':List Nat)(h1:∀ j∈m.M,j∈is\/j∈M')(h2:∀ j∈M',j∈m.M)(hB:∀ i∈m.M,i∉m.B)(h:DS W ⟨m.B,M'⟩ E t g):DS W m E t (sFz is g):=by
 intro H0 Hc0 ρ ω σ Hc H ow S x D k;obtain⟨Hf,Sf',xf⟩:=S.freeze M' h2 hB x;refine h H0 Hc0 ρ ω σ Hf H ow Sf' xf D ?_;unfold sFz at k;revert k
 cases g ρ ω with
 |nx ρ' ω'=>exact fun k σ' Hc' H' ow' S' x'=>k σ' Hc' H' ow' (S'.unfz h1 h2) x'
 |bk ρ' ω'=>exact fun k σ' Hc' H' ow' S' x'=>k σ' Hc' H' ow' (S'.unfz h1 h2) x'
 |ct ρ' ω'=>exact fun k σ' Hc' H' ow' S' x'=>k σ' Hc' H' ow' (S'.unfz h1 h2) x'
 |rt u ω'=>exact fun k=>k
 |err c pl ω'=>exact fun k=>k
 |stk=>exact fun k=>k
end
def Itk (a:Addr)(ob:Obj)(kvs:List (Int×V)):It:=
 ⟨fun i H=>H a=some (dE a ob kvs)/\i<kvs.length,fun i H x H'=>H'=H/\∃ p,kvs[i]?=some p/\x=.int p.1,fun i H=>H a=some (dE a ob kvs)/\kvs.length<=i⟩
def epOf (ob:Obj):Nat:=match ob.data with
 |.dict _ ep=>ep
 |_=>0
theorem Zdg {P:Program}{w:World}{H:Hp}{h:Heap}{a:Addr}{ob:Obj}{kvs:List (Int×V)}(x:Z0s P w H h a (dE a ob kvs)):(a==sysModules)=false/\∃ vs,KV (kvK kvs) vs/\h.DictAt (Z0d P w) a vs (epOf ob):=by
 obtain⟨⟨e,ns,hl,es,ep,h1,h2,h3,h4⟩,_,_⟩:=x;obtain⟨vs,a1,a2,a3⟩:=Z4f (P:=P) (w:=w) h3;refine⟨ns,vs,a1,ob,es,e,h1,?_,fun x hx=>a2 x (by simpa using hx),a3,(Zdc a1).mpr h4⟩;unfold epOf;rw[h2]
theorem Zt7 {kvs:List (Int×V)}{vs:List (Key×Value)}(r:KV (kvK kvs) vs){i:Nat}{p:Int×V}(h:kvs[i]?=some p):∃ v,vs[i]?=some (.inl p.1,v)/\RelV p.2 v:=by
 induction kvs generalizing vs i with
 |nil=>simp at h
 |cons q kvs ih=>
  have r:KV ((Sum.inl q.1,q.2)::kvK kvs) vs:=r
  cases r with
  |cons r1 r2=>
   rename_i b bs
   cases i with
   |zero=>
    simp at h;subst h;refine⟨b.2,?_,r1.2⟩;show some b=_;rw[show(Sum.inl q.1:Key)=b.1 from r1.1]
   |succ i=>
    obtain⟨v,z1,z2⟩:=ih r2 (show kvs[i]?=some p by simpa using h);exact⟨v,by simpa using z1,z2⟩
theorem Zdh {P:Program}{w:World}{K:L2.Fg}{tg:Expr}(a it:Addr)(ob:Obj)(kvs:List (Int×V)):Turn P w K tg (Itk a ob kvs) [it] it (fun i h=>h.IsKeyIter it a i kvs.length (epOf ob)) where
 mem:=by simp
 obj:=fun i h st b hb=>by
  have e:b=it:=by simpa using hb
  subst e;obtain⟨o,e,c,d⟩:=st;exact⟨o,e,fun v z=>by rw[d]at z;cases z⟩
 keep:=fun i h h' st k=>st.at fun o e=>k it (by simp) o e
 item:=by
  intro X hP hw hK hc i pins s σ H E I hf st hg;subst hP hw hK;obtain⟨ha,hi⟩:=hg;obtain⟨ns,vs,rv,hat⟩:=Zdg (I.hok a _ ha);have hl:vs.length=kvs.length:=by rw[<-rv.length,List.length_map]
  have hx:kvs[i]?=some kvs[i]:=by simp[hi]
  obtain⟨v,hv,_⟩:=Zt7 rv hx;obtain⟨f0,f1,f2,f3,f4,f5⟩:=hf it (by simp);rw[<-hl]at st;refine wpAny_pyNext_dict_item st hat hv fun key h' hkey st' sb=>?_;have I1:Inv X pins σ H { s with heap:=h' }:=I.turned (t':=s.toks) (fun b o hb e=>(sb.2 b hb).trans e) f0 f1 f3 f4 f5;obtain⟨o,e,c,d⟩:=id st';have ru:RelV (.int kvs[i].1) key:=by
   rcases Z0j (show Z38 (Sum.inl kvs[i].1) key=true from hkey)with ⟨n,t,z1,z2⟩|⟨x,t,z1,z2⟩
   ·cases z1;exact⟨t,z2⟩
   ·cases z1
  rw[hl]at st';exact⟨key,rfl,Z9y (s:={ s with heap:=h' }) e c d (by decide) ⟨.int kvs[i].1,H,I1,ru,⟨rfl,kvs[i],hx,rfl⟩,st',fun b hb=>(hf b hb).1⟩⟩
 done:=by
  intro X hP hw hK hc i pins s σ H E I hf st hg;subst hP hw hK;obtain⟨ha,hi⟩:=hg;obtain⟨ns,vs,rv,hat⟩:=Zdg (I.hok a _ ha);have hl:vs.length=kvs.length:=by rw[<-rv.length,List.length_map]
  obtain⟨f0,f1,f2,f3,f4,f5⟩:=hf it (by simp);rw[<-hl]at st;exact wpAny_pyNext_dict_end (I.ok.hd hc) st hat (by simp;omega) fun h' eb=>⟨rfl,I.turned (t':=s.toks) (fun b o hb e=>eb b o hb e) f0 f1 f3 f4 f5⟩
 self:=fun ψ ψ ψ ψ ψ st h=>wpAny_pyIter_keyiter st h
def iDic (tl:TE):TI:=fun σ H R=>tl σ H fun x H1=>∃ a ob kvs,x=.ref a/\H1 a=some (dE a ob kvs)/\R (Itk a ob kvs) H1
theorem Zq7 {X:Cx}{tg l:Expr}{tl:TE}(hl:PE X l tl):PI X tg l (iDic tl):=by
 intro pins s σ H R I h;refine thn (hl pins s σ H _ I h) fun v s1 ⟨x,H1,I1,r1,q1⟩=>?_;obtain⟨a,ob,kvs,e,ha,q⟩:=q1;subst e
 cases r1;obtain⟨ns,vs,rv,hat⟩:=Zdg (I1.hok a _ ha);have hl:vs.length=kvs.length:=by rw[<-rv.length,List.length_map]
 refine wpAny_pyIter_dict ns hat ?_;refine⟨s1.heap.objs.size,[s1.heap.objs.size],_,_,H1,rfl,I1.kept (t':=s1.toks) fun b o e=>Heap.get?_push_of_some _ e,Zdh a _ ob kvs,⟨_,Heap.get?_push_size _ rfl,rfl,by rw[hl];rfl⟩,fun b hb=>?_,q⟩;have e:b=s1.heap.objs.size:=by simpa using hb
 subst e;exact I1.fpOk (Nat.le_refl _) (I1.hok.fresh (Nat.le_refl _))
def Z75 (ps:Ps):List U:=ps.map fun p=>U.int p.1
def Zdi (fa:Ef):Af:=fun ρ ω=>(fa ρ ω).bnd fun u ω1=>.of ((asD u).map Z75) ω1
section
variable {W:Wd}{m:Md}{E:XK}{c:Bool}{ta:TE}{fa:Ef}{i:Nat}
theorem Zt8 {Hb Hc:Hp}{a:Addr}{ob:Obj}{ps:Ps}{kvs:List (Int×V)}(r:RPs W Hc ps kvs)(k:∀ Hc2 H2,Same Hc Hc2->Same Hc2 H2->(∀ b o,b∉W.L->Hb b=some o->H2 b=some o)->H2 a=some (dE a ob kvs)):ItR W Hb Hc (Itk a ob kvs) (Z75 ps):=by
 intro Hc2 H2 s1 s2 s3;have ha:=k Hc2 H2 s1 s2 s3;have hk:=r.keys;refine⟨fun i u hu=>?_,ha,by rw[Z75,List.length_map,r.len];exact Nat.le_refl _⟩;unfold Z75 at hu;rw[List.getElem?_map]at hu
 cases q:ps[i]? with
 |none=>rw[q]at hu;cases hu
 |some p=>
  rw[q]at hu;cases hu;have li:i<kvs.length:=by rw[<-r.len];exact(List.getElem?_eq_some_iff.mp q).1
  refine⟨⟨ha,li⟩,fun x H3 y=>?_⟩;obtain⟨rfl,p',hp',rfl⟩:=y;have e:p'.1=p.1:=by
   have h1:(kvs.map (·.1))[i]?=some p'.1:=by rw[List.getElem?_map,hp'];rfl
   rw[hk,List.getElem?_map,q]at h1;exact(Option.some.inj h1).symm
  exact⟨Hc2,Ext.refl s2,fun ψ ψ h=>h,by rw[e];exact .int⟩
theorem Zq8 (ha:DE W m E ta fa):DI W m E c (iDic ta) (Zdi fa):=by
 intro H0 ρ ω σ Hc H ow S R h;refine ha H0 ρ ω σ Hc H ow S _ ((Aft.bnd h).imp fun u ω1 Hc1 H1 e1 p1 h1 v rv=>?_);revert h1
 cases q:asD u with
 |none=>exact fun h1=>h1.elim
 |some ps=>
  intro h1;have:=Z2k q;subst this
  have rv':RU W Hc1 (L2.dicI ps) v:=rv;unfold L2.dicI at rv';rw[RU]at rv';obtain⟨a,ob,kvs,rfl,ha,k,r⟩:=rv';exact⟨a,ob,kvs,rfl,e1.sub _ _ ha,h1 Hc1 H1 (Ext.refl e1.sub) p1 _ (Zt8 (.of k r) fun Hc2 H2 s1 s2 ψ=>s2 _ _ (s1 _ _ ha))⟩
end
theorem Z76 {kvs:List (Int×V)}{vs:List (Key×Value)}{P:Program}{w:World}{acc:List Value}(r:KV (kvK kvs) vs)(hl:acc.length=vs.length)(h:∀(i:Nat)(v:Value),acc[i]?=some v->∃ k x,vs[i]?=some (k,x)/\(Z0d P w).is k v=true):IntsAre acc (kvs.map (·.1)):=by
 induction kvs generalizing vs acc with
 |nil=>
  have r:KV [] vs:=r
  cases r;rw[List.length_nil]at hl;rw[List.length_eq_zero_iff.mp hl];exact .nil
 |cons q kvs ih=>
  have r:KV ((Sum.inl q.1,q.2)::kvK kvs) vs:=r
  cases r with
  |cons r1 r2=>
   rename_i b bs
   cases acc with
   |nil=>simp at hl
   |cons x acc=>
    obtain⟨k,y,z1,z2⟩:=h 0 x rfl;simp at z1;have e:k=.inl q.1:=by rw[show(Sum.inl q.1:Key)=b.1 from r1.1,z1]
    subst e;rcases Z0j (show Z38 (Sum.inl q.1) x=true from z2)with ⟨n,t,y1,y2⟩|⟨n,t,y1,y2⟩
    ·cases y1;subst y2;exact .cons _ _ (ih r2 (by simpa using hl) fun i v hv=>by
      obtain⟨k,x,z1,z2⟩:=h (i+1) v (by simpa using hv);exact⟨k,x,by simpa using z1,z2⟩)
    ·cases y1
section
variable {ι:Type}(X:L2.FC ι)(W:Wd)(m:Md)(E:XK)
def QO (e:Expr)(f:Ef):Prop:=∃ t,(∀ x,PE (X x) e t)/\DO W m E t f
end
section
variable {ι:Type}{X:L2.FC ι}{W:Wd}{m:Md}{E:XK}{a b e:Expr}{fa fb f:Ef}{pos p tp:Pos}{x:Str}{c:Bool}{tg:Expr}{ss:List Stmt}{g:Sf}
theorem QO.te (h:QO X W m E e f):QE X W m E e f:=let ⟨t,p,d⟩:=h;⟨t,p,d.e⟩
theorem QO.tb (h:QO X W m E e f):QB X W m E e f:=h.te.tb
theorem Z77:QO X W m E (.Dict [] [] pos) Z72:=⟨_,fun ψ=>Zl9,Zq5⟩
theorem Zi3 (ha:QB X W m E a fa)(hb:QE X W m E b fb):QO X W m E (.Dict [some a] [b] pos) (eD1 fa fb):=let ⟨_,pa,da⟩:=ha;let ⟨_,pb,db⟩:=hb;⟨_,fun y=>Zde (pa y) (pb y),Zq6 da db⟩
theorem Z3h (i:Nat)(hN:∀ y,(X y).N.Nodup)(ha:QO X W m E a fa)(hs:∀ y,swapsWith a (some (.Name x p)) pos.line (X y).env=pure false:=by intro ψ;rfl)(h1:i∉m.B:=by decide)(h2:i∈m.M:=by decide)(hi:∀ y,(X y).N[i]?=some x:=by intro ψ;rfl)(hx:∀ y,Loc (X y).env.scope x:=by intro ψ;first|exact Or.inl rfl|exact Or.inr rfl)
  (hf:∀ y,(X y).fn x=true\/(X y).env.scope.names.lookup x=some .local:=by intro ψ;first|exact .inl rfl|exact .inr rfl):QS X W m E (.Assign [.Name x p] a pos) (sSet i fa):=let ⟨_,pa,da⟩:=ha;⟨_,fun y=>Zbi (hN y) (hi y) (hx y) (pa y) (hs y) (hf y),Zlb h1 h2 da⟩
theorem Z87 (cx:Ctx X W E)(ha:QB X W m E a fa)(hb:QB X W m E b fb)(hs:NoSl b:=by exact fun ψ ψ=>rfl):QE X W m E (.Subscript a b pos) (eOp Z4g fa fb):=let ⟨_,pa,da⟩:=ha;let ⟨_,pb,db⟩:=hb;⟨_,fun y=>Zl8 (by have:=cx.hu y;omega) (pa y) (pb y) hs,Zla da db⟩
theorem Zq9 (cx:Ctx X W E)(ha:QB X W m E a fa)(hb:QB X W m E b fb)(hm:lastMarks [.In] [b]=false:=by with_unfolding_all rfl):QE X W m E (.Compare a [.In] [b] pos) (eOp (uDIn false) fa fb):=let ⟨_,pa,da⟩:=ha;let ⟨_,pb,db⟩:=hb;⟨_,fun y=>Zmp (Zi2 (by have:=cx.hu y;omega) (pa y) (pb y)) hm,Zdf da db⟩
theorem Zi4 (cx:Ctx X W E)(ha:QB X W m E a fa)(hb:QB X W m E b fb)(hm:lastMarks [.In] [b]=false:=by with_unfolding_all rfl):QT X W m E (.Compare a [.In] [b] pos) (tfB (eOp (uDIn false) fa fb)):=let ⟨_,pa,da⟩:=ha;let ⟨_,pb,db⟩:=hb;⟨_,fun y=>Zhe (Zi2 (by have:=cx.hu y;omega) (pa y) (pb y)) hm,dt_b (Zdf da db).b⟩
theorem Z78 (cx:Ctx X W E)(ha:QB X W m E a fa)(hb:QB X W m E b fb)(hm:lastMarks [.NotIn] [b]=false:=by with_unfolding_all rfl):QT X W m E (.Compare a [.NotIn] [b] pos) (tfB (eOp (uDIn true) fa fb)):=let ⟨_,pa,da⟩:=ha;let ⟨_,pb,db⟩:=hb;⟨_,fun y=>Zhe (Zdd (by have:=cx.hu y;omega) (pa y) (pb y)) hm,dt_b (Zdf da db).b⟩
theorem Z3i (i:Nat)(cx:Ctx X W E)(ha:QE X W m E a fa)(hb:QB X W m E b fb)(h2:i∈m.M:=by decide)(hN:∀ y,(X y).N[i]?=some x:=by intro ψ;rfl)(hv:∀ y,Vis (X y).env.scope x:=by intro ψ;first|exact Or.inl rfl|exact Or.inr (Or.inl rfl)|exact Or.inr (Or.inr rfl))(hd:(x==("__debug__" : Str))=false:=by decide)(hcd:(x==("__classdict__" : Str))=false:=by decide)
  (hs:∀ y,swapsWithSole [.Subscript (.Name x p) b tp] a pos.line (X y).env=pure false:=by intro ψ;rfl)(hw:∀ y,swappedStores [.Subscript (.Name x p) b tp] a (X y).env=pure none:=by intro ψ;rfl)(h1:∀ y,(assignEach [.Subscript (.Name x p) b tp] (X y).env).map (·.2)=[assign (.Subscript (.Name x p) b tp) (X y).env]:=by intro ψ;rfl)
  (hq:∀ y v,assign (.Subscript (.Name x p) b tp) (X y).env v=(do
   let ov <- holding [v] (eval (.Name x p) (X y).env)
   let iv <- holding [v, ov] (eval b (X y).env)
   standAt tp
   holding [v,ov,iv] (setItem ov iv v)
   release [v,ov,iv] []):=by intro ψ ψ;rfl):QS X W m E (.Assign [.Subscript (.Name x p) b tp] a pos) (Z2l i fb fa) :=
 let ⟨_, pa, da⟩ := ha; let ⟨_, pb, db⟩ := hb; ⟨_, fun y => Z8o (pa y) (Zbh (Z1w (hN y) (hv y) hd hcd) (pb y) (Zt5 (by have := cx.hu y; omega)) (hq y)) (hs y) (hw y) (h1 y), Zg7 h2 db da⟩
theorem Zi5 (ha:QE X W m E a fa):QI X W m E c tg a (Zdi fa):=let ⟨_,pa,da⟩:=ha;⟨_,fun y=>Zq7 (pa y),Zq8 da⟩
theorem Zi6 (is M':List Nat)(h:QSs X W ⟨m.B,M'⟩ E ss g)(h1:∀ j∈m.M,j∈is\/j∈M':=by decide)(h2:∀ j∈M',j∈m.M:=by decide)(hB:∀ i∈m.M,i∉m.B:=by decide):QSs X W m E ss (sFz is g):=let ⟨_,p,d⟩:=h;⟨_,p,Zt6 is M' h1 h2 hB d⟩
end
section
variable {prog:Program}{w:World}{A:Around}{E:L2.VSP}{s:Shared}{a b:Addr}{oa ob:Obj}{ea eb:Array DictEntry}{pa pb:Nat}{id:String}{e:Nat->Bool}
theorem Z58 {Q:Bool->Shared->Prop}(knd:PySem.KeyKind prog w Key)(ha:s.heap.get? a=some oa)(da:oa.data=.dict ea pa)(hb:s.heap.get? b=some ob)(db:ob.data=.dict eb pb)(na:(a==sysModules)=false)(nb:(b==sysModules)=false)
  (hsz:ea.size=eb.size)(kb:PySem.KeysOf knd eb)
  (hk:∀ i (hi:i<ea.size),∃ k,knd.is k ea[i].key=true/\ea[i].hash=knd.hash k/\((eb.findIdx? (fun x=>knd.is k x.key)=none/\e i=false)\/∃ j,∃ hj:j<eb.size,eb.findIdx? (fun x=>knd.is k x.key)=some j/\SeqAt.EqAt A s ea[i].val eb[j].val (e i)))
  (h:Q ((List.range ea.size).all e) s):wpAny (model prog w) A (Builtin.Dict.samePairs id a b) Q E s:=by
 unfold Builtin.Dict.samePairs;unfold Builtin.Dict.showsAll;rw[if_neg (by rw[na];exact Bool.false_ne_true),if_neg (by rw[nb];exact Bool.false_ne_true)];refine wpAny_bind (wpAny_pure (wpAny_bind (wpAny_pure ?_)));refine wpAny_bind (wpAny_dictEntries ha da ?_);refine wpAny_bind (wpAny_dictEntries hb db ?_);rw[if_neg (by rw[hsz];simp)];refine wpAny_bind (wpAny_dictEpoch ha da ?_);refine wpAny_bind ?_;rw[Std.Legacy.Range.forIn_eq_forIn_range'];simp only[Std.Legacy.Range.size,Nat.sub_zero,Nat.add_sub_cancel,Nat.div_one];refine wpAny_forIn_list _ (fun rest b s'=>s'=s/\b=(none,())/\∃ i,rest=List.range' i (ea.size-i)/\i<=ea.size/\(List.range i).all e=true) _ ?_ ?_ _ _ ⟨rfl,rfl,0,by simp,Nat.zero_le _,by simp⟩
 ·rintro x rest b' s' ⟨rfl,rfl,i,hr,hi,hall⟩;have hlt:i<ea.size:=by
   rcases Nat.lt_or_ge i ea.size with h|h
   ·exact h
   ·rw[Nat.sub_eq_zero_of_le h]at hr;simp at hr
  obtain⟨rfl,hrest⟩: x=i/\rest=List.range' (i+1) (ea.size-(i+1)):=by
   have e:ea.size-i=(ea.size-(i+1))+1:=by omega
   rw[e,List.range'_succ]at hr;injection hr with h1 h2;exact⟨h1,h2⟩
  refine wpAny_bind (wpAny_dictEntries ha da ?_);rw[Array.getElem?_eq_getElem hlt];obtain⟨k,k1,k2,k3⟩:=hk x hlt;have e0:e x=false->Q false s':=fun q=>by
   have e0:(List.range ea.size).all e=false:=by
    rw[List.all_eq_false];exact⟨x,List.mem_range.mpr hlt,by rw[q];simp⟩
   rw[e0]at h;exact h
  show wpAny _ _ (holding [ea[x].key,ea[x].val] _ >>= _) _ _ _;refine wpAny_bind (wpAny_holding ?_);rw[k2];refine wpAny_bind (wpAny_dictFind_of k1 hb db kb ?_);rcases k3 with ⟨z1,z2⟩|⟨j,hj,z1,z2⟩
  ·rw[z1];refine wpAny_pure ?_;rw[if_pos (by rfl)];exact wpAny_pure (wpAny_pure (e0 z2))
  ·rw[z1];refine wpAny_bind (wpAny_dictEntries hb db ?_);rw[Array.getElem?_eq_getElem hj];refine wpAny_holding (z2 _ _ _ _ ?_)
   cases q:e x with
   |false=>
    rw[if_pos (by rfl)];exact wpAny_pure (wpAny_pure (e0 q))
   |true=>
    rw[if_neg (by simp)];refine wpAny_bind (wpAny_dictEpoch ha da ?_);rw[if_neg (by simp)];refine wpAny_pure ⟨rfl,rfl,x+1,hrest,hlt,?_⟩;rw[List.range_succ,List.all_append,hall];simp[q]
 ·rintro b' s' ⟨rfl,rfl,i,hr,hi,hall⟩;have hin:i=ea.size:=by
   rcases Nat.lt_or_ge i ea.size with h|h
   ·have e:ea.size-i=(ea.size-(i+1))+1:=by omega
    rw[e,List.range'_succ]at hr;cases hr
   ·omega
  subst hin;rw[hall]at h;exact wpAny_pure h
theorem Zdj {Q:Bool->Shared->Prop}(ha:s.heap.get? a=some oa)(da:oa.data=.dict ea pa)(hb:s.heap.get? b=some ob)(db:ob.data=.dict eb pb)(na:(a==sysModules)=false)(nb:(b==sysModules)=false)
  (hsz:ea.size≠eb.size)(h:Q false s):wpAny (model prog w) A (Builtin.Dict.samePairs id a b) Q E s:=by
 unfold Builtin.Dict.samePairs;unfold Builtin.Dict.showsAll;rw[if_neg (by rw[na];exact Bool.false_ne_true),if_neg (by rw[nb];exact Bool.false_ne_true)];refine wpAny_bind (wpAny_pure (wpAny_bind (wpAny_pure ?_)));refine wpAny_bind (wpAny_dictEntries ha da ?_);refine wpAny_bind (wpAny_dictEntries hb db ?_);rw[if_pos (by simp[hsz])];exact wpAny_bind (wpAny_rule (wpAny_pure h))
theorem Z5v:isSubtype (.type "dict") (.type "dict")=pure true:=by rw[isSubtype_type];kernel_rfl
theorem Zdk {k:Bool}{P:PySem.Fin->Shared->Prop}(Tb:s.TypeIs (.ref b) "dict")(hs:∀ id (Q:Bool->Shared->Prop),Q k s->wpAny (model prog w) A (Builtin.Dict.samePairs id a b) Q E s)(h:P (.done (.ret (.bool k))) s):wpAny (model prog w) A (Builtin.«dict.__eq__» ⟨[.ref a,.ref b],[]⟩) P E s:=by
 show wpAny _ _ (Builtin.Dict.dictSlotArgs "__eq__" ⟨[.ref a,.ref b],[]⟩ >>= _) _ _ _;refine wpAny_bind (wpAny_pure ?_);refine wpAny_bind (wpAny_isInstance Tb Z5v ?_);rw[if_neg (by simp)];refine wpAny_bind (wpAny_pure (wpAny_bind (wpAny_pure ?_)));refine wpAny_bind (hs _ _ ?_);rw[show(k==true)=k by cases k<;>rfl];exact wpAny_pure h
end
def Z2u (ka:List Int)(ds:List L2.D)(kb:List Int)(es:List L2.D):Bool:=decide (ka.length=kb.length)&&(List.range ka.length).all fun i=>match kb.findIdx? (fun k=>decide (k=ka.getD i 0))with
 |some j=>L2.D.eq (ds.getD i .non) (es.getD j .non)
 |none=>false
theorem Z32 {α β:Type}{F:α->β->Prop}:∀{xs:List α}{ys:List β},Paired F xs ys->∀{i:Nat}{x:α},xs[i]?=some x->∃ y,ys[i]?=some y/\F x y
 |_,_,.nil,i,x,h=>by simp at h
 |_,_,.cons r t,0,x,h=>by simp at h;subst h;exact⟨_,rfl,r⟩
 |_,_,.cons r t,i+1,x,h=>by
  obtain⟨y,h1,h2⟩:=Z32 t (i:=i) (by simpa using h);exact⟨y,by simpa using h1,h2⟩
theorem Z33 {α β:Type}{F:α->β->Prop}:∀{xs:List α}{ys:List β},Paired F xs ys->xs.length=ys.length
 |_,_,.nil=>rfl
 |_,_,.cons r t=>by simp[Z33 t]
theorem Z2v {K:L2.Fg}{H:Hp}:∀{ds:List L2.D}{vs:List V},DVs K H ds vs->∀{i:Nat}{v:V},vs[i]?=some v->DV K H (ds.getD i .non) v
 |[],vs,h,i,v,e=>by rw[DVs]at h;subst h;simp at e
 |d::ds,vs,h,i,v,e=>by
  rw[DVs]at h;obtain⟨x,r,rfl,h1,h2⟩:=h
  cases i with
  |zero=>simp at e;subst e;exact h1
  |succ i=>simpa using Z2v h2 (i:=i) (by simpa using e)
theorem Z88:∀{ds:List L2.D}{i:Nat},(ds.getD i .non).depth<=max 1 (L2.D.depths ds)
 |[],i=>by
  show L2.D.depth .non<=_;rw[L2.D.depth];all_goals simp
 |d::ds,i=>by
  rw[L2.D.depths]
  cases i with
  |zero=>show d.depth<=_;omega
  |succ i=>
   have:=Z88 (ds:=ds) (i:=i)
   show(ds.getD i .non).depth<=_;omega
theorem fidx {α:Type}(p:α->Bool)(xs:Array α):xs.findIdx? p=xs.toList.findIdx? p:=by
 cases xs;simp
def rEqD (K:L2.Fg)(neg:Bool):R2:=fun x y H Q=>∃ a b oa ob ka kb ds es,x=.ref a/\y=.ref b/\H a=some (dE a oa ka)/\H b=some (dE b ob kb)/\DVs K H ds (ka.map (·.2))/\DVs K H es (kb.map (·.2))/\L2.D.depths ds<=40 /\
 Q (.bl (if neg then !Z2u (ka.map (·.1)) ds (kb.map (·.1)) es else Z2u (ka.map (·.1)) ds (kb.map (·.1)) es)) H
section
variable {X:Cx}{pins:L2.AO}{σ:St}{H:Hp}{s:Shared}
theorem Zlc {A:Around}{a b:Addr}{oa ob:Obj}{ka kb:List (Int×V)}{ds es:List L2.D}{E:L2.VSP}(I:Inv X pins σ H s)(ha:H a=some (dE a oa ka))(hb:H b=some (dE b ob kb))(h1:DVs X.K H ds (ka.map (·.2)))(h2:DVs X.K H es (kb.map (·.2)))(hu:A.units+(max 1 (L2.D.depths ds))<cLine) :
  s.TypeIs (.ref a) "dict" /\ s.TypeIs (.ref b) "dict" /\ ∀ id (Q:Bool->Shared->Prop),Q (Z2u (ka.map (·.1)) ds (kb.map (·.1)) es) s->wpAny (model X.prog X.w) A (Builtin.Dict.samePairs id a b) Q E s:=by
 obtain⟨⟨ea1,na,la,ea,pa,xa,da,qa,_⟩,_,_⟩:=I.hok a _ ha;obtain⟨⟨eb1,nb,lb,eb,pb,xb,db,qb,ndb⟩,_,_⟩:=I.hok b _ hb;refine⟨⟨oa,ea1,xa.1⟩,⟨ob,eb1,xb.1⟩,fun id Q h=>?_⟩;have sa:ea.size=ka.length:=by rw[<-Array.length_toList];exact Z33 qa
 have sb:eb.size=kb.length:=by rw[<-Array.length_toList];exact Z33 qb
 unfold Z2u at h;simp only[List.length_map]at h;by_cases hl:ka.length=kb.length
 ·rw[decide_eq_true hl,Bool.true_and,<-sa]at h;obtain⟨vs,kv,kk,kp⟩:=Z4f (P:=X.prog) (w:=X.w) qb;refine Z58 (Z0d X.prog X.w) ea1 da eb1 db na nb (by omega) (fun x hx=>kk x (by simpa using hx)) (fun i hi=>?_) h;have hi':ea.toList[i]?=some ea[i]:=by simp[hi]
  obtain⟨p,hp,p1,p2,p3⟩:=Z32 qa hi';refine⟨.inl p.1,p1,p2 X.w,?_⟩;have ek:(ka.map (·.1)).getD i 0=p.1:=by simp[List.getD,hp]
  have ef:eb.findIdx? (fun x=>(Z0d X.prog X.w).is (.inl p.1) x.key)=(kb.map (·.1)).findIdx? (fun k=>decide (k=p.1)):=by
   rw[fidx,kp.findIdx];have:vs.map (·.1)=(kb.map (·.1)).map (Sum.inl:Int->Key):=by rw[<-kv.keys];simp[kvK]
   rw[show(vs.findIdx? fun kv=>decide (kv.1=Sum.inl p.1))=(vs.map (·.1)).findIdx? (fun k=>decide (k=Sum.inl p.1))by rw[List.findIdx?_map];rfl,this,List.findIdx?_map];congr 1;funext k
   simp only[Function.comp];by_cases c:k=p.1
   ·simp[c]
   ·simp[c]
  rw[ek,ef]
  cases q:(kb.map (·.1)).findIdx? (fun k=>decide (k=p.1))with
  |none=>exact .inl ⟨rfl,rfl⟩
  |some j=>
   have hj:j<eb.size:=by
    have:=(List.findIdx?_eq_some_iff_getElem.mp q).1
    rw[sb];simpa using this
   refine .inr ⟨j,hj,rfl,?_⟩;have hj':eb.toList[j]?=some eb[j]:=by simp[hj]
   obtain⟨p',hp',_,_,p3'⟩:=Z32 qb hj';refine Zc3 I _ _ A p.2 p'.2 _ _ p3 p3' (Z2v h1 (by rw[List.getElem?_map,hp];rfl)) (Z2v h2 (by rw[List.getElem?_map,hp'];rfl)) ?_;exact Nat.lt_of_le_of_lt (Nat.add_le_add_left Z88 _) hu
 ·rw[decide_eq_false hl,Bool.false_and]at h;exact Zdj ea1 da eb1 db na nb (by omega) h
theorem Zqa (hu:X.A.units+64<cLine):OpR X (compareOp .Eq) (rEqD X.K false):=by
 intro pins s σ H x y v u Q I rx ry h;obtain⟨a,b,oa,ob,ka,kb,ds,es,rfl,rfl,ha,hb,h1,h2,hd,q⟩:=h
 cases rx;cases ry;obtain⟨t1,t2,key⟩:=Zlc (A:=X.A.in1) (E:=X.xe) I ha hb h1 h2 (by rw[Z1e];omega);refine wpAny_richCompare_same_room (op:=.Eq) t1 t2 PySem.F.slot_dict_eq (wpAny_call_entry PySem.F.slot_dict_eq t1 PySem.F.entry_dict_eq (Zdk t2 key ⟨_,rfl,(fun z=>nomatch z),?_⟩) (PySem.F.args_dict_eq_2 _ _)) (by omega);exact⟨.bl _,H,I,rfl,q⟩
end
def uEqD (neg:Bool)(u v:U):Option U:=(asD u).bind fun ps=>(asD v).bind fun qs=>(U.toDs (ps.map (·.2))).bind fun ds=>(U.toDs (qs.map (·.2))).bind fun es=>if L2.D.depths ds<=40 then
 some (.bl (if neg then !Z2u (ps.map (·.1)) ds (qs.map (·.1)) es else Z2u (ps.map (·.1)) ds (qs.map (·.1)) es))else none
section
variable {W:Wd}{m:Md}{E:XK}
theorem Zqb {neg:Bool}:OpU W (rEqD W.K neg) (uEqD neg):=by
 intro Hc H ω u1 u2 x y s p rx ry u e Q k;unfold uEqD at e
 cases q1:asD u1 with
 |none=>rw[q1]at e;exact noS e
 |some ps=>
  cases q2:asD u2 with
  |none=>rw[q1,q2]at e;exact noS e
  |some qs=>
   rw[q1,q2]at e;simp only[Option.bind_some]at e
   cases d1:U.toDs (ps.map (·.2))with
   |none=>rw[d1]at e;exact noS e
   |some ds=>
    cases d2:U.toDs (qs.map (·.2))with
    |none=>rw[d1,d2]at e;exact noS e
    |some es=>
     rw[d1,d2]at e;simp only[Option.bind_some]at e;split at e
     ·rename_i hd
      cases e;have:=Z2k q1;subst this
      have:=Z2k q2;subst this
      obtain⟨a,oa,ka,rfl,ha,ra⟩:=rx.dicI s;obtain⟨b,ob,kb,rfl,hb,rb⟩:=ry.dicI s;refine⟨a,b,oa,ob,ka,kb,ds,es,rfl,rfl,ha,hb,Z3q d1 (ra.to.2.mono s),Z3q d2 (rb.to.2.mono s),hd,?_⟩;rw[ra.keys,rb.keys];exact k _ Hc H (Ext.refl s) p .bl
     ·cases e
variable {ι:Type}{X:L2.FC ι}{a b:Expr}{fa fb:Ef}{pos:Pos}
theorem Zld {Y:Cx}{K:L2.Fg}(h:Y.K=K)(hu:Y.A.units+64<cLine):OpR Y (compareOp .Eq) (rEqD K false):=h▸Zqa hu
theorem Zqc (cx:Ctx X W E)(ha:QB X W m E a fa)(hb:QB X W m E b fb):QE X W m E (.Compare a [.Eq] [b] pos) (eOp (uEqD false) fa fb):=Z8z (fun y=>Zld (cx.hK y) (cx.hu y)) Zqb (Z24 _) ha hb
end
section
def two:U->Option (U×U)
 |.tup [a,b]=>some (a,b)
 |_=>none
end
theorem Z79:Slot "reversed" "__init__" "object.__init__" :=
 .of (owner := "object") (n := "__init__") (by rw[typeLookup_type,builtinLookup_eq_fast];kernel_rfl) (by decide +kernel) (by decide +kernel) (by decide +kernel)
  (by first|exact .inl (by decide +kernel)|exact .inr (by decide +kernel)) (by rw[isSubtype_type];kernel_rfl)
theorem Zdl:TypeCalled "reversed" "reversed.__new__" "object.__init__" :=
 ⟨by decide +kernel,by decide +kernel,⟨_,_,PySem.F.mro_reversed⟩,PySem.F.made_reversed,by decide +kernel,by rw[isSubtype_type];kernel_rfl,Z79⟩
theorem Z7a:typeLookup (.type "tuple") "__reversed__" = pure none:=by rw[typeLookup_type,builtinLookup_eq_fast];kernel_rfl
theorem Z1i:Slot "reversed" "__next__" "reversed.__next__" :=
 .of (owner := "reversed") (n := "__next__") (by rw[typeLookup_type,builtinLookup_eq_fast];kernel_rfl) (by decide +kernel) (by decide +kernel) (by decide +kernel)
  (by first|exact .inl (by decide +kernel)|exact .inr (by decide +kernel)) (by rw[isSubtype_type];kernel_rfl)
theorem Z34:entryFor table "reversed.__next__" = some Builtin.«reversed.__next__» := entryFor_of_tree (by kernel_rfl)
theorem Z3t (a:Value):argsOk "reversed.__next__" ⟨[a],[]⟩:=by unfold argsOk;kernel_rfl
theorem Z3u:Slot "reversed" "__iter__" "reversed.__iter__" :=
 .of (owner := "reversed") (n := "__iter__") (by rw[typeLookup_type,builtinLookup_eq_fast];kernel_rfl) (by decide +kernel) (by decide +kernel) (by decide +kernel)
  (by first|exact .inl (by decide +kernel)|exact .inr (by decide +kernel)) (by rw[isSubtype_type];kernel_rfl)
theorem Z7b (a:Value):argsOk "reversed.__iter__" ⟨[a],[]⟩:=by unfold argsOk;kernel_rfl
theorem Z5w:entryFor table "reversed.__iter__" = some Builtin.«dict_keyiterator.__iter__» :=
 entryFor_alias (id' := "dict_keyiterator.__iter__") (by kernel_rfl) (by first | rfl | decide +kernel | (unfold String.splitOn; simp +decide [String.splitOnAux])) (by decide +kernel) (by kernel_rfl)
theorem Z7c:isSubtype (.type "tuple") (.type "dict")=pure false:=by rw[isSubtype_type];kernel_rfl
def Z7d (l:Addr) (i:Int):Obj:={ cls:=.type "reversed",data:=.fields #[.ref l,rawInt i] }
section
variable {prog:Program}{w:World}{A:Around}{E:L2.VSP}{s:Shared}
theorem Zqd {tu:Addr}{its:Array Value}{Q:PySem.Fin->Shared->Prop}(T:s.heap.IsTuple tu its)(hz:its.size<2 ^ 63)
  (q:∀ tk,Q (.done (.ret (.ref s.heap.objs.size))) { s with heap:=s.heap.push (Z7d tu ((its.size:Int)-1)),toks:=tk }) :
  wpAny (model prog w) A (Builtin.«reversed.__new__» ⟨[.type "reversed",.ref tu],[]⟩) Q E s:=by
 unfold Builtin.«reversed.__new__»;refine wpAny_bind (wpAny_of_eq (newClass_reversed _) ?_);try dsimp only
 refine wpAny_bind (wpAny_of_eq (a:=()) (by first|rfl|kernel_rfl) ?_);refine wpAny_bind (wpAny_of_eq (a:=()) (by first|rfl|kernel_rfl) ?_);try dsimp only
 refine wpAny_bind (wpAny_specialOf T.typeIs Z7a ?_);try dsimp only
 refine wpAny_bind ?_;show wpAny _ _ (isInstance (.ref tu) (.type "dict") >>= _) _ _ _;refine wpAny_bind (wpAny_isInstance T.typeIs Z7c ?_);rw[if_neg (by simp)];refine wpAny_bind (wpAny_specialOf T.typeIs PyProof.Rows.slot_tuple_getitem.lookup ?_);dsimp only;rw[if_pos (by decide)];refine wpAny_pure ?_;rw[if_neg (by simp)];refine wpAny_bind (len_tuple (show IsTup s.heap tu its from T) (by omega) ?_);refine wpAny_bind (wpAny_of_eq (a:=some (its.size:Int)) (by rfl) ?_);dsimp only;show wpAny _ _ (newObj (.type "reversed") (.fields #[.ref tu,rawInt ((its.size:Int)-1)]) >>= _) _ _ _;refine wpAny_bind (wpAny_newObj_type ?_);exact wpAny_pure (q _)
theorem Zg8 (tu:Addr)(its:Array Value)(hz:its.size<2 ^ 63):Meets (Builtin.«reversed.__new__» ⟨[.type "reversed",.ref tu],[]⟩) (fun ψ R s=>s.heap.IsTuple tu its/\∀ tk,R (.ok (.ret (.ref s.heap.objs.size))) { s with heap:=s.heap.push (Z7d tu ((its.size:Int)-1)),toks:=tk }):=
 .of_wp fun prog w A R s h=>Zqd h.1 hz fun tk=>⟨_,rfl,h.2 tk⟩
theorem Zle {tu:Addr}{its:Array Value}{Q:L2.VSP}(T:s.heap.IsTuple tu its)(hz:its.size<2 ^ 63)
  (q:∀ tk,Q (.ref s.heap.objs.size) { s with heap:=s.heap.push (Z7d tu ((its.size:Int)-1)),toks:=tk }) :
  wpAny (model prog w) A (call (.type "reversed") [.ref tu]) Q E s:=by
 refine callType_new Zdl (by decide) (PySem.F.typeCall_reversed_1 _) (PySem.F.newCall_reversed_1 _) (fun obj=>PySem.F.args_object_init_2 obj _) PySem.F.entry_reversed_new (Zg8 tu its hz) ⟨T,fun tk=>?_⟩;exact⟨⟨_,Heap.get?_push_size _ rfl,rfl⟩,q tk⟩
def IsRv (h:Heap)(a l:Addr) (i:Int):Prop:=h.get? a=some (Z7d l i)
theorem IsRv.typeIs {a l:Addr}{i:Int}(x:IsRv s.heap a l i):s.TypeIs (.ref a) "reversed" := ⟨_,x,rfl⟩
theorem Zlf {it l:Addr}{i:Nat}{items:Array Value}{x:Value}{Q:Option Value->Shared->Prop}(hit:IsRv s.heap it l (i:Int))(hl:s.heap.IsTuple l items)(hne:l≠it)(hx:items[i]?=some x)(hz:items.size<2 ^ 63)
  (hQ:∀ h' tk,IsRv h' it l ((i:Int)-1)->Heap.SameBut it s.heap h'->Q (some x) { s with heap:=h',toks:=tk }):wpAny (model prog w) A (pyNext (.ref it)) Q E s:=by
 have hi:i<items.size:=by
  rcases Nat.lt_or_ge i items.size with h|h
  ·exact h
  ·rw[Array.getElem?_eq_none h]at hx;cases hx
 unfold pyNext;refine wpAny_bind (wpAny_attempt (wpAny_callSpecial?_slot (name:=Str.ofString "__next__") hit.typeIs Z1i
  (wpAny_call_entry Z1i hit.typeIs Z34 ?_ (Z3t _))))
 unfold Builtin.«reversed.__next__»;refine wpAny_bind (wpAny_of_eq (a:=(Value.ref it,[])) rfl ?_);try dsimp only
 refine wpAny_bind (wpAny_field hit rfl (x:=.ref l) rfl ?_);refine wpAny_bind (wpAny_field hit rfl (x:=rawInt (i:Int)) rfl ?_);show wpAny _ _ (if (i:Int)<0 then _ else _) _ _ s;rw[if_neg (by omega)];refine wpAny_bind (wpAny_specialOf hl.typeIs PyProof.Rows.slot_tuple_getitem.lookup ?_);rw[if_neg (by simp)];refine wpAny_bind (wpAny_mkInt ?_);refine wpAny_bind (wpAny_attempt (getItem_tuple (j:=i) (show IsTup s.heap l items from hl) (by omega) (by omega) (seqIndex_of (by omega) (by omega)) hx ?_));dsimp only;refine wpAny_bind (wpAny_field (s:={ s with toks:=s.toks+1 }) hit rfl (x:=rawInt (i:Int)) rfl ?_);show wpAny _ _ (setField (.ref it) 1 (rawInt ((i:Int)-1)) >>= _) _ _ _;refine wpAny_bind (wpAny_setField (s:={ s with toks:=s.toks+1 }) hit rfl (by simp) ?_);refine wpAny_pure ⟨x,rfl,wpAny_pure (hQ _ _ ?_ (Heap.SameBut.update ..))⟩;show(s.heap.update it _).get? it=_;rw[Heap.get?_update_self _ hit rfl];rfl
theorem Zqe {it l:Addr}{Q:Option Value->Shared->Prop}(hh:A.handled=none)(hit:IsRv s.heap it l (-1))
  (hQ:∀ h',Heap.ExtBut it s.heap h'->Q none { s with heap:=h' }):wpAny (model prog w) A (pyNext (.ref it)) Q E s:=by
 unfold pyNext;refine wpAny_bind (wpAny_attempt (wpAny_callSpecial?_slot (name:=Str.ofString "__next__") hit.typeIs Z1i
  (wpAny_call_entry Z1i hit.typeIs Z34 ?_ (Z3t _))))
 unfold Builtin.«reversed.__next__»;refine wpAny_bind (wpAny_of_eq (a:=(Value.ref it,[])) rfl ?_);try dsimp only
 refine wpAny_bind (wpAny_field hit rfl (x:=.ref l) rfl ?_);refine wpAny_bind (wpAny_field hit rfl (x:=rawInt (-1)) rfl ?_);show wpAny _ _ (if (-1:Int)<0 then _ else _) _ _ s;rw[if_pos (by decide)];refine wpAny_bind (wpAny_rule ?_);refine wpAny_bind ?_;show wpAny _ _ (setField (.ref it) 1 (rawInt (-1)) >>= fun ψ=>setField (.ref it) 0 .none) _ _ _;refine wpAny_bind (wpAny_setField hit rfl (by simp) ?_);have h1:=Heap.get?_update_self (Obj.mapFields (·.setIfInBounds 1 (rawInt (-1)))) hit rfl;refine wpAny_setField (s:={ s with heap:=s.heap.update it (Obj.mapFields (·.setIfInBounds 1 (rawInt (-1)))) }) h1 rfl (by simp) ?_;refine wpAny_bind ?_;show wpAny _ _ (newExc (.type "StopIteration") [] >>= _) _ _ _;refine wpAny_bind ?_;simp only[newExc,newTuple];refine wpAny_bind (wpAny_newObj_type ?_ (by size_fits));refine wpAny_bind (m:=firstArgMember _ _) (wpAny_of_eq (a:=Value.none) (by first|rfl|(simp only[firstArgMember];rfl)) ?_);refine wpAny_newObj_type ?_ (by size_fits);simp only[raiseNew];refine wpAny_bind (wpAny_handled ?_);first|rw[show A.in1.handled=none from hh]|rw[hh]
 refine wpAny_bind (wpAny_pure (wpAny_throw ?_));refine wpAny_bind (wpAny_isInstance (T := "StopIteration") (b:=true) ⟨_,Heap.get?_push_size _ rfl,rfl⟩ isSubtype_stop ?_);exact wpAny_pure (hQ _ ((((Heap.SameBut.update ..).trans (Heap.SameBut.update ..)).extBut.push _).push _))
theorem Zdm {it l:Addr}{i:Int}{Q:L2.VSP}(hit:IsRv s.heap it l i)(h:Q (.ref it) s):wpAny (model prog w) A (pyIter (.ref it)) Q E s:=by
 refine wpAny_pyIter_slot hit.typeIs Z3u (wpAny_call_entry Z3u hit.typeIs Z5w ?_ (Z7b _));show wpAny _ _ (ret (.ref it)) _ _ s;exact wpAny_pure ⟨_,rfl,"reversed",_,hit.typeIs,Z1i.lookup,h⟩
end
def Itrt (K:L2.Fg)(a:Addr) (n:Nat):It:=
 ⟨fun i H=>∃ xs x,SqT K H a xs/\xs.length=n/\xs.reverse[i]?=some x,fun i H x H'=>H'=H/\∀ xs,SqT K H a xs->xs.reverse[i]?=some x,fun i H=>∃ xs,SqT K H a xs/\xs.length=n/\n<=i⟩
def Itrl (K:L2.Fg)(a:Addr) (n:Nat):It:=
 ⟨fun i H=>∃ xs x,SqL K H a xs/\xs.length=n/\xs.reverse[i]?=some x,fun i H x H'=>H'=H/\∀ xs,SqL K H a xs->xs.reverse[i]?=some x,fun i H=>∃ xs,SqL K H a xs/\xs.length=n/\n<=i⟩
theorem Zi7 {α:Type}{xs:List α}{i:Nat}{x:α}(h:xs.reverse[i]?=some x):i<xs.length/\xs[xs.length-1-i]?=some x:=by
 have hi:i<xs.length:=by
  have:=(List.getElem?_eq_some_iff.mp h).1
  simpa using this
 rw[List.getElem?_reverse hi]at h;exact⟨hi,h⟩
theorem Zg9 {P:Program}{w:World}{K:L2.Fg}{tg:Expr}(a it:Addr) (n:Nat)(hne:a≠it):Turn P w K tg (Itrt K a n) [it] it (fun i h=>i<=n/\IsRv h it a ((n:Int)-1-i)) where
 mem:=by simp
 obj:=fun i h st b hb=>by
  have e:b=it:=by simpa using hb
  subst e;exact⟨_,st.2,fun v z=>by cases z⟩
 keep:=fun i h h' st k=>⟨st.1,k it (by simp) _ st.2⟩
 item:=by
  intro X hP hw hK hc i pins s σ H E I hf st hg;subst hP hw hK;obtain⟨xs,x,hq,hn,hx⟩:=hg;obtain⟨hi,hx'⟩:=Zi7 hx;obtain⟨its,rv,p,hz⟩:=I.tuple hq;obtain⟨u,hu,ru⟩:=rv.get hx';obtain⟨f0,f1,f2,f3,f4,f5⟩:=hf it (by simp);have hl:=rv.length;have e1:(n:Int)-1-i=((xs.length-1-i:Nat):Int):=by omega
  have st2:=st.2;rw[e1]at st2;have sl:sizeLine=16777216:=sizeLine_eq;refine Zlf st2 (show s.heap.IsTuple a its.toArray from p) hne (x:=u) (by simpa using hu) (by simp;omega) fun h' tk st' sb=>?_;have I1:Inv X pins σ H { s with heap:=h',toks:=tk }:=I.turned (t':=tk) (fun b o hb e=>(sb.2 b hb).trans e) f0 f1 f3 f4 f5;have e2:((xs.length-1-i:Nat):Int)-1=(n:Int)-1-((i+1:Nat):Int):=by omega
  rw[e2]at st';exact⟨u,rfl,Z9y (s:={ s with heap:=h',toks:=tk }) st' rfl rfl (by decide) ⟨x,H,I1,ru,⟨rfl,fun ys hy=>by rw[I.tuple_inj hy hq];exact hx⟩,⟨by omega,st'⟩,fun b hb=>(hf b hb).1⟩⟩
 done:=by
  intro X hP hw hK hc i pins s σ H E I hf st hg;subst hP hw hK;obtain⟨xs,hq,hn,hi⟩:=hg;obtain⟨f0,f1,f2,f3,f4,f5⟩:=hf it (by simp);have e1:(n:Int)-1-i = -1:=by have:=st.1;omega
  have st2:=st.2;rw[e1]at st2;exact Zqe (I.ok.hd hc) st2 fun h' eb=>⟨rfl,I.turned (t':=s.toks) (fun b o hb e=>eb b o hb e) f0 f1 f3 f4 f5⟩
 self:=fun ψ ψ ψ ψ ψ st h=>Zdm st.2 h
theorem Zga {P:Program}{w:World}{K:L2.Fg}{tg:Expr}(a it:Addr) (n:Nat)(hne:a≠it):Turn P w K tg (Itrl K a n) [it] it (fun i h=>i<=n/\h.IsRevIter it a ((n:Int)-1-i)) where
 mem:=by simp
 obj:=fun i h st b hb=>by
  have e:b=it:=by simpa using hb
  subst e;obtain⟨o,e,c,d⟩:=st.2;exact⟨o,e,fun v z=>by rw[d]at z;cases z⟩
 keep:=fun i h h' st k=>⟨st.1,st.2.at fun o e=>k it (by simp) o e⟩
 item:=by
  intro X hP hw hK hc i pins s σ H E I hf st hg;subst hP hw hK;obtain⟨xs,x,hq,hn,hx⟩:=hg;obtain⟨hi,hx'⟩:=Zi7 hx;obtain⟨its,rv,p,hz⟩:=I.list hq;obtain⟨u,hu,ru⟩:=rv.get hx';obtain⟨f0,f1,f2,f3,f4,f5⟩:=hf it (by simp);have e1:(n:Int)-1-i=((xs.length-1-i:Nat):Int):=by omega
  have st2:=st.2;rw[e1]at st2;refine wpAny_pyNext_rev_item st2 p.isList (x:=u) (by simpa using hu) fun h' st' sb=>?_;have I1:Inv X pins σ H { s with heap:=h' }:=I.turned (t':=s.toks) (fun b o hb e=>(sb.2 b hb).trans e) f0 f1 f3 f4 f5;have e2:((xs.length-1-i:Nat):Int)-1=(n:Int)-1-((i+1:Nat):Int):=by omega
  rw[e2]at st';obtain⟨o,e,c,d⟩:=id st';exact⟨u,rfl,Z9y (s:={ s with heap:=h' }) e c d (by decide) ⟨x,H,I1,ru,⟨rfl,fun ys hy=>by rw[I.list_inj hy hq];exact hx⟩,⟨by omega,st'⟩,fun b hb=>(hf b hb).1⟩⟩
 done:=by
  intro X hP hw hK hc i pins s σ H E I hf st hg;subst hP hw hK;obtain⟨xs,hq,hn,hi⟩:=hg;obtain⟨f0,f1,f2,f3,f4,f5⟩:=hf it (by simp);have e1:(n:Int)-1-i = -1:=by have:=st.1;omega
  have st2:=st.2;rw[e1]at st2;exact wpAny_pyNext_rev_end (I.ok.hd hc) st2 fun h' eb=>⟨rfl,I.turned (t':=s.toks) (fun b o hb e=>eb b o hb e) f0 f1 f3 f4 f5⟩
 self:=fun ψ ψ ψ ψ ψ st h=>wpAny_pyIter_revIter st.2 h
def iRev (K:L2.Fg)(ta:TA):TI:=fun σ H R=>ta σ H fun vs H1=>∃ a xs,vs=[.ref a]/\((SqT K H1 a xs/\R (Itrt K a xs.length) H1)\/(SqL K H1 a xs/\R (Itrl K a xs.length) H1))
theorem Zqf {X:Cx}{K:L2.Fg}{tg a:Expr}{ta:TA}{p pos:Pos}(hK:X.K=K)(hg:Gl X "reversed")(hm:X.mg "reversed" = none)(ha:PA X [a] ta)(hs:starEach [a] X.env=[(false,eval a X.env)]:=by rfl):PI X tg (.Call (.Name "reversed" p) [a] [] pos) (iRev K ta):=by
 subst hK;intro pins s σ H R I h;refine Call_ (Z4y I hg hm boot_reversed (PyProof.Rows.callWith_type1 (thn (ha pos pins s σ H _ I h) fun us s1 ⟨vs,H1,I1,r1,q1⟩=>?_) hs rfl));obtain⟨l,xs,e,q⟩:=q1;subst e;obtain⟨u,rfl,ru⟩:=Z2o r1
 cases ru;have sl:sizeLine=16777216:=sizeLine_eq;rcases q with ⟨hq,q⟩|⟨hq,q⟩
 ·obtain⟨its,rv,pl,hz⟩:=I1.tuple hq;have hl:=rv.length;have lt:l<s1.heap.objs.size:=by obtain⟨o,e,_⟩:=pl;exact Heap.lt_size e
  refine Zle (show s1.heap.IsTuple l its.toArray from pl) (by simp;omega) fun tk=>?_;have I2:Inv X pins σ H1 { s1 with heap:=s1.heap.push (Z7d l ((its.toArray.size:Int)-1)),toks:=tk }:=I1.kept fun b o e=>Heap.get?_push_of_some _ e;have hr:IsRv (s1.heap.push (Z7d l ((its.toArray.size:Int)-1))) s1.heap.objs.size l ((xs.length:Int)-1-(0:Nat)):=by
   have:=Heap.get?_push_size s1.heap (o:=Z7d l ((its.toArray.size:Int)-1)) rfl
   have e:((xs.length:Int)-1-(0:Nat))=((its.toArray.size:Int)-1):=by simp;omega
   rw[e];exact this
  refine Zdm (s:={ s1 with heap:=s1.heap.push (Z7d l ((its.toArray.size:Int)-1)),toks:=tk }) hr ?_;refine⟨s1.heap.objs.size,[s1.heap.objs.size],_,_,H1,rfl,I2,Zg9 l _ xs.length (Nat.ne_of_lt lt),⟨Nat.zero_le _,hr⟩,fun b hb=>?_,q⟩;have e:b=s1.heap.objs.size:=by simpa using hb
  subst e;exact I1.fpOk (Nat.le_refl _) (I1.hok.fresh (Nat.le_refl _))
 ·obtain⟨its,rv,pl,hz⟩:=I1.list hq;have hl:=rv.length;have lt:l<s1.heap.objs.size:=by obtain⟨o,e,_⟩:=pl.isList;exact Heap.lt_size e
  refine call_reversed_list pl.isList ?_;have I2:Inv X pins σ H1 { s1 with heap:=s1.heap.push (revObj l ((its.toArray.size:Int)-1)) }:=I1.kept (t':=s1.toks) fun b o e=>Heap.get?_push_of_some _ e;have hr:(s1.heap.push (revObj l ((its.toArray.size:Int)-1))).IsRevIter s1.heap.objs.size l ((xs.length:Int)-1-(0:Nat)):=by
   refine⟨_,Heap.get?_push_size _ rfl,rfl,?_⟩;have e:((xs.length:Int)-1-(0:Nat))=((its.toArray.size:Int)-1):=by simp;omega
   rw[e];rfl
  refine wpAny_pyIter_revIter (s:={ s1 with heap:=s1.heap.push (revObj l ((its.toArray.size:Int)-1)) }) hr ?_;refine⟨s1.heap.objs.size,[s1.heap.objs.size],_,_,H1,rfl,I2,Zga l _ xs.length (Nat.ne_of_lt lt),⟨Nat.zero_le _,hr⟩,fun b hb=>?_,q⟩;have e:b=s1.heap.objs.size:=by simpa using hb
  subst e;exact I1.fpOk (Nat.le_refl _) (I1.hok.fresh (Nat.le_refl _))
def Z1n:List U->Option (List U)
 |[.tup us]=>some us.reverse
 |[.lst us]=>some us.reverse
 |_=>none
section
variable {W:Wd}{m:Md}{E:XK}{c:Bool}{tr:TA}{fr:Af}
theorem Zqg {Hb Hc:Hp}{a:Addr}{us:List U}{vs:List V}(r:RUs W Hc us vs)(h:Hc a=some (.tup vs)):ItR W Hb Hc (Itrt W.K a vs.length) us.reverse:=by
 intro Hc2 H2 s1 s2 s3;have ha:=s2 _ _ (s1 _ _ h);refine⟨fun i u hu=>?_,vs,.of ha,rfl,by rw[List.length_reverse,r.len];exact Nat.le_refl _⟩;obtain⟨v,hv,rv⟩:=r.rev.at (i:=0) hu;refine⟨⟨vs,v,.of ha,rfl,hv⟩,fun x H3 y=>?_⟩;obtain⟨rfl,y⟩:=y;have e:=y vs (.of ha);rw[hv]at e;cases e;exact⟨Hc2,Ext.refl s2,fun ψ ψ h=>h,rv.mono s1⟩
theorem Zqh {Hb Hc:Hp}{a:Addr}{us:List U}{vs:List V}(r:RUs W Hc us vs)(h:Hc a=some (.lst vs)):ItR W Hb Hc (Itrl W.K a vs.length) us.reverse:=by
 intro Hc2 H2 s1 s2 s3;have ha:=s2 _ _ (s1 _ _ h);refine⟨fun i u hu=>?_,vs,.of ha,rfl,by rw[List.length_reverse,r.len];exact Nat.le_refl _⟩;obtain⟨v,hv,rv⟩:=r.rev.at (i:=0) hu;refine⟨⟨vs,v,.of ha,rfl,hv⟩,fun x H3 y=>?_⟩;obtain⟨rfl,y⟩:=y;have e:=y vs (.of ha);rw[hv]at e;cases e;exact⟨Hc2,Ext.refl s2,fun ψ ψ h=>h,rv.mono s1⟩
theorem Zqi (hr:DA W m E [false] tr fr):DI W m E c (iRev W.K tr) (Z1z Z1n fr):=by
 intro H0 ρ ω σ Hc H ow S R h;refine hr H0 ρ ω σ Hc H ow S _ ((Aft.bnd h).imp fun us ω1 Hc1 H1 e1 p1 h1 vs rs=>?_);have rr:=rs.off rfl;revert h1
 cases hg:Z1n us with
 |none=>exact fun h1=>h1.elim
 |some ws=>
  intro h1;unfold Z1n at hg;split at hg
  ·cases hg;rw[RUs]at rr;obtain⟨v,r,rfl,rv,rr⟩:=rr;rw[RUs]at rr;subst rr;rw[RU]at rv;obtain⟨a,vs,rfl,q,r⟩:=rv;exact⟨a,vs,rfl,.inl ⟨.of (e1.sub _ _ q),h1 Hc1 H1 (Ext.refl e1.sub) p1 _ (Zqg r q)⟩⟩
  ·cases hg;rw[RUs]at rr;obtain⟨v,r,rfl,rv,rr⟩:=rr;rw[RUs]at rr;subst rr;rw[RU]at rv;obtain⟨a,vs,rfl,q,r⟩:=rv;exact⟨a,vs,rfl,.inr ⟨.of (e1.sub _ _ q),h1 Hc1 H1 (Ext.refl e1.sub) p1 _ (Zqh r q)⟩⟩
  ·cases hg
variable {ι:Type}{X:L2.FC ι}{a:Expr}{pos p:Pos}
theorem Z89 {tg:Expr}(cx:Ctx X W E)(B:Bl W.mg)(ha:QA X W m E [false] [a] fr)(hg:∀ y,Gl (X y) "reversed" := by intro ψ;rfl)(hs:∀ y,starEach [a] (X y).env=[(false,eval a (X y).env)]:=by intro ψ;rfl):QI X W m E c tg (.Call (.Name "reversed" p) [a] [] pos) (Z1z Z1n fr):=
 let ⟨_, pa, da⟩ := ha; ⟨_, fun y => Zqf (cx.hK y) (hg y) ((congrFun (cx.hm y) _).trans B.reversed) (pa y) (hs y), Zqi da⟩
end
def Up (xs:Array Nat):Prop:=xs.toList.Pairwise (· < ·)
theorem Up.lt {xs:Array Nat}(h:Up xs){i j:Nat}(hij:i<j)(hj:j<xs.size):xs[i]'(by omega)<xs[j]:=by
 have:=List.pairwise_iff_getElem.mp h i j (by simp;omega) (by simpa using hj) hij
 simpa using this
theorem Up.le {xs:Array Nat}(h:Up xs){i j:Nat}(hij:i<=j)(hj:j<xs.size):xs[i]'(by omega)<=xs[j]:=by
 rcases Nat.lt_or_eq_of_le hij with c|c
 ·exact Nat.le_of_lt (h.lt c hj)
 ·subst c;exact Nat.le_refl _
def NL (t:SetTable) (j:Nat):Prop:=(t.place[SetTable.below t.place j]?==some j)=false
theorem NL.of {t:SetTable}{j:Nat}(h:∀ i,t.slot j≠.live i):NL t j:=by
 unfold NL
 cases c:(t.place[SetTable.below t.place j]?==some j)with
 |false=>rfl
 |true=>exact absurd (by unfold SetTable.slot;simp only[c,if_true]) (h (SetTable.below t.place j))
theorem Up.range (n:Nat):Up (Array.range n):=by unfold Up;simpa using List.pairwise_lt_range
theorem erase_perm {α:Type}:∀{l:List α}{i:Nat}(h:i<l.length),(l[i]::l.eraseIdx i).Perm l
 |x::l,0,_=>.refl _
 |x::l,i+1,h=>by
  simp only[List.getElem_cons_succ,List.eraseIdx_cons_succ];exact(List.Perm.swap x _ _).trans ((erase_perm (l:=l) (i:=i) (by simpa using h)).cons x)
theorem IntsAre.perm {vs vs':List Value}(p:vs.Perm vs'):∀{ns:List Int},IntsAre vs ns->∃ ns',IntsAre vs' ns'/\ns'.Perm ns:=by
 induction p with
 |nil=>intro ns h;exact⟨ns,h,.refl _⟩
 |cons x p ih=>
  intro ns h
  cases h with
  |cons n t hr=>obtain⟨ns',a,b⟩:=ih hr;exact⟨n::ns',.cons n t a,b.cons n⟩
 |swap x y l=>
  intro ns h
  cases h with
  |cons n t hr=>
   cases hr with
   |cons n' t' hr'=>exact⟨n'::n::_,.cons n' t' (.cons n t hr'),.swap _ _ _⟩
 |trans p q ih1 ih2=>
  intro ns h;obtain⟨ns',a,b⟩:=ih1 h;obtain⟨ns'',c,d⟩:=ih2 a;exact⟨ns'',c,d.trans b⟩
theorem IntsAre.mem:∀{vs:List Value}{ns:List Int},IntsAre vs ns->∀ k,k∈ns↔∃ v∈vs,∃ t,v=.int k t
 |_,_,.nil,k=>by simp
 |_,_,.cons n t h,k=>by
  rw[List.mem_cons,IntsAre.mem h k];constructor
  ·rintro(rfl|⟨v,hv,t',e⟩)
   ·exact⟨_,by simp,t,rfl⟩
   ·exact⟨v,by simp[hv],t',e⟩
  ·rintro⟨v,hv,t',e⟩;rcases List.mem_cons.mp hv with c|c
   ·subst c;cases e;exact .inl rfl
   ·exact .inr ⟨v,c,t',e⟩
theorem IntsAre.snoc {x:Int}{t:Tok}:∀{vs:List Value}{ns:List Int},IntsAre vs ns->IntsAre (vs++[.int x t]) (ns++[x])
 |_,_,.nil=>.cons x t .nil
 |_,_,.cons n t' h=>.cons n t' (IntsAre.snoc h)
end L2
set_option maxHeartbeats 4000000
namespace L2
open PySem PySem.Spec PyProof.Rows
structure Wk (prog:Program)(w:World)(A:Around)(I:Addr)(fp:List Addr)(ord:List Value)(St:Nat->Heap->Prop):Prop where
 frame:∀ i h h',St i h->(∀ b∈fp,∀ o,h.get? b=some o->h'.get? b=some o)->St i h'
 item:∀ i (s:Shared)(Q:Option Value->Shared->Prop)(E:L2.VSP)(v:Value),ord[i]?=some v->St i s.heap ->
  (∀ h',St (i+1) h'->(∀ b o,b≠I->s.heap.get? b=some o->h'.get? b=some o)->Q (some v) { s with heap:=h' })->wpAny (model prog w) A (pyNext (.ref I)) Q E s
 done:∀(s:Shared)(Q:Option Value->Shared->Prop)(E:L2.VSP),St ord.length s.heap ->
  (∀ h',(∀ b o,b≠I->s.heap.get? b=some o->h'.get? b=some o)->Q none { s with heap:=h' })->wpAny (model prog w) A (pyNext (.ref I)) Q E s
def dd (ns:List Int):List Int:=ns.foldl step_dedup []
section
variable {i:Nat}{fa fb fi:Ef}{g:Sf}{ρ:En}{ω:Om}{ps:Ps}{k:Int}{u v:U}{us:List U}{is:List Nat}
theorem sFz_ap:sFz is g ρ ω=Z74 is (g ρ ω):=rfl
theorem dropFl_nx:Z74 is (.nx ρ ω)=.nx (Z3x is ρ) ω:=rfl
theorem dropFl_rt:Z74 is (.rt u ω)=.rt u ω:=rfl
theorem dropFl_err {c:Str}{p:Option Int}:Z74 is (.err c p ω)=.err c p ω:=rfl
theorem dropE_nil:Z3x [] ρ=ρ:=rfl
theorem dropE_cons:Z3x (i::is) ρ=Z3x is (ρ.set i none):=rfl
def Zqj (i:Nat)(ρ:En)(u:U):Option Ps->Res U->Fl
 |some ps,.ok (.int k) ω2=>if ps.length<10000 then .nx (ρ.set i (some (dicI (putI ps k u)))) ω2 else .stk
 |some _,.err c p ω2=>.err c p ω2
 |_,_=>.stk
def asDO (o:Option (Option U)):Option Ps:=o.bind fun o=>o.bind asD
theorem sDPutU_ap:Z2l i fi fa ρ ω=Fl.of (fa ρ ω) fun u ω1=>Zqj i ρ u (asDO ρ[i]?) (fi ρ ω1):=by
 unfold Z2l;congr 1;funext u ω1
 show(match asDO ρ[i]? with
  |some ps=>_
  | none=>_)=_
 cases asDO ρ[i]? with
 |none=>rfl
 |some ps=>
  cases fi ρ ω1 with
  |ok k ω2=>cases k<;>rfl
  |err c p ω2=>rfl
  |stk=>rfl
theorem dputA_ok (h:ps.length<10000):Zqj i ρ u (some ps) (.ok (.int k) ω)=.nx (ρ.set i (some (dicI (putI ps k u)))) ω:=if_pos h
theorem asDO_I:asDO (some (some (dicI ps)))=some ps:=asD_I ps
theorem uDGet_I:Z4g (dicI ps) (.int k)=asc ps k:=by unfold Z4g;simp only;rw[asD_I];rfl
theorem uDIn_t:uDIn true (.int k) (dicI ps)=some (.bl (!(asc ps k).isSome)):=by unfold uDIn;simp only;rw[asD_I];rfl
theorem uDIn_f:uDIn false (.int k) (dicI ps)=some (.bl (asc ps k).isSome):=by unfold uDIn;simp only;rw[asD_I];rfl
theorem eDGet1_ap:Zq4 fa fb ρ ω=(fa ρ ω).bnd fun a ω1=>match asD a with
 |some ps=>(fb ρ ω1).bnd fun b ω2=>.of (uGt1 ps b) ω2
 |none=>.stk:=rfl
theorem uGt1_i:uGt1 ps (.int k)=some ((asc ps k).getD .non):=rfl
theorem eDNew_ap:Z72 ρ ω=.ok (dicI []) ω:=rfl
theorem eD1_ap:eD1 fa fb ρ ω=(fa ρ ω).bnd fun a ω1=>(fb ρ ω1).bnd fun b ω2=>.of (uD1 a b) ω2:=rfl
theorem uD1_i:uD1 (.int k) u=some (dicI [(k,u)]):=rfl
theorem iDicU_ap:Zdi fa ρ ω=(fa ρ ω).bnd fun u ω1=>.of ((asD u).map Z75) ω1:=rfl
theorem two_t:two (.tup [u,v])=some (u,v):=rfl
theorem uReversed_t:Z1n [.tup us]=some us.reverse:=rfl
theorem uReversed_l:Z1n [.lst us]=some us.reverse:=rfl
theorem isNon_d:Z3c (dicI ps)=false:=rfl
end
theorem Zdn {k:Int}:asc [] k=none:=rfl
theorem Z1l {p:Int×U}{ps:Ps}{k:Int}:asc (p::ps) k=if p.1=k then some p.2 else asc ps k:=by
 unfold asc;by_cases c:p.1=k
 ·rw[List.find?_cons_of_pos (by simp[c]),if_pos c];rfl
 ·rw[List.find?_cons_of_neg (by simp[c]),if_neg c]
theorem Z1o {k:Int}:∀{ps:Ps},(asc ps k).isSome=true↔k∈ps.map (·.1)
 |[]=>by simp[Zdn]
 |p::ps=>by
  rw[Z1l];by_cases c:p.1=k
  ·simp[c]
  ·rw[if_neg c,Z1o];simp only[List.map_cons,List.mem_cons];exact⟨.inr,fun h=>h.resolve_left fun z=>c z.symm⟩
theorem Z35 {k:Int}{ps:Ps}:asc ps k=none↔k∉ps.map (·.1):=by
 rw[<-Z1o]
 cases asc ps k<;>simp
theorem Z59 {k:Int}{u:U}:∀{ps:Ps},(ps.map (·.1)).Nodup->(k,u)∈ps->asc ps k=some u
 |p::ps,n,h=>by
  rw[List.map_cons,List.nodup_cons]at n;rw[Z1l];rcases List.mem_cons.mp h with h|h
  ·subst h;rw[if_pos rfl]
  ·have c:p.1≠k:=fun z=>n.1 (z▸List.mem_map_of_mem (f:=(·.1)) h);rw[if_neg c];exact Z59 n.2 h
theorem Zlg {k:Int}{ps:Ps}:(ps.any fun p=>decide (p.1=k))=true↔k∈ps.map (·.1):=by
 rw[List.any_eq_true,List.mem_map];exact⟨fun⟨p,h,e⟩=>⟨p,h,of_decide_eq_true e⟩,fun⟨p,h,e⟩=>⟨p,h,decide_eq_true e⟩⟩
theorem Z2f {ps:Ps}{k:Int}{u:U}(h:k∉ps.map (·.1)):putI ps k u=ps++[(k,u)]:=by
 unfold putI;rw[if_neg (fun z=>h (Zlg.mp z))]
theorem Z7e {ps:Ps}{k:Int}{u:U}(h:k∈ps.map (·.1)):(putI ps k u).map (·.1)=ps.map (·.1):=by
 unfold putI;rw[if_pos (Zlg.mpr h),List.map_map];apply List.map_congr_left;intro p ψ;simp only[Function.comp];split<;>rfl
theorem Z3j {ps:Ps}{k:Int}{u:U}(n:(ps.map (·.1)).Nodup):((putI ps k u).map (·.1)).Nodup:=by
 by_cases h:k∈ps.map (·.1)
 ·rw[Z7e h];exact n
 ·rw[Z2f h,List.map_append];rw[List.nodup_append];refine⟨n,by simp,fun a ha b hb z=>?_⟩;simp at hb;subst hb;subst z;exact h ha
theorem Z98 {ps:Ps}{k:Int}{u:U}:(putI ps k u).length<=ps.length+1:=by
 by_cases h:k∈ps.map (·.1)
 ·have:=congrArg List.length (Z7e (u:=u) h)
  rw[List.length_map,List.length_map]at this;omega
 ·rw[Z2f h];simp
theorem Z3k {ps:Ps}{k j:Int}{u:U}:asc (putI ps k u) j=if j=k then some u else asc ps j:=by
 by_cases h:k∈ps.map (·.1)
 ·unfold putI;rw[if_pos (Zlg.mpr h)];induction ps with
  |nil=>simp at h
  |cons p ps ih=>
   rw[List.map_cons,Z1l,Z1l];by_cases c:p.1=k
   ·rw[if_pos c];simp only;by_cases cj:p.1=j
    ·rw[if_pos cj,if_pos (cj.symm.trans c)]
    ·rw[if_neg cj];have nj:j≠k:=fun z=>cj (c.trans z.symm);rw[if_neg nj,if_neg cj];clear ih h;induction ps with
     |nil=>rfl
     |cons q ps ih2=>
      rw[List.map_cons,Z1l,Z1l,ih2];by_cases cq:q.1=k
      ·rw[if_pos cq];simp only;have nq:q.1≠j:=fun z=>nj (z.symm.trans cq);rw[if_neg nq,if_neg nq]
      ·rw[if_neg cq]
   ·rw[if_neg c];by_cases cj:p.1=j
    ·rw[if_pos cj,if_pos cj];rw[if_neg (fun z=>c (cj.trans z))]
    ·rw[if_neg cj,if_neg cj];refine ih ?_;rw[List.map_cons,List.mem_cons]at h;exact h.resolve_left fun z=>c z.symm
 ·rw[Z2f h];induction ps with
  |nil=>
   rw[List.nil_append,Z1l,Zdn];by_cases c:j=k
   ·rw[if_pos c,if_pos c.symm]
   ·rw[if_neg c,if_neg (fun z=>c z.symm)]
  |cons p ps ih=>
   rw[List.map_cons,List.mem_cons]at h;rw[List.cons_append,Z1l,Z1l,ih fun z=>h (.inr z)];by_cases c:p.1=j
   ·rw[if_pos c,if_pos c,if_neg (fun z=>h (.inl (c.trans z).symm))]
   ·rw[if_neg c,if_neg c]
theorem Zaj {ps:Ps}{k:Int}:(Z86 ps k).map (·.1)=(ps.map (·.1)).filter (fun j=>decide (j≠k)):=by
 unfold Z86;rw[List.filter_map];rfl
theorem Zgb {ps:Ps}{k:Int}(n:(ps.map (·.1)).Nodup):((Z86 ps k).map (·.1)).Nodup:=by
 rw[Zaj];exact n.filter _
theorem Z7f {ps:Ps}{k:Int}{p:Int×U}(h:p∈Z86 ps k):p∈ps:=(List.mem_filter.mp h).1
end L2
set_option maxHeartbeats 4000000
namespace L2
open PySem PySem.Spec PyProof.Rows
section
variable {prog:Program}{w:World}{A:Around}{E:L2.VSP}{s:Shared}
theorem Zlh:typeLookup (.type "list") "keys" = pure none:=by rw[typeLookup_type,builtinLookup_eq_fast];kernel_rfl
theorem Zdo {a:Addr}{xs:Array Value}{k:Nat}{Q:Option Value->Shared->Prop}(hx:s.heap.get? a=some { cls:=.type "list",data:=.seq xs k })(hA:A.handled=none)
  (h:∀ h' tk,(∀ b o,s.heap.get? b=some o->h'.get? b=some o)->Q none { s with heap:=h',toks:=tk }) :
  wpAny (model prog w) A (getAttr? (.ref a) "keys") Q E s:=by
 obtain⟨hp,g,d,tk,os⟩:=s;have ty:∀ t',(⟨hp,g,d,t',os⟩: Shared).TypeIs (.ref a) "list" := fun ψ=>⟨_,hx,rfl⟩
 have q1:=sub_AttributeError;have q2:=F.slot_list_getattribute.lookup;have q3:=F.slot_list_getattribute.bind (.ref a);have q4:=am_list_getattr_none;unfold getAttr? getAttrBy? getAttrBy;repeat (any_goals (first|assumption|exact ty _|((with_reducible show wpAny _ _ (call (Value.builtin "list.__getattribute__") _ _) _ _ _);refine call_meets F.slot_list_getattribute (ty _) am_entry_list_getattribute (F.args_list_getattribute_2 _ _) (meets_getattribute_miss_list a xs k #[] "keys" _ Zlh (by decide) (by size_fits)) ⟨hx,hA,fun h' tk' e x=>?_⟩)|wp_step))
 obtain⟨u1,u2,he⟩:=x.there;show wpAny _ _ (getattributeRaised _ _ _ _ _ _ _) _ _ _;unfold getattributeRaised;repeat (any_goals (first|assumption|wp_step))
 exact h _ _ x.keeps
theorem Z7g:entryFor table "dict.update.loop" = some Builtin.«dict.update.loop» := entryFor_of_tree (by kernel_rfl)
def Pr (h:Heap)(v:Value)(q:Int×V):Prop:=∃ t kv x,v=.ref t/\IsTup h t #[kv,x]/\RelV (.int q.1) kv/\RelV q.2 x
def Zdp (acc:List (Key×V))(ps:List (Int×V)):List (Key×V):=ps.foldl (fun a q=>putK a (.inl q.1) q.2) acc
theorem Z99 {p l it:Addr}{items:Array Value}{h0:Heap}{Q:Shared->Prop}(hA:A.handled=none)(np:h0.get? p=none)(ni:h0.get? it=none)(pi:p≠it)(hl:h0.IsList l items) :
  ∀(rest:List Value)(ps:List (Int×V)) (i:Nat)(acc:List (Key×V))(vs:List (Key×Value))(s:Shared),items.toList.drop i=rest->Paired (Pr h0) rest ps->KV acc vs->s.heap.IsListIter it l i->(∀ b o,h0.get? b=some o->s.heap.get? b=some o)->s.heap.DictOf (Z0d prog w) p vs->acc.length+rest.length<=10000 ->
  (∀ h' tk vs',KV (Zdp acc ps) vs'->h'.DictOf (Z0d prog w) p vs'->(∀ b o,h0.get? b=some o->h'.get? b=some o)->Q { s with heap:=h',toks:=tk }) ->
  codeAny (model prog w) A (.builtin "dict.update.loop" ⟨[.ref p,.ref it,rawInt i,.none],[]⟩) (wants (fun r s₂=>r=.none/\Q s₂) E) s
 |[],ps,i,acc,vs,s,hd,hp,kv,hi,old,dd,hn,k=>by
  cases hp;refine codeAny_builtin Z7g ?_;show wpAny _ _ (pyNext (.ref it) >>= _) _ _ _;have hl':s.heap.IsList l items:=let ⟨o,ho,r⟩:=hl;⟨o,old _ _ ho,r⟩
  refine wpAny_bind (wpAny_pyNext_list_end (show(A.under _).handled=none from hA) hi hl' (by
   rw[<-Array.getElem?_toList];have:=List.drop_eq_nil_iff.mp hd
   exact List.getElem?_eq_none this) fun h' hx => ?_)
  refine wpAny_bind (m:=Builtin.Dict.addKeywords p []) (wpAny_pure (wpAny_pure ⟨rfl,k h' s.toks vs kv (dd.extBut hx pi) fun b o ho=>hx b o (fun z=>by rw[z,ni]at ho;cases ho) (old b o ho)⟩))
 |v::rest,ps,i,acc,vs,s,hd,hp,kv,hi,old,dd,hn,k=>by
  cases hp with
  |cons h1 h2=>
   rename_i q ps
   obtain⟨t,kv',x,rfl,ht,r1,r2⟩:=h1;refine codeAny_builtin Z7g ?_;show wpAny _ _ (pyNext (.ref it) >>= _) _ _ _;have hl':s.heap.IsList l items:=let ⟨o,ho,r⟩:=hl;⟨o,old _ _ ho,r⟩
   have hv:items[i]?=some (.ref t):=by
    rw[<-Array.getElem?_toList,<-List.head?_drop,hd];rfl
   refine wpAny_bind (wpAny_pyNext_list_item hi hl' hv fun h' hi' hs=>?_);have old':∀ b o,h0.get? b=some o->h'.get? b=some o:=fun b o ho=>(hs.2 b (fun z=>by rw[z,ni]at ho;cases ho)).trans (old b o ho);obtain⟨ot,hot,hct,nt,hdt⟩:=ht;refine wpAny_bind (wpAny_holding (wpAny_bind (m:=tryCatch _ _) (wpAny_tryCatch ?_)));show wpAny _ _ (Builtin.Dict.pairItems (.ref t)) _ _ _;unfold Builtin.Dict.pairItems;refine wpAny_bind (wpAny_typeOf (T := "tuple") ⟨ot,old' _ _ hot,hct⟩ ?_);rw[if_pos (by decide)];refine wpAny_bind (wpAny_seqItems (old' _ _ hot) hdt (wpAny_pure ?_));show wpAny _ _ (holding _ (dictSet p kv' x)) _ _ _;have hz:vs.length=acc.length:=(Paired.length kv).symm;simp at hn;refine wpAny_holding (wpAny_dictSet_pairs (knd:=Z0d prog w) (k:=.inl q.1) (hsz:=by rw[hz,sizeLine_eq];omega) (Z84 (k:=.inl q.1) r1) (dd.sameBut hs pi) fun h2' dd' hs2=>?_);refine wpAny_pure ⟨Code.quiet_builtin _ (by decide +kernel),?_⟩;have hl2:=Z22 acc (.inl q.1) q.2;have ci:rawInt ((i:Int)+1)=rawInt ((i+1:Nat):Int):=by rw[Int.natCast_add];rfl
   show codeAny (model prog w) A (.builtin "dict.update.loop" ⟨[.ref p,.ref it,rawInt ((i:Int)+1),.none],[]⟩) _ _;rw[ci];refine Z99 hA np ni pi hl rest ps (i+1) (putK acc (.inl q.1) q.2) (stored vs (.inl q.1) x) _ ?_ h2 (kv.put _ r2) (hi'.at fun o ho=>(hs2.2 _ (Ne.symm pi)).trans ho) (fun b o ho=>(hs2.2 b (fun z=>by rw[z,np]at ho;cases ho)).trans (old' b o ho)) dd' (by omega) fun h3 tk vs' a1 a2 a3=>k h3 tk vs' a1 a2 a3;rw[<-List.tail_drop,hd];rfl
end
def ofP (ps:List (Int×V)):List (Int×V):=ps.foldl (fun a q=>putK a q.1 q.2) []
theorem Zdq:∀(ps acc:List (Int×V)),(ps.foldl (fun a q=>putK a q.1 q.2) acc).length<=acc.length+ps.length
 |[],_=>Nat.le_refl _
 |q::ps,acc=>by
  have h1:=Zdq ps (putK acc q.1 q.2);have h2:=Z22 acc q.1 q.2;rw[List.foldl_cons,List.length_cons];omega
theorem Z9a:∀(ps:List (Int×V))(acc:List (Int×V)),Zdp (kvK acc) ps=kvK (ps.foldl (fun a q=>putK a q.1 q.2) acc)
 |[],_=>rfl
 |q::ps,acc=>by
  show Zdp (putK (kvK acc) (.inl q.1) q.2) ps=_;rw[Zq1];exact Z9a ps _
def PPr (H:Hp):List V->List (Int×V)->Prop:=Paired fun v q=>∃ t,v=.ref t/\H t=some (.tup [.int q.1,q.2])
def rOfP:List V->Hp->VK->Prop:=fun xs H Q=>∃(l:Addr)(vs:List V)(ps:List (Int×V)),xs=[.ref l]/\H l=some (.lst vs)/\PPr H vs ps/\vs.length<=5000/\∀ p ob,H p=none->Q (.ref p) (upd H p (dE p ob (ofP ps)))
theorem PPr.raw {P:Program}{w:World}{H:Hp}{h:Heap}(ok:HOk P w H h):∀{vs:List V}{its:List Value}{ps:List (Int×V)},Vals vs its->PPr H vs ps->Paired (Pr h) its ps
 |[],its,ps,r,p=>by cases p;cases r;exact .nil
 |v::vs,its,ps,r,p=>by
  cases p with
  |cons p1 p2=>
   cases r with
   |cons r1 r2=>
    refine .cons ?_ (PPr.raw ok r2 p2);obtain⟨t,rfl,ht⟩:=p1
    cases r1;obtain⟨_,us,ru,tu⟩:=(show Z0s P w H h t (.tup _)from ok t _ ht)
    cases ru with
    |cons u1 u2=>
     cases u2 with
     |cons u3 u4=>
      cases u4;exact⟨t,_,_,rfl,tu,u1,u3⟩
theorem Zgc {X:Cx}(hc:X.calm=true):Z10 X (.type "dict") rOfP:=by
 intro pins s σ H xs us Q I r h;obtain⟨l,vs,ps,rfl,hl,pp,hn,q⟩:=h;obtain⟨u,rfl,ru⟩:=Z2o r
 cases ru;obtain⟨_,its,n,rv,ho⟩:=(show Z0s X.prog X.w H s.heap l (.lst vs)from I.hok l _ hl)
 have hil:its.length=vs.length:=(Paired.length rv).symm;have hh:X.A.handled=none:=I.ok.hd hc;have pr:=pp.raw I.hok rv;let hp : Heap := s.heap.push { cls := .type "dict", data := .dict #[] }
 refine callType_codes (Q₁:=fun o t=>o=.ref s.heap.objs.size/\t={ s with heap:=hp }) F.kt_called_dict (F.kt_typeCall_dict_1 _) F.entry_dict_init (kt_code_dict_new _ ⟨rfl,rfl⟩) ?_;rintro o t ⟨rfl,rfl⟩;have hnew:hp.DictOf (Z0d X.prog X.w) s.heap.objs.size []:=Heap.DictOf.new s.heap;have ho1:hp.get? l=some { cls:=.type "list",data:=.seq its.toArray n }:=Heap.get?_push_of_some _ ho;refine⟨hnew.typeIs,F.args_dict_init_2 _ _,?_⟩;unfold Builtin.«dict.__init__» Builtin.Dict.selfAndRest;refine wpAny_bind (wpAny_bind (wpAny_notOrdered_dict hnew.typeIs ?_));refine wpAny_pure (a:=(s.heap.objs.size,[Value.ref l])) ?_;show wpAny _ _ (Builtin.Dict.updateFrom "dict.__init__" s.heap.objs.size (.ref l) [] .none) _ _ _;unfold Builtin.Dict.updateFrom;refine wpAny_bind (wpAny_typeOf (T := "list") ⟨_,ho1,rfl⟩ ?_);rw[if_pos (by decide)];refine wpAny_bind (Zdo (A:=X.A.in1.in1) (s:={ s with heap:=hp }) ho1 hh fun h1 tk k1=>?_);rw[if_pos (by rfl)];have ho2:=k1 _ _ ho1;refine wpAny_bind (wpAny_rule (wpAny_bind (wpAny_pyIter_list (s:={ s with heap:=h1,toks:=tk }) (items:=its.toArray) ⟨_,ho2,rfl,n,rfl⟩ ?_)));have lt1:s.heap.objs.size<h1.objs.size:=by
  obtain⟨q,_,_,hq,_⟩:=hnew;exact Heap.lt_size (k1 _ _ hq)
 have k0:∀ b o,s.heap.get? b=some o->h1.get? b=some o:=fun b o hb=>k1 b o (Heap.get?_push_of_some _ hb);refine wpAny_pure ⟨Code.quiet_builtin _ (by decide +kernel),?_⟩;refine Z99 (prog:=X.prog) (w:=X.w) (A:=X.A.in1) (Q:=fun t=>EP X pins σ Q (Value.ref s.heap.objs.size) t) (h0:=s.heap) (items:=its.toArray) hh (Heap.get?_none_of_le (Nat.le_refl _)) (Heap.get?_none_of_le (Nat.le_of_lt lt1)) (Nat.ne_of_lt lt1) ⟨_,ho,rfl,n,rfl⟩ its ps 0 (kvK []) [] { s with heap:=h1.push { cls:=.type "list_iterator",data:=.fields #[.ref l,.int 0 0] },toks:=tk } (by simp) pr .nil ⟨_,Heap.get?_push_size _ rfl,rfl,rfl⟩ (fun b o hb=>Heap.get?_push_of_some _ (k0 b o hb)) ?_ ?_ fun h' tk' vs' a1 a2 a3=>?_
 ·obtain⟨q,es,ep,hq,r⟩:=hnew;exact⟨q,es,ep,Heap.get?_push_of_some _ (k1 _ _ hq),r⟩
 ·show 0+its.length<=10000;omega
 ·rw[Z9a]at a1;have z:(kvK (ofP ps)).length<=sizeLine:=by
   have b1:=Zdq ps [];have b2:ps.length=its.length:=(Paired.length pr).symm;unfold ofP kvK;rw[List.length_map,sizeLine_eq];simp at b1;omega
  have I2:=I.laid (a:=s.heap.objs.size) (o:=.dK (kvK (ofP ps))) (h':=h') (t':=tk') a3 (Nat.le_refl _) (Zda z (beq_eq_false_iff_ne.mpr (Ne.symm (Nat.ne_of_lt I.big))) a1 a2);obtain⟨ob,I3⟩:=I2.dE_wr;exact⟨.ref s.heap.objs.size,_,I3,rfl,q _ ob (I.hok.fresh (Nat.le_refl _))⟩
def asPr:U->Option (Int×U)
 |.tup [.int k,u]=>some (k,u)
 |_=>none
theorem Zli {u:U}{p:Int×U}(h:asPr u=some p):u=.tup [.int p.1,p.2]:=by
 unfold asPr at h;split at h
 ·cases h;rfl
 ·cases h
def asPs:List U->Option Ps
 |[]=>some []
 |u::us=>(asPr u).bind fun p=>(asPs us).map fun ps=>p::ps
def ofI (ps:Ps):Ps:=ps.foldl (fun a q=>putI a q.1 q.2) []
def uDOf:List U->Option U
 |[.lst us]=>(asPs us).bind fun ps=>if us.length<=5000 then some (dicI (ofI ps))else none
 |_=>none
section
variable {W:Wd}{m:Md}{E:XK}{H H':Hp}
theorem Zdr (sm:Same H H'):∀{us:List U}{vs:List V}{ps:Ps},asPs us=some ps->RUs W H us vs->∃ kvs:List (Int×V),PPr H' vs kvs/\∀(acc:Ps)(ac:List (Int×V)),RPs W H acc ac->RPs W H (ps.foldl (fun a q=>putI a q.1 q.2) acc) (kvs.foldl (fun a q=>putK a q.1 q.2) ac)
 |[],vs,ps,h,r=>by
  cases h;rw[RUs]at r;subst r;exact⟨[],.nil,fun ψ ψ k=>k⟩
 |u::us,vs,ps,h,r=>by
  unfold asPs at h
  cases q:asPr u with
  |none=>rw[q]at h;cases h
  |some p=>
   rw[q]at h;simp only[Option.bind_some]at h
   cases q2:asPs us with
   |none=>rw[q2]at h;cases h
   |some ps'=>
    rw[q2]at h
    cases h;have:=Zli q;subst this
    rw[RUs]at r;obtain⟨v,vs',rfl,r1,r2⟩:=r;rw[RU]at r1;obtain⟨a,ws,rfl,ha,rw'⟩:=r1;rw[RUs]at rw';obtain⟨x,ws1,rfl,x1,x2⟩:=rw';rw[RUs]at x2;obtain⟨y,ws2,rfl,y1,y2⟩:=x2;rw[RUs]at y2;subst y2;have hx:x=.int p.1:=by rw[RU]at x1;exact x1
    subst hx;obtain⟨kvs,k1,k2⟩:=Zdr sm q2 r2;exact⟨(p.1,y)::kvs,.cons ⟨a,rfl,sm _ _ ha⟩ k1,fun acc ac hk=>k2 _ _ (hk.put y1)⟩
theorem Zqk {tr:TA}{fr:Af}(hr:DA W m E [true] tr fr):DO W m E (tCB rOfP tr) (eB uDOf fr):=by
 intro H0 ρ ω σ Hc H ow S Q h;refine hr H0 ρ ω σ Hc H ow S _ ((Aft.bnd h).imp fun us ω1 Hc1 H1 e1 p1 h1 xs rs=>?_);revert h1
 cases hg:uDOf us with
 |none=>exact fun h1=>h1.elim
 |some u=>
  intro h1;unfold uDOf at hg;split at hg
  ·rename_i ys
   cases q:asPs ys with
   |none=>rw[q]at hg;exact noS hg
   |some ps=>
    rw[q]at hg;simp only[Option.bind_some]at hg;split at hg
    ·rename_i hl
     cases hg;obtain⟨v,rfl,rv⟩:=rs.one;obtain⟨a,vs,rfl,ha,r1⟩:=rv.lst e1.sub;obtain⟨kvs,k1,k2⟩:=Zdr e1.sub q r1;exact⟨a,vs,kvs,rfl,ha,k1,by rw[<-r1.len];exact hl,fun p ob' n=>h1 Hc1 _ (Z0v e1.sub p1 n).1 (Z0v e1.sub p1 n).2 p _ (OwO.dicI (k2 [] [] rfl)) (e1.sub.free n) (e1.frz' n) Z05⟩
    ·cases hg
  ·cases hg
end
section
variable {ι:Type}{X:L2.FC ι}{W:Wd}{m:Md}{E:XK}{a:Expr}{fa:Ef}{pos p:Pos}
theorem Zql (cx:Ctx X W E)(B:Bl W.mg)(ha:QB X W m E a fa)(hg:∀ y,Gl (X y) "dict" := by intro ψ;rfl)(hs:∀ y,starEach [a] (X y).env=(false,eval a (X y).env)::starEach [] (X y).env:=by intro ψ;rfl)(hp:∀ y,(backTo pos (starEach [] (X y).env)).any (·.1)=false:=by intro ψ;rfl):QO X W m E (.Call (.Name "dict" p) [a] [] pos) (eB uDOf (Z01 fa aNil)):=
 let ⟨_, pa, da⟩ := qa_b ha Z04 hs; ⟨_, fun y => Z26 (Zgc (cx.calm y)) (hg y) ((congrFun (cx.hm y) _).trans B.dict) boot_dict (pa y) (by decide) (by decide) (hs y) (hp y), Zqk da⟩
end
end L2
set_option maxHeartbeats 4000000
namespace L2
open PySem PySem.Spec PyProof.Rows
section
theorem Zt9 {n:Nat}(h:64<=n)(h2:n<128):minRun' n n 0=n/2+n%2:=by
 obtain⟨f,rfl⟩: ∃ f,n=f+2:=⟨n-2,by omega⟩
 rw[minRun'_succ,if_neg (by omega),minRun'_succ,if_pos (by omega)];omega
end
end L2
set_option maxHeartbeats 4000000
namespace L2
open PySem PySem.Spec PyProof.Rows
local macro_rules
 | `(tactic| walk_at "gl")=>do
  let j := Lean.mkIdent (Lean.mkPrivateNameCore `PySem.Builtin.List.W1All `PySem.Builtin.gallop)
  `(tactic| unfold $j)
 | `(tactic| walk_at "mh")=>do
  let j := Lean.mkIdent (Lean.mkPrivateNameCore `PySem.Builtin.List.W1All `PySem.Builtin.mergeHi)
  `(tactic| unfold $j)
 | `(tactic| walk_at "ma")=>do
  let j := Lean.mkIdent (Lean.mkPrivateNameCore `PySem.Builtin.List.W1All `PySem.Builtin.mergeAt)
  `(tactic| unfold $j)
def Zds:Bool->Keyed->Array Keyed->Nat->Nat->Nat->StateT SortSt Sem (Option Nat):=sortPriv% PySem.Builtin.gallop
def Z9b:Array Keyed->Array Keyed->StateT SortSt Sem (Array Keyed):=sortPriv% PySem.Builtin.mergeHi
section
variable {prog:Program}{w:World}{A:Around}{E:L2.VSP}{s:Shared}
theorem Z7h {σ β:Type}{M:Model}{n:Nat}{c0:β}{f:Nat->β->StateT σ Sem (ForInStep β)}{st:σ}{Q:β->σ->Prop}(h:∀ i,wpS M A E s (f i c0) (fun r t=>r=.done c0/\t=st) st)(hQ:Q c0 st):wpS M A E s (forIn [0:n] c0 f) Q st:=by
 refine wpS_forRange (I:=fun ψ c t=>c=c0/\t=st) (fun i c t ψ ψ hI=>?_) (fun c t hI=>?_) ⟨rfl,rfl⟩
 ·obtain⟨rfl,rfl⟩:=hI;refine wpS_mono (h i) fun r t ⟨e1,e2⟩=>?_;subst e1 e2;exact hQ
 ·obtain⟨rfl,rfl⟩:=hI;exact hQ
theorem ltP {st:SortSt}{a b:Int}{t u:Tok}{p q:Value}{Q:Option Bool->SortSt->Prop}(hk:kindOf st=oneType')(h:Q (some (decide (a<b))) st):wpS (model prog w) A E s (lt' (.int a t,p) (.int b u,q)) Q st:=by
 rw[lt'_eq];refine wpS_bind (wpS_get ?_);rw[hk,keyLt'_oneType];exact wpS_bind (wpS_lift (wpAny_attempt (oneLt_int ⟨rfl,wpS_pure h⟩)))
theorem elP {st:SortSt}{arr:Array Keyed}{i:Nat}{x:Keyed}{Q:Keyed->SortSt->Prop}(h:arr[i]?=some x)(k:Q x st):wpS (model prog w) A E s (elem' arr i) Q st:=by
 rw[elem'_eq,h];exact wpS_pure k
theorem Zgd {σ:Type}{M:Model}{v st:σ}{Q:PUnit->σ->Prop}(h:Q ⟨⟩ v):wpS M A E s (set v:StateT σ Sem PUnit) Q st:=by
 unfold wpS;rw[StateT.run_set];exact wpAny_pure ⟨rfl,h⟩
end
end L2
set_option maxHeartbeats 4000000
namespace L2
open PySem PySem.Spec PyProof.Rows
end L2
set_option maxHeartbeats 4000000
namespace L2
open PySem PySem.Spec PyProof.Rows
section
variable {prog:Program}{w:World}{A:Around}{E:L2.VSP}{s:Shared}
def Zi8 (prog:Program)(w:World)(vs:List Value):Prop:=∀(A:Around)(E:L2.VSP)(s:Shared)(Q:Unit->SortSt->Prop),(∀ r:SortSt,(arrOf r).Perm (pairsOf vs)->failedOf r=none->SortedTo (arrOf r) (pairsOf vs).size->Q () r)->wpS (model prog w) A E s sortRuns' Q (SortSt.mk' oneType' (pairsOf vs) #[] 7 none)
theorem Zlj {a:Addr}{vs:List Value}{ns:List Int}{n:Nat}{P:Fin->Shared->Prop}(ho:s.heap.get? a=some (seqObj "list" vs.toArray n))(hI:IntsAre vs ns)(h2:2<=vs.length)(hl:vs.length<=1000)(hr:Zi8 prog w vs)
  (h:∀(out:Array Value)(ms:List Int),IntsAre out.toList ms->ms.Perm ns->ms.Pairwise (· <= ·)->P (.done (.ret .none)) { s with heap:=sortedHeap s.heap a vs out }):wpAny (model prog w) A (Builtin.«list.sort» ⟨[.ref a],[]⟩) P E s:=by
 have al:a<s.heap.objs.size:=Heap.lt_size ho;obtain⟨ep,o1⟩: ∃ e,(s.heap.update a (Obj.mapSeq fun ψ=>#[])).get? a=some (seqObj "list" #[] e):=⟨_,get?_update_seq ho (fun ψ=>#[])⟩
 have o2:(((s.heap.update a (Obj.mapSeq fun ψ=>#[])).push (seqObj "tuple" vs.toArray 0)).push (seqObj "list" #[] 0)).get? a=some (seqObj "list" #[] ep):=Heap.get?_push_of_some _ (Heap.get?_push_of_some _ o1);rw[list_sort_plain];refine wpAny_bind (listItems_at ho rfl (wpAny_bind (listUpdate_at ho rfl (wpAny_bind (seqEpoch_at o1 rfl (wpAny_bind (wpAny_newTuple (wpAny_bind (wpAny_newList (wpAny_holding ?_))))))))));dsimp only;have sz:vs.toArray.size=vs.length:=by simp
 rw[if_neg (by omega),if_neg (by omega)];match vs,h2,hI,hr,h,hl,o2 with
 |v₁::v₂::rest,h2,hI,hr,h,hl,o2=>
  rw[keyKind_ints hI];refine wpAny_bind (wpAny_pure (wpAny_bind (wpAny_mono (hr _ _ _ (fun ψ r=>(arrOf r).Perm (pairsOf (v₁::v₂::rest))/\failedOf r=none/\SortedTo (arrOf r) (pairsOf (v₁::v₂::rest)).size) fun r x y z=>⟨x,y,z⟩) (fun q s' hq=>?_) fun ψ ψ e=>e)));obtain⟨⟨⟩,r⟩:=q;obtain⟨rfl,hp,hf,hs⟩:=hq;dsimp only;refine wpAny_bind (seqEpoch_at o2 rfl (wpAny_bind (listUpdate_at o2 rfl ?_ (hsz2:=?_))))
  ·rw[hf];simp only[bne_self_eq_false,Bool.false_eq_true,if_false];obtain⟨ms,m1,m2,m3⟩:=sorted_out hI hp hs;exact wpAny_pure (h _ ms m1 m2 m3)
  ·have e1:((arrOf r).map (·.2)).size=(v₁::v₂::rest).length:=by rw[Array.size_map,hp.size_eq,pairsOf_size]
   show((arrOf r).map (·.2)).size<=_;rw[e1,sizeLine_eq];omega
end
end L2
set_option maxHeartbeats 4000000
namespace L2
open PySem PySem.Spec PyProof.Rows
def kys (xs:List Keyed):List Int:=xs.map fun p=>numOf p.1
theorem Zqm {xs:Array Keyed}{i:Nat}(h:i<(kys xs.toList).length):K xs i=(kys xs.toList)[i]:=by
 have h':i<xs.size:=by unfold kys at h;simpa using h
 rw[K_eq h'];simp[kys]
theorem Zdt {vs:List Value}{ns:List Int}(hI:IntsAre vs ns):kys (pairsOf vs).toList=ns:=by
 rw[pairsOf_toList,<-hI.nums];unfold kys;clear hI;induction vs with
 |nil=>rfl
 |cons v vs ih=>simp[ih]
end L2
set_option maxHeartbeats 4000000
namespace L2
open PySem PySem.Spec PyProof.Rows
local macro_rules
 | `(tactic| walk_at "gl")=>do
  let j := Lean.mkIdent (Lean.mkPrivateNameCore `PySem.Builtin.List.W1All `PySem.Builtin.gallop)
  `(tactic| unfold $j)
def bey (left:Bool)(v kv:Int):Bool:=if left then decide (v<kv)else !decide (kv<v)
theorem Z36 {left:Bool}{u v kv:Int}(h:u<=v)(hb:bey left v kv=true):bey left u kv=true:=by
 unfold bey at *
 cases left
 ·simp at hb ⊢;omega
 ·simp at hb ⊢;omega
def beyM (left:Bool)(key:Keyed)(arr:Array Keyed) (j:Nat):StateT SortSt Sem (Option Bool):=do
 let x <- elem' arr j
 if left=true then lt' x key
  else do
   let r <- lt' key x
   pure (Option.map (fun x =>!x) r)
section
variable {prog:Program}{w:World}{A:Around}{E:L2.VSP}{s:Shared}{st:SortSt}{left:Bool}{kv:Int}{tk:Tok}{kq:Value}{arr:Array Keyed}{base n hint:Nat}{V:Nat->Int}
theorem beyW {j:Nat}{v:Int}{t:Tok}{q:Value}{Q:Option Bool->SortSt->Prop}(hk:kindOf st=oneType')(he:arr[j]?=some (.int v t,q))(h:Q (some (bey left v kv)) st):wpS (model prog w) A E s (beyM left (.int kv tk,kq) arr j) Q st:=by
 unfold beyM;refine wpS_bind (elP he ?_)
 cases left with
 |true=>rw[if_pos rfl];exact ltP hk h
 |false=>rw[if_neg (by decide)];exact wpS_bind (ltP hk (wpS_pure h))
def Zlk (left:Bool)(V:Nat->Int) (kv:Int)(n k:Nat):Prop:=k<=n/\(∀ i,i<k->bey left (V i) kv=true)/\∀ i,k<=i->i<n->bey left (V i) kv=false
theorem Zdu {lo hi:Nat}{Q:Option Nat->SortSt->Prop}{f:Nat->Option (Option Nat)×Nat×Nat->StateT SortSt Sem (ForInStep (Option (Option Nat)×Nat×Nat))}{k:Option (Option Nat)×Nat×Nat->StateT SortSt Sem (Option Nat)}
  (hf1:∀ x l r,l≥r->f x (none,l,r)=pure (.done (none,l,r)))(hf2:∀ x l r (R:ForInStep (Option (Option Nat)×Nat×Nat)->SortSt->Prop),l<r->r<=n->(R (if bey left (V (l+(r-l)/2)) kv=true then .yield (none,l+(r-l)/2+1,r)else .yield (none,l,l+(r-l)/2)) st)->wpS (model prog w) A E s (f x (none,l,r)) R st)
  (hk2:∀ j (R:Option Nat->SortSt->Prop),R (some j) st->wpS (model prog w) A E s (k (none,j,j)) R st)(hm:∀ i j,i<=j->j<n->V i<=V j)(lh:lo<=hi)(hn:hi<=n)(h1:∀ i,i<lo->bey left (V i) kv=true)(h2:∀ i,hi<=i->i<n->bey left (V i) kv=false)
  (h:∀ k,Zlk left V kv n k->Q (some k) st):wpS (model prog w) A E s (forIn [:n] (none,lo,hi) f >>= k) Q st:=by
 refine wpS_bind (wpS_mono (wpS_forRange (I:=fun x c t=>t=st/\∃ l r,c=(none,l,r)/\l<=r/\r<=n/\r-l<=n-x/\(∀ i,i<l->bey left (V i) kv=true)/\∀ i,r<=i->i<n->bey left (V i) kv=false)
  (Q:=fun c t=>t=st/\∃ k,c=(none,k,k)/\Zlk left V kv n k) (fun x c t ψ hx hI => ?_) (fun c t hI => ?_) ⟨rfl,lo,hi,rfl,lh,hn,by omega,h1,h2⟩) fun c t hI => ?_)
 ·obtain⟨rfl,l,r,rfl,e1,e2,e3,g1,g2⟩:=hI;by_cases z:l≥r
  ·rw[hf1 x l r z];have:l=r:=by omega
   subst this;exact wpS_pure ⟨rfl,l,rfl,e2,g1,g2⟩
  ·refine hf2 x l r _ (by omega) e2 ?_
   cases hb:bey left (V (l+(r-l)/2)) kv with
   |true=>
    rw[if_pos rfl];refine⟨rfl,l+(r-l)/2+1,r,rfl,by omega,e2,by omega,fun i hi'=>?_,g2⟩;exact Z36 (hm i (l+(r-l)/2) (by omega) (by omega)) hb
   |false=>
    rw[if_neg (by decide)];refine⟨rfl,l,l+(r-l)/2,rfl,by omega,by omega,by omega,g1,fun i hi' hin=>?_⟩
    cases hc:bey left (V i) kv with
    |false=>rfl
    |true=>rw[Z36 (hm (l+(r-l)/2) i hi' hin) hc]at hb;cases hb
 ·obtain⟨rfl,l,r,rfl,e1,e2,e3,g1,g2⟩:=hI;rw[show max 0 n=n by omega]at e3;have:l=r:=by omega
  subst this;exact⟨rfl,l,rfl,e2,g1,g2⟩
 ·obtain⟨rfl,k,rfl,g⟩:=hI;exact hk2 k _ (h k g)
theorem gal {Q:Option Nat->SortSt->Prop}(hk:kindOf st=oneType')(hV:∀ i,i<n->∃ t q,arr[base+i]?=some (.int (V i) t,q))(hm:∀ i j,i<=j->j<n->V i<=V j)(hh:hint<n)
  (h:∀ k,Zlk left V kv n k->Q (some k) st):wpS (model prog w) A E s (Zds left (.int kv tk,kq) arr base n hint) Q st:=by
 have no:∀ i j,i<=j->j<n->bey left (V i) kv=false->bey left (V j) kv=false:=fun i j hij hj hb=>by
  cases hc:bey left (V j) kv with
  |false=>rfl
  |true=>rw[Z36 (hm i j hij hj) hc]at hb;cases hb
 unfold Zds;walk_at "gl";dsimp only;obtain⟨t0,q0,he0⟩:=hV hint hh;refine wpS_bind (beyW hk he0 ?_)
 cases hb:bey left (V hint) kv with
 |true=>
  dsimp only;rw[if_pos rfl];refine wpS_bind (wpS_mono (wpS_forRange (I:=fun x c t=>t=st/\∃ l o,c=(none,l,o)/\x+1<=o/\hint+l<n/\l<o/\bey left (V (hint+l)) kv=true)
   (Q:=fun c t=>t=st/\∃ l o,c=(none,l,o)/\hint+l<n/\l<o/\bey left (V (hint+l)) kv=true/\(hint+o<n->bey left (V (hint+o)) kv=false)) (fun x c t ψ hx hI => ?_) (fun c t hI => ?_) ⟨rfl,0,1,rfl,by omega,by omega,by omega,hb⟩) fun c t hI => ?_)
  ·obtain⟨rfl,l,o,rfl,e1,e2,e3,g1⟩:=hI;dsimp only;by_cases z:o≥n-hint
   ·rw[if_pos z];exact wpS_pure ⟨rfl,l,o,rfl,e2,e3,g1,fun y=>by omega⟩
   ·rw[if_neg z];obtain⟨tt,q,he⟩:=hV (hint+o) (by omega);refine wpS_bind (beyW hk he ?_)
    cases hc:bey left (V (hint+o)) kv with
    |true=>
     dsimp only;rw[if_neg (by decide)];exact wpS_pure ⟨rfl,o,2*o+1,rfl,by omega,by omega,by omega,hc⟩
    |false=>
     dsimp only;rw[if_pos (by decide)];exact wpS_pure ⟨rfl,l,o,rfl,e2,e3,g1,fun ψ=>hc⟩
  ·obtain⟨rfl,l,o,rfl,e1,e2,e3,g1⟩:=hI;exact⟨rfl,l,o,rfl,e2,e3,g1,fun y=>by omega⟩
  ·obtain⟨rfl,l,o,rfl,e2,e3,g1,g2⟩:=hI;dsimp only;refine Zdu (lo:=hint+l+1) (hi:=hint+min o (n-hint)) (fun x l r z=>by dsimp only;rw[if_pos z]) (fun x l r R z zn hR=>by
    dsimp only;rw[if_neg (by omega)];obtain⟨tt,q,he⟩:=hV (l+(r-l)/2) (by omega);refine wpS_bind (beyW hk he ?_)
    cases hb:bey left (V (l+(r-l)/2)) kv with
    |true=>rw[hb,if_pos rfl]at hR;dsimp only;rw[if_pos rfl];exact wpS_pure hR
    | false=>rw[hb,if_neg (by decide)]at hR;dsimp only;rw[if_neg (by decide)];exact wpS_pure hR) (fun j R hR=>by exact wpS_pure hR) hm (by omega) (by omega) (fun i hi=>Z36 (hm i (hint+l) (by omega) e2) g1) (fun i hi hin => ?_) h
   by_cases z:hint+o<n
   ·exact no (hint+o) i (by omega) hin (g2 z)
   ·omega
 |false=>
  dsimp only;rw[if_neg (by decide)];refine wpS_bind (wpS_mono (wpS_forRange (I:=fun x c t=>t=st/\∃ l o,c=(none,l,o)/\x+1<=o/\l<=hint/\l<o/\bey left (V (hint-l)) kv=false)
   (Q:=fun c t=>t=st/\∃ l o,c=(none,l,o)/\l<=hint/\l<o/\bey left (V (hint-l)) kv=false/\(o<=hint->bey left (V (hint-o)) kv=true)) (fun x c t ψ hx hI => ?_) (fun c t hI => ?_) ⟨rfl,0,1,rfl,by omega,by omega,by omega,hb⟩) fun c t hI => ?_)
  ·obtain⟨rfl,l,o,rfl,e1,e2,e3,g1⟩:=hI;dsimp only;by_cases z:o≥hint+1
   ·rw[if_pos z];exact wpS_pure ⟨rfl,l,o,rfl,e2,e3,g1,fun y=>by omega⟩
   ·rw[if_neg z];obtain⟨tt,q,he⟩:=hV (hint-o) (by omega);refine wpS_bind (beyW hk he ?_)
    cases hc:bey left (V (hint-o)) kv with
    |true=>
     dsimp only;rw[if_pos rfl];exact wpS_pure ⟨rfl,l,o,rfl,e2,e3,g1,fun ψ=>hc⟩
    |false=>
     dsimp only;rw[if_neg (by decide)];exact wpS_pure ⟨rfl,o,2*o+1,rfl,by omega,by omega,by omega,hc⟩
  ·obtain⟨rfl,l,o,rfl,e1,e2,e3,g1⟩:=hI;exact⟨rfl,l,o,rfl,e2,e3,g1,fun y=>by omega⟩
  ·obtain⟨rfl,l,o,rfl,e2,e3,g1,g2⟩:=hI;dsimp only;refine Zdu (lo:=hint+1-min o (hint+1)) (hi:=hint-l) (fun x l r z=>by dsimp only;rw[if_pos z]) (fun x l r R z zn hR=>by
    dsimp only;rw[if_neg (by omega)];obtain⟨tt,q,he⟩:=hV (l+(r-l)/2) (by omega);refine wpS_bind (beyW hk he ?_)
    cases hb:bey left (V (l+(r-l)/2)) kv with
    |true=>rw[hb,if_pos rfl]at hR;dsimp only;rw[if_pos rfl];exact wpS_pure hR
    | false=>rw[hb,if_neg (by decide)]at hR;dsimp only;rw[if_neg (by decide)];exact wpS_pure hR) (fun j R hR=>by exact wpS_pure hR) hm (by omega) (by omega) (fun i hi => ?_) (fun i hi hin=>no (hint-l) i (by omega) hin g1) h
   by_cases z:o<=hint
   ·exact Z36 (hm i (hint-o) (by omega) (by omega)) (g2 z)
   ·omega
end
end L2
set_option maxHeartbeats 4000000
namespace L2
open PySem PySem.Spec PyProof.Rows
def kn (p:Keyed):Int:=numOf p.1
abbrev LeK (p q:Keyed):Prop:=kn p<=kn q
structure JL (R:Keyed->Keyed->Prop)(A B o:List Keyed)(i j:Nat):Prop where
 pa:i<=A.length
 pb:j<=B.length
 perm:o.Perm (A.take i++B.take j)
 srt:o.Pairwise R
 la:∀ p∈o,∀ q∈A.drop i,R p q
 lb:∀ p∈o,∀ q∈B.drop j,R p q
abbrev GeK (p q:Keyed):Prop:=kn q<=kn p
def MOk (R:Keyed->Keyed->Prop)(A B r:List Keyed):Prop:=r.Perm (A++B)/\r.Pairwise R
section
variable {R:Keyed->Keyed->Prop}{A B o:List Keyed}{i j:Nat}
theorem JL.swap (h:JL R A B o i j):JL R B A o j i:=⟨h.pb,h.pa,h.perm.trans List.perm_append_comm,h.srt,h.lb,h.la⟩
theorem JL.addA (h:JL R A B o i j)(sa:A.Pairwise R) (k:Nat)(hk:i+k<=A.length)(hx:∀ p∈(A.drop i).take k,∀ q∈B.drop j,R p q):JL R A B (o++(A.drop i).take k) (i+k) j:=by
 have sd:(A.drop i).Pairwise R:=sa.sublist (List.drop_sublist _ _);have e:A.drop i=(A.drop i).take k++A.drop (i+k):=by rw[<-List.drop_drop,List.take_append_drop]
 have sp:=List.pairwise_append.mp (e▸sd);have up:∀ q,q∈A.drop (i+k)->q∈A.drop i:=fun q hq=>by rw[e];exact List.mem_append_right _ hq
 refine⟨hk,h.pb,?_,List.pairwise_append.mpr ⟨h.srt,sp.1,fun p hp q hq=>h.la p hp q (List.mem_of_mem_take hq)⟩,fun p hp q hq=>?_,fun p hp q hq=>?_⟩
 ·rw[List.take_add];refine(h.perm.append_right _).trans ?_;rw[List.append_assoc,List.append_assoc];exact List.Perm.append_left _ List.perm_append_comm
 ·rcases List.mem_append.mp hp with z|z
  ·exact h.la p z q (up q hq)
  ·exact sp.2.2 p z q hq
 ·rcases List.mem_append.mp hp with z|z
  ·exact h.lb p z q hq
  ·exact hx p z q hq
theorem JL.addB (h:JL R A B o i j)(sb:B.Pairwise R) (k:Nat)(hk:j+k<=B.length)(hx:∀ p∈(B.drop j).take k,∀ q∈A.drop i,R p q):JL R A B (o++(B.drop j).take k) i (j+k):=(h.swap.addA sb k hk hx).swap
theorem Z1d {x:Keyed}(h:A[i]?=some x):(A.drop i).take 1=[x]:=by
 rw[L2.Z2z h];rfl
theorem JL.doneB (h:JL R A B o i j)(sa:A.Pairwise R)(e:B.length<=j):MOk R A B (o++A.drop i++B.drop j):=by
 rw[List.drop_eq_nil_of_le e,List.append_nil];refine⟨?_,List.pairwise_append.mpr ⟨h.srt,sa.sublist (List.drop_sublist _ _),h.la⟩⟩;have p:=h.perm;rw[List.take_of_length_le e]at p;refine(p.append_right _).trans ?_;rw[List.append_assoc];refine(List.Perm.append_left _ List.perm_append_comm).trans ?_;rw[<-List.append_assoc,List.take_append_drop]
theorem JL.doneA (h:JL R A B o i j)(sb:B.Pairwise R)(e:A.length<=i):MOk R A B (o++A.drop i++B.drop j):=by
 have z:=h.swap.doneB sb e;rw[List.drop_eq_nil_of_le e,List.append_nil]at z ⊢;exact⟨z.1.trans List.perm_append_comm,z.2⟩
theorem JL.lastA (h:JL R A B o i j)(sb:B.Pairwise R){z:Keyed}(e:A.drop i=[z])(hz:∀ q∈B,R q z):MOk R A B (o++B.drop j++A.drop i):=by
 refine⟨?_,List.pairwise_append.mpr ⟨List.pairwise_append.mpr ⟨h.srt,sb.sublist (List.drop_sublist _ _),h.lb⟩,by rw[e];exact List.pairwise_singleton _ _,fun p hp q hq=>?_⟩⟩
 ·refine((h.perm.append_right _).append_right _).trans ?_;rw[List.append_assoc (A.take i),List.take_append_drop,List.append_assoc];refine(List.Perm.append_left _ List.perm_append_comm).trans ?_;rw[<-List.append_assoc,List.take_append_drop]
 ·rcases List.mem_append.mp hp with y|y
  ·exact h.la p y q hq
  ·rw[e]at hq;rw[List.mem_singleton.mp hq];exact hz p (List.mem_of_mem_drop y)
end
end L2
set_option maxHeartbeats 4000000
namespace L2
open PySem PySem.Spec PyProof.Rows
local macro_rules
 | `(tactic| walk_at "ml")=>do
  let j := Lean.mkIdent (Lean.mkPrivateNameCore `PySem.Builtin.List.W1All `PySem.Builtin.mergeLo)
  `(tactic| unfold $j)
 | `(tactic| walk_at "sg")=>do
  let j := Lean.mkIdent (Lean.mkPrivateNameCore `PySem.Builtin.List.W1All `PySem.Builtin.setMinGallop)
  `(tactic| unfold $j)
def Z9c:Array Keyed->Array Keyed->StateT SortSt Sem (Array Keyed):=sortPriv% PySem.Builtin.mergeLo
def Zqn:Nat->StateT SortSt Sem Unit:=sortPriv% PySem.Builtin.setMinGallop
structure SamS (st t:SortSt):Prop where
 kind:kindOf t=kindOf st
 arr:arrOf t=arrOf st
 pend:pendingOf t=pendingOf st
 fail:failedOf t=failedOf st
theorem SamS.refl {st:SortSt}:SamS st st:=⟨rfl,rfl,rfl,rfl⟩
section
variable {prog:Program}{w:World}{A:Around}{E:L2.VSP}{s:Shared}
theorem sgW {st t:SortSt}{g:Nat}{Q:Unit->SortSt->Prop}(hS:SamS st t)(h:∀ t',SamS st t'->Q () t'):wpS (model prog w) A E s (Zqn g) Q t:=by
 unfold Zqn;walk_at "sg";exact wpS_modify (h _ ⟨hS.kind,hS.arr,hS.pend,hS.fail⟩)
theorem Z0z {a:Array Keyed}{i j:Nat}:(a.extract i j).toList=(a.toList.drop i).take (j-i):=by simp[List.extract_eq_drop_take]
theorem Z3l {a:Array Keyed}{i:Nat}:(a.extract i a.size).toList=a.toList.drop i:=by
 rw[Z0z,List.take_of_length_le (by simp)]
def Ik (a:Array Keyed):Prop:=∀ i,i<a.size->∃(n:Int)(t:Tok)(q:Value),a[i]?=some (.int n t,q)
theorem Ik.at {a:Array Keyed}(h:Ik a){i:Nat}(hi:i<a.size):∃ t q,a[i]?=some (.int (K a i) t,q):=by
 obtain⟨n,t,q,e⟩:=h i hi;refine⟨t,q,?_⟩;unfold K;rw[e];rfl
theorem K_kn {a:Array Keyed}{i:Nat}{x:Keyed}(h:a[i]?=some x):K a i=kn x:=by unfold K kn;rw[h]
theorem Z1v {a:Array Keyed}{i:Nat}{x:Keyed}(h:a[i]?=some x):a.toList[i]?=some x:=by rw[Array.getElem?_toList];exact h
theorem Z2w {a:Array Keyed}(h:a.toList.Pairwise LeK){i j:Nat}(hij:i<=j)(hj:j<a.size):K a i<=K a j:=by
 have hi:i<a.size:=by omega
 have e1:a[i]?=some a[i]:=by simp[hi]
 have e2:a[j]?=some a[j]:=by simp[hj]
 rw[K_kn e1,K_kn e2];by_cases c:i=j
 ·subst c;exact Int.le_refl _
 ·have:=List.pairwise_iff_getElem.mp h i j (by simpa using hi) (by simpa using hj) (by omega)
  simpa using this
theorem Z15 {a:Array Keyed}{i:Nat}{q:Keyed}(h:q∈a.toList.drop i):∃ j,i<=j/\j<a.size/\K a j=kn q:=by
 obtain⟨k,hk,e⟩:=List.mem_iff_getElem.mp h;rw[List.length_drop,Array.length_toList]at hk;rw[List.getElem_drop,Array.getElem_toList]at e;refine⟨i+k,by omega,by omega,K_kn ?_⟩;rw[<-e];simp
theorem Z1u {a:Array Keyed}{i k:Nat}{q:Keyed}(h:q∈(a.toList.drop i).take k):∃ j,i<=j/\j<i+k/\j<a.size/\K a j=kn q:=by
 obtain⟨m,hm,e⟩:=List.mem_iff_getElem.mp h;rw[List.length_take,List.length_drop,Array.length_toList]at hm;rw[List.getElem_take,List.getElem_drop,Array.getElem_toList]at e;refine⟨i+m,by omega,by omega,by omega,K_kn ?_⟩;rw[<-e];simp
theorem Zak {st:SortSt}{a b:Array Keyed}{Q:Array Keyed->SortSt->Prop}(hk:kindOf st=oneType')(ia0:Ik a)(ib0:Ik b)(sa:a.toList.Pairwise LeK)(sb:b.toList.Pairwise LeK)(na:1<=a.size)(nb:1<=b.size)(h0:K b 0<=K a 0)(hz:∀ i,i<b.size->K b i<=K a (a.size-1))
  (h:∀ r t,MOk LeK a.toList b.toList r.toList->SamS st t->Q r t):wpS (model prog w) A E s (Z9c a b) Q st:=by
 obtain⟨tb,qb,eb⟩:=ib0.at (i:=0) (by omega)
 have J0:JL LeK a.toList b.toList [(Value.int (K b 0) tb,qb)] 0 1:=by
  have z:JL LeK a.toList b.toList [] 0 0:=⟨by omega,by omega,by simp,List.Pairwise.nil,by simp,by simp⟩
  have:=z.addB sb 1 (by simp;omega) (fun p hp q hq=>by
   rw[Z1d (Z1v eb)]at hp;rw[List.mem_singleton.mp hp];obtain⟨j,_,hj,e⟩:=Z15 hq;have:=Z2w sa (Nat.zero_le j) hj
   show K b 0<=_;omega)
  rw[Z1d (Z1v eb)]at this;exact this
 have lastZ:∀{i:Nat},i+1=a.size->∃ z,a.toList.drop i=[z]/\∀ q∈b.toList,kn q<=kn z:=fun{i} hi=>by
  obtain⟨tz,qz,ez⟩:=ia0.at (i:=i) (by omega)
  refine⟨_,by rw[L2.Z2z (Z1v ez),List.drop_eq_nil_of_le (by simp;omega)],fun q hq=>?_⟩;obtain⟨j,_,hj,e⟩:=Z15 (a:=b) (i:=0) (by simpa using hq);have:=hz j hj
  rw[show a.size-1=i by omega]at this;show kn q<=K a i;omega
 have retL:∀{o:Array Keyed}{i j:Nat},JL LeK a.toList b.toList o.toList i j->i+1=a.size->MOk LeK a.toList b.toList (o++b.extract j b.size++a.extract i a.size).toList:=fun{o i j} J hi=>by
  obtain⟨z,e1,e2⟩:=lastZ hi;rw[Array.toList_append,Array.toList_append,Z3l,Z3l];exact J.lastA sb e1 e2
 have retD:∀{o:Array Keyed}{i j:Nat},JL LeK a.toList b.toList o.toList i j->b.size<=j->MOk LeK a.toList b.toList (o++a.extract i a.size++b.extract j b.size).toList:=fun{o i j} J hi=>by
  rw[Array.toList_append,Array.toList_append,Z3l,Z3l];exact J.doneB sa (by simpa using hi)
 have retA:∀{o:Array Keyed}{i j:Nat},JL LeK a.toList b.toList o.toList i j->a.size<=i->MOk LeK a.toList b.toList (o++a.extract i a.size++b.extract j b.size).toList:=fun{o i j} J hi=>by
  rw[Array.toList_append,Array.toList_append,Z3l,Z3l];exact J.doneA sb (by simpa using hi)
 have pA:∀{o:Array Keyed}{i j:Nat}{x:Keyed},JL LeK a.toList b.toList o.toList i j->a[i]?=some x->(j<b.size->kn x<=K b j)->JL LeK a.toList b.toList (o.push x).toList (i+1) j:=fun{o i j x} J hx hl=>by
  have hi:i<a.size:=by
   by_cases c:i<a.size
   ·exact c
   ·rw[Array.getElem?_eq_none (by omega)]at hx;cases hx
  have:=J.addA sa 1 (by simp;omega) (fun p hp q hq=>by
   rw[Z1d (Z1v hx)]at hp;rw[List.mem_singleton.mp hp];obtain⟨m,m1,m2,e⟩:=Z15 hq;have l1:=hl (by omega);have l2:=Z2w sb m1 m2;omega)
  rw[Z1d (Z1v hx)]at this;rw[Array.toList_push];exact this
 have pB:∀{o:Array Keyed}{i j:Nat}{x:Keyed},JL LeK a.toList b.toList o.toList i j->b[j]?=some x->(i<a.size->kn x<=K a i)->JL LeK a.toList b.toList (o.push x).toList i (j+1):=fun{o i j x} J hx hl=>by
  have hi:j<b.size:=by
   by_cases c:j<b.size
   ·exact c
   ·rw[Array.getElem?_eq_none (by omega)]at hx;cases hx
  have:=J.addB sb 1 (by simp;omega) (fun p hp q hq=>by
   rw[Z1d (Z1v hx)]at hp;rw[List.mem_singleton.mp hp];obtain⟨m,m1,m2,e⟩:=Z15 hq;have l1:=hl (by omega);have l2:=Z2w sa m1 m2;omega)
  rw[Z1d (Z1v hx)]at this;rw[Array.toList_push];exact this
 unfold Z9c;walk_at "ml";refine wpS_bind (wpS_lift (wpAny_rule ⟨rfl,?_⟩));dsimp only;refine wpS_bind (elP eb ?_);by_cases b1:1=b.size
 ·rw[if_pos (by simpa using b1)];exact wpS_pure (h _ _ (retD (o:=#[_]) J0 (by omega)) .refl)
 ·rw[if_neg (by simpa using b1)];by_cases a1:0+1=a.size
  ·rw[if_pos (by simpa using a1)];exact wpS_pure (h _ _ (retL (o:=#[_]) J0 a1) .refl)
  ·rw[if_neg (by simpa using a1)];refine wpS_bind (wpS_get ?_);refine wpS_bind (wpS_mono (wpS_forRange (I:=fun x c t=>SamS st t/\∃ o i j mg,c=(none,o,i,j,mg)/\JL LeK a.toList b.toList o.toList i j/\i+1<a.size/\j<b.size/\x+1<=i+j)
    (Q:=fun c t=>SamS st t/\∃ r y,c=(some r,y)/\MOk LeK a.toList b.toList r.toList) (fun x c t ψ hx hI => ?_) (fun c t hI => ?_) ⟨.refl,_,_,_,_,rfl,J0,by omega,by omega,by omega⟩) fun c t hI => ?_)
   ·obtain⟨hS,o,i,j,mg,rfl,J,i1,j1,g1⟩:=hI;dsimp only;have hk':kindOf t=oneType':=hS.kind.trans hk;refine wpS_bind (wpS_mono (wpS_forRange (I:=fun x c t'=>t'=t/\∃ o' i' j' ac bc,c=(none,o',i',j',ac,bc)/\JL LeK a.toList b.toList o'.toList i' j'/\i'+1<a.size/\j'<b.size/\i+j+x<=i'+j')
     (Q:=fun c t'=>t'=t/\((∃ r y,c=(some r,y)/\MOk LeK a.toList b.toList r.toList)\/∃ o' i' j' ac bc,c=(none,o',i',j',ac,bc)/\JL LeK a.toList b.toList o'.toList i' j'/\i'+1<a.size/\j'<b.size/\i+j+1<=i'+j')) (fun x1 c t' ψ hx1 hI => ?_) (fun c t' hI => ?_) ⟨rfl,o,i,j,0,0,rfl,J,i1,j1,by omega⟩) fun c t' hI => ?_)
    ·obtain⟨rfl,o',i',j',ac,bc,rfl,J',i2,j2,g2⟩:=hI;dsimp only;obtain⟨t1,q1,e1⟩:=ib0.at j2;obtain⟨t2,q2,e2⟩:=ia0.at (i:=i') (by omega)
     refine wpS_bind (elP e1 (wpS_bind (elP e2 (wpS_bind (ltP hk' ?_)))));by_cases bw:K b j'<K a i'
     ·simp only[bw,decide_true,if_true];refine wpS_bind (elP e1 ?_);have J2:=pB J' e1 (fun ψ=>Int.le_of_lt bw);by_cases z:j'+1=b.size
      ·rw[if_pos (by simpa using z)];exact wpS_pure ⟨rfl,.inl ⟨_,_,rfl,retD J2 (by omega)⟩⟩
      ·rw[if_neg (by simpa using z)];by_cases y:bc+1≥mg
       ·rw[if_pos y];exact wpS_pure ⟨rfl,.inr ⟨_,_,_,_,_,rfl,J2,i2,by omega,by omega⟩⟩
       ·rw[if_neg y];exact wpS_pure ⟨rfl,_,_,_,_,_,rfl,J2,i2,by omega,by omega⟩
     ·simp only[bw,decide_false,Bool.false_eq_true,if_false];refine wpS_bind (elP e2 ?_);have J2:=pA J' e2 (fun ψ=>Int.not_lt.mp bw);by_cases z:i'+1+1=a.size
      ·rw[if_pos (by simpa using z)];exact wpS_pure ⟨rfl,.inl ⟨_,_,rfl,retL J2 z⟩⟩
      ·rw[if_neg (by simpa using z)];by_cases y:ac+1≥mg
       ·rw[if_pos y];exact wpS_pure ⟨rfl,.inr ⟨_,_,_,_,_,rfl,J2,by omega,j2,by omega⟩⟩
       ·rw[if_neg y];exact wpS_pure ⟨rfl,_,_,_,_,_,rfl,J2,by omega,j2,by omega⟩
    ·obtain⟨rfl,o',i',j',ac,bc,rfl,J',i2,j2,g2⟩:=hI;exact⟨rfl,.inr ⟨o',i',j',ac,bc,rfl,J',i2,j2,by omega⟩⟩
    ·obtain⟨rfl,⟨r,y,rfl,M⟩|⟨o',i',j',ac,bc,rfl,J',i2,j2,g2⟩⟩:=hI
     ·dsimp only;exact wpS_pure ⟨hS,r,_,rfl,M⟩
     ·dsimp only;refine wpS_bind (wpS_lift (wpAny_rule ⟨rfl,?_⟩));refine wpS_bind (wpS_mono (wpS_forRange (I:=fun x c t'=>SamS st t'/\∃ o1 i1 j1 m1 ac1 bc1,c=(none,o1,i1,j1,m1,ac1,bc1)/\JL LeK a.toList b.toList o1.toList i1 j1/\i1+1<a.size/\j1<b.size/\i+j+1<=i1+j1)
       (Q:=fun c t'=>SamS st t'/\((∃ r y,c=(some r,y)/\MOk LeK a.toList b.toList r.toList)\/∃ o1 i1 j1 m1 ac1 bc1,c=(none,o1,i1,j1,m1,ac1,bc1)/\JL LeK a.toList b.toList o1.toList i1 j1/\i1+1<a.size/\j1<b.size/\i+j+1<=i1+j1)) (fun x1 c t' ψ hx1 hI => ?_) (fun c t' hI => ?_) ⟨hS,o',i',j',mg+1,ac,bc,rfl,J',i2,j2,g2⟩) fun c t' hI => ?_)
      ·obtain⟨hS1,o1,i3,j3,m1,ac1,bc1,rfl,J1,i4,j4,g4⟩:=hI;dsimp only;obtain⟨t1,q1,e1⟩:=ib0.at j4;by_cases mg1:m1 > 1
       rotate_left
       rw[if_neg mg1];rotate_left
       rw[if_pos mg1];all_goals
        refine wpS_bind (sgW hS1 fun t2 hS2=>?_);have hk2:kindOf t2=oneType':=hS2.kind.trans hk;refine wpS_bind (elP e1 ?_);refine wpS_bind (gal (left:=false) (V:=fun n=>K a (i3+n)) hk2 (fun n hn=>ia0.at (by omega)) (fun n m hnm hm=>Z2w sa (by omega) (by omega)) (by omega) fun k gk=>?_);dsimp only;obtain⟨gk0,gk1,gk2⟩:=gk;have J2:JL LeK a.toList b.toList (o1++a.extract i3 (i3+k)).toList (i3+k) j3:=by
         rw[Array.toList_append,Z0z,Nat.add_sub_cancel_left];refine J1.addA sa k (by simp;omega) fun p hp q hq=>?_;obtain⟨m,m1,m2,m3,e⟩:=Z1u hp;obtain⟨m',n1,n2,e'⟩:=Z15 hq;have l1:=gk1 (m-i3) (by omega);unfold bey at l1;simp only[Bool.false_eq_true,if_false,Bool.not_eq_true',decide_eq_false_iff_not]at l1;rw[show i3+(m-i3)=m by omega]at l1;have l2:=Z2w sb n1 n2;omega
        have lo:i3+k<a.size->K b j3<=K a (i3+k):=fun z=>by
         have l1:=gk2 k (Nat.le_refl _) (by omega);unfold bey at l1;simp only[Bool.false_eq_true,if_false,Bool.not_eq_false',decide_eq_true_eq]at l1;omega
        clear gk1 gk2;by_cases k0:k > 0
        rotate_left
        rw[if_neg k0];have kz:k=0:=by omega
        rw[kz,Nat.add_zero]at lo;have J3:=J1;have i5:=i4;have g5:=g4;clear J2 J1 i4 g4;generalize i3=i6 at *
        generalize o1=o2 at *
        rotate_left
        rw[if_pos k0];by_cases z1:i3+k+1=a.size
        ·rw[if_pos (by simpa using z1)];exact wpS_pure ⟨hS2,.inl ⟨_,_,rfl,retL J2 z1⟩⟩
        rw[if_neg (by simpa using z1)];by_cases z2:i3+k=a.size
        ·rw[if_pos (by simpa using z2)];exact wpS_pure ⟨hS2,.inl ⟨_,_,rfl,retA J2 (by omega)⟩⟩
        rw[if_neg (by simpa using z2)];have J3:=J2;have i5:i3+k+1<a.size:=by omega
        have g5:i+j+1<=(i3+k)+j3:=by omega
        clear J2 J1 i4 g4;generalize i3+k=i6 at *
        generalize o1++a.extract i3 i6=o2 at *
        all_goals
         refine wpS_bind (elP e1 ?_);have J4:=pB J3 e1 lo;by_cases z3:j3+1=b.size
         ·rw[if_pos (by simpa using z3)];exact wpS_pure ⟨hS2,.inl ⟨_,_,rfl,retD J4 (by omega)⟩⟩
         rw[if_neg (by simpa using z3)];obtain⟨t3,q3,e3⟩:=ia0.at (i:=i6) (by omega)
         refine wpS_bind (elP e3 ?_);refine wpS_bind (gal (left:=true) (V:=fun n=>K b (j3+1+n)) hk2 (fun n hn=>ib0.at (by omega)) (fun n m hnm hm=>Z2w sb (by omega) (by omega)) (by omega) fun k2 gk=>?_);dsimp only;obtain⟨gl0,gl1,gl2⟩:=gk;have J5:JL LeK a.toList b.toList (o2.push (Value.int (K b j3) t1,q1)++b.extract (j3+1) (j3+1+k2)).toList i6 (j3+1+k2):=by
          rw[Array.toList_append,Z0z,Nat.add_sub_cancel_left];refine J4.addB sb k2 (by simp;omega) fun p hp q hq=>?_;obtain⟨m,m1,m2,m3,e⟩:=Z1u hp;obtain⟨m',n1,n2,e'⟩:=Z15 hq;have l1:=gl1 (m-(j3+1)) (by omega);unfold bey at l1;simp only[if_true,decide_eq_true_eq]at l1;rw[show j3+1+(m-(j3+1))=m by omega]at l1;have l2:=Z2w sa n1 n2;omega
         have lo2:j3+1+k2<b.size->K a i6<=K b (j3+1+k2):=fun z=>by
          have l1:=gl2 k2 (Nat.le_refl _) (by omega);unfold bey at l1;simp only[if_true,decide_eq_false_iff_not]at l1;omega
         clear gl1 gl2;by_cases k1:k2 > 0
         rotate_left
         rw[if_neg k1];have kz2:k2=0:=by omega
         rw[kz2,Nat.add_zero]at lo2;have J6:=J4;have j7:j3+1<b.size:=by omega
         have g7:i+j+1<=i6+(j3+1):=by omega
         clear J5 J4;generalize j3+1=j6 at *
         generalize o2.push (Value.int (K b j3) t1,q1)=o3 at *
         rotate_left
         rw[if_pos k1];by_cases z4:j3+1+k2=b.size
         ·rw[if_pos (by simpa using z4)];exact wpS_pure ⟨hS2,.inl ⟨_,_,rfl,retD J5 (by omega)⟩⟩
         rw[if_neg (by simpa using z4)];have J6:=J5;have j7:j3+1+k2<b.size:=by omega
         have g7:i+j+1<=i6+(j3+1+k2):=by omega
         clear J5 J4;generalize j3+1+k2=j6 at *
         generalize o2.push (Value.int (K b j3) t1,q1)++b.extract (j3+1) j6=o3 at *
         all_goals
          refine wpS_bind (elP e3 ?_);have J8:=pA J6 e3 lo2;by_cases z5:i6+1+1=a.size
          ·rw[if_pos (by simpa using z5)];exact wpS_pure ⟨hS2,.inl ⟨_,_,rfl,retL J8 z5⟩⟩
          rw[if_neg (by simpa using z5)];split
          ·exact wpS_pure ⟨hS2,.inr ⟨_,_,_,_,_,_,rfl,J8,by omega,j7,by omega⟩⟩
          ·exact wpS_pure ⟨hS2,_,_,_,_,_,_,rfl,J8,by omega,j7,by omega⟩
      ·obtain⟨hS1,o1,i3,j3,m1,ac1,bc1,rfl,J1,i4,j4,g4⟩:=hI;exact⟨hS1,.inr ⟨o1,i3,j3,m1,ac1,bc1,rfl,J1,i4,j4,g4⟩⟩
      ·obtain⟨hS1,⟨r,y,rfl,M⟩|⟨o1,i3,j3,m1,ac1,bc1,rfl,J1,i4,j4,g4⟩⟩:=hI
       ·dsimp only;exact wpS_pure ⟨hS1,r,_,rfl,M⟩
       ·dsimp only;refine wpS_bind (sgW hS1 fun t2 hS2=>wpS_pure ⟨hS2,_,_,_,_,rfl,J1,i4,j4,by omega⟩)
   ·obtain⟨hS,o,i,j,mg,rfl,J,i1,j1,g1⟩:=hI;omega
   ·obtain⟨hS,r,y,rfl,M⟩:=hI;dsimp only;exact wpS_pure (h r t M hS)
end
end L2
set_option maxHeartbeats 4000000
namespace L2
open PySem PySem.Spec PyProof.Rows
local macro_rules
 | `(tactic| walk_at "mh")=>do
  let j := Lean.mkIdent (Lean.mkPrivateNameCore `PySem.Builtin.List.W1All `PySem.Builtin.mergeHi)
  `(tactic| unfold $j)
section
variable {a:Array Keyed}{n k:Nat}
theorem Zal (h:n<=a.size):a.toList.reverse.drop (a.size-n)=(a.toList.take n).reverse:=by
 rw[List.drop_reverse,Array.length_toList,show a.size-(a.size-n)=n by omega]
theorem rget {x:Keyed}(h1:1<=n)(h:a[n-1]?=some x):a.toList.reverse[a.size-n]?=some x:=by
 have l:n-1<a.size:=by
  by_cases c:n-1<a.size
  ·exact c
  ·rw[Array.getElem?_eq_none (by omega)]at h;cases h
 rw[List.getElem?_reverse (by simp;omega),Array.length_toList,show a.size-1-(a.size-n)=n-1 by omega];exact Z1v h
theorem rmem {q:Keyed}(hn:n<=a.size)(h:q∈a.toList.reverse.drop (a.size-n)):∃ j,j<n/\K a j=kn q:=by
 rw[Zal hn,List.mem_reverse]at h;obtain⟨j,_,j2,_,e⟩:=Z1u (a:=a) (i:=0) (k:=n) (by simpa using h);exact⟨j,by omega,e⟩
theorem Zdv (hk:k<=n)(hn:n<=a.size):(a.extract k n).reverse.toList=(a.toList.reverse.drop (a.size-n)).take (n-k):=by
 rw[Zal hn,List.take_reverse,Array.toList_reverse,Z0z,List.length_take,Array.length_toList,show min n a.size-(n-k)=k by omega,List.drop_take]
theorem Zqo {q:Keyed}(hk:k<=n)(hn:n<=a.size)(h:q∈(a.toList.reverse.drop (a.size-n)).take (n-k)):∃ j,k<=j/\j<n/\K a j=kn q:=by
 rw[<-Zdv hk hn,Array.toList_reverse,List.mem_reverse,Z0z]at h;obtain⟨j,j1,j2,_,e⟩:=Z1u h;exact⟨j,j1,by omega,e⟩
theorem Zdw (h:a.toList.Pairwise LeK):a.toList.reverse.Pairwise GeK:=List.pairwise_reverse.mpr h
theorem MOk.rev {A B r:List Keyed}(h:MOk GeK A.reverse B.reverse r):MOk LeK A B r.reverse:=by
 refine⟨(List.reverse_perm r).trans (h.1.trans ((List.reverse_perm A).append (List.reverse_perm B))),List.pairwise_reverse.mpr h.2⟩
end
section
variable {prog:Program}{w:World}{A:Around}{E:L2.VSP}{s:Shared}
theorem Zam {st:SortSt}{a b:Array Keyed}{Q:Array Keyed->SortSt->Prop}(hk:kindOf st=oneType')(ia0:Ik a)(ib0:Ik b)(sa:a.toList.Pairwise LeK)(sb:b.toList.Pairwise LeK)(na:1<=a.size)(nb:1<=b.size)(h0:K b 0<=K a 0)(hz:∀ i,i<b.size->K b i<=K a (a.size-1))
  (h:∀ r t,MOk LeK a.toList b.toList r.toList->SamS st t->Q r t):wpS (model prog w) A E s (Z9b a b) Q st:=by
 have ra:=Zdw sa;have rb:=Zdw sb;have pA:∀{o:Array Keyed}{i j:Nat}{x:Keyed},JL GeK a.toList.reverse b.toList.reverse o.toList (a.size-i) (b.size-j)->1<=i->i<=a.size->j<=b.size->a[i-1]?=some x->(∀ m,m<j->K b m<=kn x)->JL GeK a.toList.reverse b.toList.reverse (o.push x).toList (a.size-(i-1)) (b.size-j):=fun{o i j x} J i1 i2 j2 hx hl=>by
  have:=J.addA ra 1 (by simp;omega) (fun p hp q hq=>by
   rw[Z1d (rget i1 hx)]at hp;rw[List.mem_singleton.mp hp];obtain⟨m,m1,e⟩:=rmem j2 hq;have l1:=hl m m1;show kn q<=kn x;omega)
  rw[Z1d (rget i1 hx),show a.size-i+1=a.size-(i-1)by omega]at this;rw[Array.toList_push];exact this
 have pB:∀{o:Array Keyed}{i j:Nat}{x:Keyed},JL GeK a.toList.reverse b.toList.reverse o.toList (a.size-i) (b.size-j)->1<=j->i<=a.size->j<=b.size->b[j-1]?=some x->(∀ m,m<i->K a m<=kn x)->JL GeK a.toList.reverse b.toList.reverse (o.push x).toList (a.size-i) (b.size-(j-1)):=fun{o i j x} J j1 i2 j2 hx hl=>by
  have:=J.addB rb 1 (by simp;omega) (fun p hp q hq=>by
   rw[Z1d (rget j1 hx)]at hp;rw[List.mem_singleton.mp hp];obtain⟨m,m1,e⟩:=rmem i2 hq;have l1:=hl m m1;show kn q<=kn x;omega)
  rw[Z1d (rget j1 hx),show b.size-j+1=b.size-(j-1)by omega]at this;rw[Array.toList_push];exact this
 have ex0:∀{c:Array Keyed}{m:Nat},(c.extract 0 m).toList=c.toList.take m:=fun{c m}=>by rw[Z0z];simp
 have retA:∀{o:Array Keyed}{j:Nat},JL GeK a.toList.reverse b.toList.reverse o.toList (a.size-0) (b.size-j)->j<=b.size->MOk LeK a.toList b.toList (a.extract 0 0++b.extract 0 j++o.reverse).toList:=fun{o j} J hj=>by
  have z:=(J.doneA rb (by simp)).rev;rw[List.drop_eq_nil_of_le (by simp),List.append_nil,Zal hj,List.reverse_append,List.reverse_reverse]at z;rw[Array.toList_append,Array.toList_append,ex0,ex0,Array.toList_reverse,List.take_zero,List.nil_append];exact z
 have retB:∀{o:Array Keyed}{i:Nat},JL GeK a.toList.reverse b.toList.reverse o.toList (a.size-i) (b.size-0)->i<=a.size->MOk LeK a.toList b.toList (a.extract 0 i++b.extract 0 0++o.reverse).toList:=fun{o i} J hi=>by
  have z:=(J.doneB ra (by simp)).rev;rw[List.drop_eq_nil_of_le (as:=b.toList.reverse) (by simp),List.append_nil,Zal hi,List.reverse_append,List.reverse_reverse]at z;rw[Array.toList_append,Array.toList_append,ex0,ex0,Array.toList_reverse,List.take_zero,List.append_nil];exact z
 have retF:∀{o:Array Keyed}{i:Nat},JL GeK a.toList.reverse b.toList.reverse o.toList (a.size-i) (b.size-1)->i<=a.size->MOk LeK a.toList b.toList (b.extract 0 1++a.extract 0 i++o.reverse).toList:=fun{o i} J hi=>by
  obtain⟨tb,qb,eb⟩:=ib0.at (i:=0) (by omega)
  have e1:b.toList.reverse.drop (b.size-1)=[(Value.int (K b 0) tb,qb)]:=by
   rw[Zal (by omega),List.take_one,List.head?_eq_getElem?,Z1v eb];rfl
  have z:=(J.swap.lastA ra e1 fun q hq=>by
   rw[List.mem_reverse]at hq;obtain⟨m,_,m2,e⟩:=Z15 (a:=a) (i:=0) (by simpa using hq);have:=Z2w sa (Nat.zero_le m) m2
   show K b 0<=kn q;omega)
  have z2:MOk GeK a.toList.reverse b.toList.reverse _:=⟨z.1.trans List.perm_append_comm,z.2⟩
  have z3:=z2.rev;rw[e1,Zal hi,List.reverse_append,List.reverse_append,List.reverse_reverse]at z3;rw[Array.toList_append,Array.toList_append,ex0,ex0,Array.toList_reverse,List.take_one,List.head?_eq_getElem?,Z1v eb];simpa using z3
 obtain⟨ta,qa,ea⟩:=ia0.at (i:=a.size-1) (by omega)
 have J0:JL GeK a.toList.reverse b.toList.reverse (#[(Value.int (K a (a.size-1)) ta,qa)]:Array Keyed).toList (a.size-(a.size-1)) (b.size-b.size):=by
  have z:JL GeK a.toList.reverse b.toList.reverse (#[]:Array Keyed).toList (a.size-a.size) (b.size-b.size):=by
   rw[Nat.sub_self,Nat.sub_self];exact⟨by omega,by omega,by simp,List.Pairwise.nil,by simp,by simp⟩
  exact pA z na (Nat.le_refl _) (Nat.le_refl _) ea fun m hm=>hz m hm
 unfold Z9b;walk_at "mh";refine wpS_bind (wpS_lift (wpAny_rule ⟨rfl,?_⟩));dsimp only;refine wpS_bind (elP ea ?_);by_cases a1:a.size-1=0
 ·rw[if_pos (by simpa using a1)];rw[a1]at J0 ⊢;exact wpS_pure (h _ _ (retA J0 (Nat.le_refl _)) .refl)
 rw[if_neg (by simpa using a1)];by_cases b1:b.size=1
 ·rw[if_pos (by simpa using b1)];have J0':=J0;rw[show b.size-b.size=b.size-1 by omega]at J0';rw[b1];exact wpS_pure (h _ _ (retF J0' (by omega)) .refl)
 rw[if_neg (by simpa using b1)];refine wpS_bind (wpS_get ?_);refine wpS_bind (wpS_mono (wpS_forRange (I:=fun x c t=>SamS st t/\∃ o i j mg,c=(none,i,j,o,mg)/\JL GeK a.toList.reverse b.toList.reverse o.toList (a.size-i) (b.size-j)/\1<=i/\i<=a.size/\2<=j/\j<=b.size/\i+j+x+1<=a.size+b.size)
  (Q:=fun c t=>SamS st t/\∃ r y,c=(some r,y)/\MOk LeK a.toList b.toList r.toList) (fun x c t ψ hx hI => ?_) (fun c t hI => ?_) ⟨.refl,_,_,_,_,rfl,J0,by omega,by omega,by omega,by omega,by omega⟩) fun c t hI => ?_)
 ·obtain⟨hS,o,i,j,mg,rfl,J,i1,i2,j1,j2,g1⟩:=hI;dsimp only;have hk':kindOf t=oneType':=hS.kind.trans hk;refine wpS_bind (wpS_mono (wpS_forRange (I:=fun x c t'=>t'=t/\∃ o' i' j' ac bc,c=(none,i',j',o',ac,bc)/\JL GeK a.toList.reverse b.toList.reverse o'.toList (a.size-i') (b.size-j')/\1<=i'/\i'<=a.size/\2<=j'/\j'<=b.size/\i'+j'+x<=i+j)
   (Q:=fun c t'=>t'=t/\((∃ r y,c=(some r,y)/\MOk LeK a.toList b.toList r.toList)\/∃ o' i' j' ac bc,c=(none,i',j',o',ac,bc)/\JL GeK a.toList.reverse b.toList.reverse o'.toList (a.size-i') (b.size-j')/\1<=i'/\i'<=a.size/\2<=j'/\j'<=b.size/\i'+j'+1<=i+j)) (fun x1 c t' ψ hx1 hI => ?_) (fun c t' hI => ?_) ⟨rfl,o,i,j,0,0,rfl,J,i1,i2,j1,j2,by omega⟩) fun c t' hI => ?_)
  ·obtain⟨rfl,o',i',j',ac,bc,rfl,J',i3,i4,j3,j4,g2⟩:=hI;dsimp only;obtain⟨t1,q1,e1⟩:=ib0.at (i:=j'-1) (by omega)
   obtain⟨t2,q2,e2⟩:=ia0.at (i:=i'-1) (by omega)
   refine wpS_bind (elP e1 (wpS_bind (elP e2 (wpS_bind (ltP hk' ?_)))));by_cases aw:K b (j'-1)<K a (i'-1)
   ·simp only[aw,decide_true,if_true];refine wpS_bind (elP e2 ?_);have J2:=pA J' i3 i4 j4 e2 fun m hm=>by
     have:=Z2w sb (show m<=j'-1 by omega) (by omega)
     show K b m<=K a (i'-1);omega
    by_cases z:i'-1=0
    ·rw[if_pos (by simpa using z)];rw[z]at J2 ⊢;exact wpS_pure ⟨rfl,.inl ⟨_,_,rfl,retA J2 j4⟩⟩
    ·rw[if_neg (by simpa using z)];by_cases y:ac+1≥mg
     ·rw[if_pos y];exact wpS_pure ⟨rfl,.inr ⟨_,_,_,_,_,rfl,J2,by omega,by omega,j3,j4,by omega⟩⟩
     ·rw[if_neg y];exact wpS_pure ⟨rfl,_,_,_,_,_,rfl,J2,by omega,by omega,j3,j4,by omega⟩
   ·simp only[aw,decide_false,Bool.false_eq_true,if_false];refine wpS_bind (elP e1 ?_);have J2:=pB J' (by omega) i4 j4 e1 fun m hm=>by
     have:=Z2w sa (show m<=i'-1 by omega) (by omega)
     show K a m<=K b (j'-1);omega
    by_cases z:j'-1=1
    ·rw[if_pos (by simpa using z)];rw[z]at J2 ⊢;exact wpS_pure ⟨rfl,.inl ⟨_,_,rfl,retF J2 i4⟩⟩
    ·rw[if_neg (by simpa using z)];by_cases y:bc+1≥mg
     ·rw[if_pos y];exact wpS_pure ⟨rfl,.inr ⟨_,_,_,_,_,rfl,J2,i3,i4,by omega,by omega,by omega⟩⟩
     ·rw[if_neg y];exact wpS_pure ⟨rfl,_,_,_,_,_,rfl,J2,i3,i4,by omega,by omega,by omega⟩
  ·obtain⟨rfl,o',i',j',ac,bc,rfl,J',i3,i4,j3,j4,g2⟩:=hI;exact⟨rfl,.inr ⟨o',i',j',ac,bc,rfl,J',i3,i4,j3,j4,by omega⟩⟩
  ·obtain⟨rfl,⟨r,y,rfl,M⟩|⟨o',i',j',ac,bc,rfl,J',i3,i4,j3,j4,g2⟩⟩:=hI
   ·dsimp only;exact wpS_pure ⟨hS,r,_,rfl,M⟩
   ·dsimp only;refine wpS_bind (wpS_lift (wpAny_rule ⟨rfl,?_⟩));refine wpS_bind (wpS_mono (wpS_forRange (I:=fun x c t'=>SamS st t'/\∃ o1 i1 j1 m1 ac1 bc1,c=(none,i1,j1,o1,m1,ac1,bc1)/\JL GeK a.toList.reverse b.toList.reverse o1.toList (a.size-i1) (b.size-j1)/\1<=i1/\i1<=a.size/\2<=j1/\j1<=b.size/\i1+j1+1<=i+j)
     (Q:=fun c t'=>SamS st t'/\((∃ r y,c=(some r,y)/\MOk LeK a.toList b.toList r.toList)\/∃ o1 i1 j1 m1 ac1 bc1,c=(none,i1,j1,o1,m1,ac1,bc1)/\JL GeK a.toList.reverse b.toList.reverse o1.toList (a.size-i1) (b.size-j1)/\1<=i1/\i1<=a.size/\2<=j1/\j1<=b.size/\i1+j1+1<=i+j)) (fun x1 c t' ψ hx1 hI => ?_) (fun c t' hI => ?_) ⟨hS,o',i',j',mg+1,ac,bc,rfl,J',i3,i4,j3,j4,g2⟩) fun c t' hI => ?_)
    ·obtain⟨hS1,o1,p1,r1,m1,ac1,bc1,rfl,J1,u1,u2,v1,v2,g4⟩:=hI;dsimp only;obtain⟨t1,q1,e1⟩:=ib0.at (i:=r1-1) (by omega)
     by_cases mg1:m1 > 1
     rotate_left
     rw[if_neg mg1];rotate_left
     rw[if_pos mg1];all_goals
      refine wpS_bind (sgW hS1 fun t2 hS2=>?_);have hk2:kindOf t2=oneType':=hS2.kind.trans hk;refine wpS_bind (elP e1 ?_);refine wpS_bind (gal (left:=false) (V:=fun n=>K a (0+n)) hk2 (fun n hn=>ia0.at (by omega)) (fun n m hnm hm=>Z2w sa (by omega) (by omega)) (by omega) fun k gk=>?_);dsimp only;obtain⟨gk0,gk1,gk2⟩:=gk;simp only[Nat.zero_add]at gk1 gk2;have J2:JL GeK a.toList.reverse b.toList.reverse (o1++(a.extract k p1).reverse).toList (a.size-k) (b.size-r1):=by
       rw[Array.toList_append,Zdv gk0 u2];have:=J1.addA ra (p1-k) (by simp;omega) fun p hp q hq=>?_
       ·rw[show a.size-p1+(p1-k)=a.size-k by omega]at this;exact this
       ·obtain⟨m,m1,m2,e⟩:=Zqo gk0 u2 hp;obtain⟨m',n1,e'⟩:=rmem v2 hq;have l1:=gk2 m m1 m2;unfold bey at l1;simp only[Bool.false_eq_true,if_false,Bool.not_eq_false',decide_eq_true_eq]at l1;have l2:=Z2w sb (show m'<=r1-1 by omega) (by omega);show kn q<=kn p;omega
      have lo:∀ m,m<k->K a m<=K b (r1-1):=fun m hm=>by
       have l1:=gk1 m hm;unfold bey at l1;simp only[Bool.false_eq_true,if_false,Bool.not_eq_true',decide_eq_false_iff_not]at l1;omega
      clear gk1 gk2;by_cases k0:p1-k > 0
      rotate_left
      rw[if_neg k0];have kz:k=p1:=by omega
      rw[kz]at lo;have J3:=J1;have u5:=u1;have u6:=u2;have g5:p1+r1+1<=i+j:=g4;clear J2 J1 u1 g4;generalize p1=p6 at *
      generalize o1=o2 at *
      rotate_left
      rw[if_pos k0];by_cases z1:k=0
      ·rw[if_pos (by simpa using z1)];rw[z1]at J2 ⊢;exact wpS_pure ⟨hS2,.inl ⟨_,_,rfl,retA J2 v2⟩⟩
      rw[if_neg (by simpa using z1)];have J3:=J2;have u5:1<=k:=by omega
      have u6:k<=a.size:=by omega
      have g5:k+r1+1<=i+j:=by omega
      clear J2 J1 u1 g4;generalize o1++(a.extract k p1).reverse=o2 at *
      clear k0 z1 gk0 u2;generalize k=p6 at *
      all_goals
       refine wpS_bind (elP e1 ?_);have J4:=pB J3 (by omega) u6 v2 e1 lo;by_cases z3:r1-1=1
       ·rw[if_pos (by simpa using z3)];rw[z3]at J4 ⊢;exact wpS_pure ⟨hS2,.inl ⟨_,_,rfl,retF J4 u6⟩⟩
       rw[if_neg (by simpa using z3)];obtain⟨t3,q3,e3⟩:=ia0.at (i:=p6-1) (by omega)
       refine wpS_bind (elP e3 ?_);refine wpS_bind (gal (left:=true) (V:=fun n=>K b (0+n)) hk2 (fun n hn=>ib0.at (by omega)) (fun n m hnm hm=>Z2w sb (by omega) (by omega)) (by omega) fun k2 gk=>?_);dsimp only;obtain⟨gl0,gl1,gl2⟩:=gk;simp only[Nat.zero_add]at gl1 gl2;have J5:JL GeK a.toList.reverse b.toList.reverse (o2.push (Value.int (K b (r1-1)) t1,q1)++(b.extract k2 (r1-1)).reverse).toList (a.size-p6) (b.size-k2):=by
        rw[Array.toList_append,Zdv gl0 (by omega)];have:=J4.addB rb (r1-1-k2) (by simp;omega) fun p hp q hq=>?_
        ·rw[show b.size-(r1-1)+(r1-1-k2)=b.size-k2 by omega]at this;exact this
        ·obtain⟨m,m1,m2,e⟩:=Zqo gl0 (by omega) hp;obtain⟨m',n1,e'⟩:=rmem u6 hq;have l1:=gl2 m m1 m2;unfold bey at l1;simp only[if_true,decide_eq_false_iff_not]at l1;have l2:=Z2w sa (show m'<=p6-1 by omega) (by omega);show kn q<=kn p;omega
       have lo2:∀ m,m<k2->K b m<=K a (p6-1):=fun m hm=>by
        have l1:=gl1 m hm;unfold bey at l1;simp only[if_true,decide_eq_true_eq]at l1;omega
       clear gl1 gl2;by_cases k1:r1-1-k2 > 0
       rotate_left
       rw[if_neg k1];have kz2:k2=r1-1:=by omega
       rw[kz2]at lo2;have J6:=J4;have v7:2<=r1-1:=by omega
       have v8:r1-1<=b.size:=by omega
       have g7:p6+(r1-1)+1<=i+j:=by omega
       clear J5 J4;generalize o2.push (Value.int (K b (r1-1)) t1,q1)=o3 at *
       generalize r1-1=r6 at *
       rotate_left
       rw[if_pos k1];by_cases z4:k2=1
       ·rw[if_pos (by simpa using z4)];rw[z4]at J5 ⊢;exact wpS_pure ⟨hS2,.inl ⟨_,_,rfl,retF J5 u6⟩⟩
       rw[if_neg (by simpa using z4)];by_cases z6:k2=0
       ·rw[if_pos (by simpa using z6)];rw[z6]at J5 ⊢;exact wpS_pure ⟨hS2,.inl ⟨_,_,rfl,retB J5 u6⟩⟩
       rw[if_neg (by simpa using z6)];have J6:=J5;have v7:2<=k2:=by omega
       have v8:k2<=b.size:=by omega
       have g7:p6+k2+1<=i+j:=by omega
       clear J5 J4;generalize o2.push (Value.int (K b (r1-1)) t1,q1)++(b.extract k2 (r1-1)).reverse=o3 at *
       clear k1 z4 z6 gl0;generalize k2=r6 at *
       all_goals
        refine wpS_bind (elP e3 ?_);have J8:=pA J6 u5 u6 v8 e3 lo2;by_cases z5:p6-1=0
        ·rw[if_pos (by simpa using z5)];rw[z5]at J8 ⊢;exact wpS_pure ⟨hS2,.inl ⟨_,_,rfl,retA J8 v8⟩⟩
        rw[if_neg (by simpa using z5)];split
        ·exact wpS_pure ⟨hS2,.inr ⟨_,_,_,_,_,_,rfl,J8,by omega,by omega,v7,v8,by omega⟩⟩
        ·exact wpS_pure ⟨hS2,_,_,_,_,_,_,rfl,J8,by omega,by omega,v7,v8,by omega⟩
    ·obtain⟨hS1,o1,p1,r1,m1,ac1,bc1,rfl,J1,u1,u2,v1,v2,g4⟩:=hI;exact⟨hS1,.inr ⟨o1,p1,r1,m1,ac1,bc1,rfl,J1,u1,u2,v1,v2,g4⟩⟩
    ·obtain⟨hS1,⟨r,y,rfl,M⟩|⟨o1,p1,r1,m1,ac1,bc1,rfl,J1,u1,u2,v1,v2,g4⟩⟩:=hI
     ·dsimp only;exact wpS_pure ⟨hS1,r,_,rfl,M⟩
     ·dsimp only;refine wpS_bind (sgW hS1 fun t2 hS2=>wpS_pure ⟨hS2,_,_,_,_,rfl,J1,u1,u2,v1,v2,by omega⟩)
 ·obtain⟨hS,o,i,j,mg,rfl,J,i1,i2,j1,j2,g1⟩:=hI;omega
 ·obtain⟨hS,r,y,rfl,M⟩:=hI;dsimp only;exact wpS_pure (h r t M hS)
end
end L2
set_option maxHeartbeats 4000000
namespace L2
open PySem PySem.Spec PyProof.Rows
local macro_rules
 | `(tactic| walk_at "ma")=>do
  let j := Lean.mkIdent (Lean.mkPrivateNameCore `PySem.Builtin.List.W1All `PySem.Builtin.mergeAt)
  `(tactic| unfold $j)
theorem Zdx:∀(M:List Keyed)(off k:Nat)(xs:Array Keyed),off+k+M.length<=xs.size->((M.zipIdx k).foldl (fun a (x:Keyed×Nat)=>a.setIfInBounds (off+x.2) x.1) xs).toList=xs.toList.take (off+k)++M++xs.toList.drop (off+k+M.length)
 |[],off,k,xs,h=>by
  rw[List.zipIdx_nil,List.foldl_nil,List.append_nil,List.length_nil,Nat.add_zero,List.take_append_drop]
 |m::M,off,k,xs,h=>by
  rw[List.length_cons]at h;rw[List.zipIdx_cons,List.foldl_cons,Zdx M off (k+1) _ (by rw[Array.size_setIfInBounds];omega)];rw[Array.toList_setIfInBounds,<-Nat.add_assoc];have hk:off+k<xs.toList.length:=by rw[Array.length_toList];omega
  rw[List.take_add_one,List.getElem?_set_self hk,List.take_set_of_le (Nat.le_refl _),List.drop_set_of_lt (by omega),List.length_cons];rw[show off+k+1+M.length=off+k+(M.length+1)by omega];simp
theorem Z40 {xs:Array Keyed}{lo hi:Nat}(hi':hi<=xs.size)(h:∀ i j,lo<=i->i<=j->j<hi->K xs i<=K xs j):((xs.toList.drop lo).take (hi-lo)).Pairwise LeK:=by
 rw[List.pairwise_iff_getElem];intro i j hi1 hj1 hij;rw[List.length_take,List.length_drop,Array.length_toList]at hi1 hj1;have:=h (lo+i) (lo+j) (by omega) (by omega) (by omega)
 rw[List.getElem_take,List.getElem_take,List.getElem_drop,List.getElem_drop,Array.getElem_toList,Array.getElem_toList];have e1:xs[lo+i]?=some (xs[lo+i]'(by omega)):=by simp
 have e2:xs[lo+j]?=some (xs[lo+j]'(by omega)):=by simp
 rw[K_kn e1,K_kn e2]at this;exact this
theorem Ik.ext {a:Array Keyed}(h:Ik a){i j:Nat}:Ik (a.extract i j):=by
 intro k hk;rw[Array.size_extract]at hk;obtain⟨n,t,q,e⟩:=h (i+k) (by omega);exact⟨n,t,q,by rw[Array.getElem?_extract_of_lt (by omega),<-e];simp⟩
theorem Zge {a:Array Keyed}{i j k:Nat}(h:k<min j a.size-i):K (a.extract i j) k=K a (i+k):=K_congr (by rw[Array.getElem?_extract_of_lt h];simp)
section
variable {prog:Program}{w:World}{A:Around}{E:L2.VSP}{s:Shared}
theorem Zan {st:SortSt}{n1 n2 pw:Nat}{Q:Bool->SortSt->Prop}(hk:kindOf st=oneType')(hf:failedOf st=none)(hI:Ik (arrOf st))(hp:pendingOf st=#[(0,n1,pw),(n1,n2,0)])(hz:(arrOf st).size=n1+n2)(h1:1<=n1)(h2:1<=n2)
  (s1:∀ i j,i<=j->j<n1->K (arrOf st) i<=K (arrOf st) j)(s2:∀ i j,n1<=i->i<=j->j<n1+n2->K (arrOf st) i<=K (arrOf st) j)
  (h:∀ r:SortSt,(arrOf r).Perm (arrOf st)->SortedTo (arrOf r) (n1+n2)->failedOf r=none->(pendingOf r).size=1->Q true r):wpS (model prog w) A E s (mergeAt' 0) Q st:=by
 have e0:(pendingOf st)[0]?=some (0,n1,pw):=by rw[hp];rfl
 have e1:(pendingOf st)[0+1]?=some (n1,n2,0):=by rw[hp];rfl
 have psz:(((pendingOf st).setIfInBounds 0 (0,n1+n2,pw)).eraseIdxIfInBounds (0+1)).size=1:=by rw[hp];simp
 obtain⟨tb,qb,eb⟩:=hI.at (i:=n1) (by omega)
 unfold mergeAt';walk_at "ma";refine wpS_bind (wpS_get ?_);rw[e0,e1];dsimp only;refine wpS_bind (Zgd ?_);refine wpS_bind (elP eb ?_);refine wpS_bind (gal (left:=false) (V:=fun n=>K (arrOf st) (0+n)) hk (fun n hn=>hI.at (by omega)) (fun n m hnm hm=>s1 _ _ (by omega) (by omega)) (by omega) fun k gk=>?_);obtain⟨gk0,gk1,gk2⟩:=gk;simp only[Nat.zero_add]at gk1 gk2;have a1:∀ i,i<k->K (arrOf st) i<=K (arrOf st) n1:=fun i hi=>by
  have l1:=gk1 i hi;unfold bey at l1;simp only[Bool.false_eq_true,if_false,Bool.not_eq_true',decide_eq_false_iff_not]at l1;omega
 have a2:∀ i,k<=i->i<n1->K (arrOf st) n1<=K (arrOf st) i:=fun i hi hn=>by
  have l1:=gk2 i hi hn;unfold bey at l1;simp only[Bool.false_eq_true,if_false,Bool.not_eq_false',decide_eq_true_eq]at l1;omega
 clear gk1 gk2;dsimp only;by_cases z1:n1-k=0
 ·rw[if_pos (by simpa using z1)];refine wpS_pure (h _ (Array.Perm.refl _) ?_ hf psz);intro i j hij hj;by_cases c:j<n1
  ·exact s1 i j hij c
  ·by_cases c2:n1<=i
   ·exact s2 i j c2 hij hj
   ·have l1:=a1 i (by omega);have l2:=s2 n1 j (Nat.le_refl _) (by omega) hj;show K (arrOf st) i<=K (arrOf st) j;omega
 rw[if_neg (by simpa using z1)];obtain⟨ta,qa,ea⟩:=hI.at (i:=n1-1) (by omega)
 refine wpS_bind (elP (x:=(Value.int (K (arrOf st) (n1-1)) ta,qa)) (by rw[show 0+k+(n1-k)-1=n1-1 by omega];exact ea) ?_);refine wpS_bind (gal (left:=true) (V:=fun n=>K (arrOf st) (n1+n)) hk (fun n hn=>hI.at (by omega)) (fun n m hnm hm=>s2 _ _ (by omega) (by omega) (by omega)) (by omega) fun nb gk=>?_);obtain⟨gl0,gl1,gl2⟩:=gk;have b1:∀ i,i<nb->K (arrOf st) (n1+i)<=K (arrOf st) (n1-1):=fun i hi=>by
  have l1:=gl1 i hi;unfold bey at l1;simp only[if_true,decide_eq_true_eq]at l1;omega
 have b2:∀ i,nb<=i->i<n2->K (arrOf st) (n1-1)<=K (arrOf st) (n1+i):=fun i hi hn=>by
  have l1:=gl2 i hi hn;unfold bey at l1;simp only[if_true,decide_eq_false_iff_not]at l1;omega
 clear gl1 gl2;dsimp only;by_cases z2:nb=0
 ·rw[if_pos (by simpa using z2)];refine wpS_pure (h _ (Array.Perm.refl _) ?_ hf psz);intro i j hij hj;by_cases c:j<n1
  ·exact s1 i j hij c
  ·by_cases c2:n1<=i
   ·exact s2 i j c2 hij hj
   ·have l1:=s1 i (n1-1) (by omega) (by omega);have l2:=b2 (j-n1) (by omega) (by omega);rw[show n1+(j-n1)=j by omega]at l2;show K (arrOf st) i<=K (arrOf st) j;omega
 rw[if_neg (by simpa using z2)];have sx:((arrOf st).extract (0+k) n1).size=n1-k:=by rw[Array.size_extract];omega
 have sy:((arrOf st).extract n1 (n1+nb)).size=nb:=by rw[Array.size_extract];omega
 have px:((arrOf st).extract (0+k) n1).toList.Pairwise LeK:=by
  rw[Z0z];exact Z40 (by omega) fun i j ψ hij hj=>s1 i j hij hj
 have py:((arrOf st).extract n1 (n1+nb)).toList.Pairwise LeK:=by
  rw[Z0z];exact Z40 (by omega) fun i j hi hij hj=>s2 i j hi hij (by omega)
 have fin:∀(r:Array Keyed)(t:SortSt),MOk LeK ((arrOf st).extract (0+k) n1).toList ((arrOf st).extract n1 (n1+nb)).toList r.toList->SamS (setPending st (((pendingOf st).setIfInBounds 0 (0,n1+n2,pw)).eraseIdxIfInBounds (0+1))) t ->
   Q ((failedOf t).isNone) (setArr t (r.toList.zipIdx.foldl (fun a (x:Keyed×Nat)=>a.setIfInBounds (0+k+x.2) x.1) (arrOf t))):=fun r t M S=>by
  have ft:failedOf t=none:=S.fail.trans hf;have at':arrOf t=arrOf st:=S.arr;have len:r.toList.length=n1-k+nb:=by
   rw[M.1.length_eq,List.length_append,Array.length_toList,Array.length_toList,sx,sy]
  have L:(r.toList.zipIdx.foldl (fun a (x:Keyed×Nat)=>a.setIfInBounds (0+k+x.2) x.1) (arrOf t)).toList=(arrOf st).toList.take k++r.toList++(arrOf st).toList.drop (n1+nb):=by
   rw[at'];have:=Zdx r.toList (0+k) 0 (arrOf st) (by rw[len];omega)
   rw[this,len,show 0+k+0=k by omega,show k+(n1-k+nb)=n1+nb by omega]
  have mid:(arrOf st).toList=(arrOf st).toList.take k++(((arrOf st).extract (0+k) n1).toList++((arrOf st).extract n1 (n1+nb)).toList)++(arrOf st).toList.drop (n1+nb):=by
   rw[Z0z,Z0z,Nat.zero_add,show n1+nb-n1=nb by omega];have q1:(arrOf st).toList.drop n1=((arrOf st).toList.drop k).drop (n1-k):=by rw[List.drop_drop,show k+(n1-k)=n1 by omega]
   have q2:(arrOf st).toList.drop (n1+nb)=((arrOf st).toList.drop k).drop (n1-k+nb):=by rw[List.drop_drop,show k+(n1-k+nb)=n1+nb by omega]
   rw[q1,q2,<-List.take_add,List.append_assoc,List.take_append_drop,List.take_append_drop]
  have pm:(setArr t (r.toList.zipIdx.foldl (fun a (x:Keyed×Nat)=>a.setIfInBounds (0+k+x.2) x.1) (arrOf t)))=(setArr t (r.toList.zipIdx.foldl (fun a (x:Keyed×Nat)=>a.setIfInBounds (0+k+x.2) x.1) (arrOf t))):=rfl;rw[ft];have hperm:(r.toList.zipIdx.foldl (fun a (x:Keyed×Nat)=>a.setIfInBounds (0+k+x.2) x.1) (arrOf t)).Perm (arrOf st):=by
   refine Array.perm_iff_toList_perm.mpr ?_;rw[L];refine List.Perm.trans ?_ (List.Perm.of_eq mid.symm);exact((List.Perm.append_left _ M.1)).append_right _
  have mx:∀ q,q∈r.toList->(∃ i,k<=i/\i<n1/\K (arrOf st) i=kn q)\/∃ i,i<nb/\K (arrOf st) (n1+i)=kn q:=fun q hq=>by
   have:=M.1.mem_iff.mp hq
   rcases List.mem_append.mp this with y|y
   ·rw[Z0z]at y;obtain⟨j,j1,j2,_,e⟩:=Z1u y;exact .inl ⟨j,by omega,by omega,e⟩
   ·rw[Z0z]at y;obtain⟨j,j1,j2,_,e⟩:=Z1u y;exact .inr ⟨j-n1,by omega,by rw[show n1+(j-n1)=j by omega];exact e⟩
  have srt:(r.toList.zipIdx.foldl (fun a (x:Keyed×Nat)=>a.setIfInBounds (0+k+x.2) x.1) (arrOf t)).toList.Pairwise LeK:=by
   rw[L];refine List.pairwise_append.mpr ⟨List.pairwise_append.mpr ⟨?_,M.2,fun p hp q hq=>?_⟩,?_,fun p hp q hq=>?_⟩
   ·have:=Z40 (xs:=arrOf st) (lo:=0) (hi:=k) (by omega) fun i j ψ hij hj=>s1 i j hij (by omega)
    simpa using this
   ·obtain⟨i,_,i2,_,e⟩:=Z1u (a:=arrOf st) (i:=0) (k:=k) (by simpa using hp);have l0:=a1 i (by omega);rcases mx q hq with ⟨m,m1,m2,e'⟩|⟨m,m1,e'⟩
    ·have l1:=s1 i m (by omega) m2;show kn p<=kn q;omega
    ·have l1:=s2 n1 (n1+m) (Nat.le_refl _) (by omega) (by omega);show kn p<=kn q;omega
   ·have:=Z40 (xs:=arrOf st) (lo:=n1+nb) (hi:=n1+n2) (by omega) fun i j hi hij hj=>s2 i j (by omega) hij hj
    rwa [List.take_of_length_le (by simp;omega)]at this
   ·obtain⟨m',n1',n2',e'⟩:=Z15 hq;have l2:=b2 (m'-n1) (by omega) (by omega);rw[show n1+(m'-n1)=m' by omega]at l2;rcases List.mem_append.mp hp with y|y
    ·obtain⟨i,_,i2,_,e⟩:=Z1u (a:=arrOf st) (i:=0) (k:=k) (by simpa using y);have l1:=s1 i (n1-1) (by omega) (by omega);show kn p<=kn q;omega
    ·rcases mx p y with ⟨m,m1,m2,e⟩|⟨m,m1,e⟩
     ·have l1:=s1 m (n1-1) (by omega) (by omega);show kn p<=kn q;omega
     ·have l1:=b1 m m1;show kn p<=kn q;omega
  refine h _ hperm (fun i j hij hj=>?_) ft (by show(pendingOf t).size=1;rw[S.pend];exact psz);have hs:(r.toList.zipIdx.foldl (fun a (x:Keyed×Nat)=>a.setIfInBounds (0+k+x.2) x.1) (arrOf t)).size=n1+n2:=by rw[hperm.size_eq,hz]
  exact Z2w srt hij (by omega)
 have c0:K ((arrOf st).extract n1 (n1+nb)) 0<=K ((arrOf st).extract (0+k) n1) 0:=by
  rw[Zge (by omega),Zge (by omega)];have:=a2 k (Nat.le_refl _) (by omega)
  simpa using this
 have cz:∀ i,i<((arrOf st).extract n1 (n1+nb)).size->K ((arrOf st).extract n1 (n1+nb)) i<=K ((arrOf st).extract (0+k) n1) (((arrOf st).extract (0+k) n1).size-1):=fun i hi=>by
  rw[sy]at hi;rw[sx,Zge (by omega),Zge (by omega),show 0+k+(n1-k-1)=n1-1 by omega];exact b1 i hi
 by_cases c:n1-k<=nb
 ·rw[if_pos c];refine wpS_bind (Zak (st:=setPending st (((pendingOf st).setIfInBounds 0 (0,n1+n2,pw)).eraseIdxIfInBounds (0+1))) hk hI.ext hI.ext px py (by rw[sx];omega) (by rw[sy];omega) c0 cz fun r t M S=>?_);exact wpS_bind (wpS_modify (wpS_bind (wpS_get (wpS_pure (fin r t M S)))))
 ·rw[if_neg c];refine wpS_bind (Zam (st:=setPending st (((pendingOf st).setIfInBounds 0 (0,n1+n2,pw)).eraseIdxIfInBounds (0+1))) hk hI.ext hI.ext px py (by rw[sx];omega) (by rw[sy];omega) c0 cz fun r t M S=>?_);exact wpS_bind (wpS_modify (wpS_bind (wpS_get (wpS_pure (fin r t M S)))))
end
end L2
set_option maxHeartbeats 4000000
namespace L2
open PySem PySem.Spec PyProof.Rows
structure Seg (st t:SortSt) (lo:Nat):Prop where
 kind:kindOf t=kindOf st
 pend:pendingOf t=pendingOf st
 fail:failedOf t=failedOf st
 perm:(arrOf t).Perm (arrOf st)
 old:∀ i,i<lo->K (arrOf t) i=K (arrOf st) i
theorem Seg.refl {st:SortSt}{lo:Nat}:Seg st st lo:=⟨rfl,rfl,rfl,Array.Perm.refl _,fun ψ ψ=>rfl⟩
theorem Seg.trans {st t u:SortSt}{lo:Nat}(a:Seg st t lo)(b:Seg t u lo):Seg st u lo:=⟨b.kind.trans a.kind,b.pend.trans a.pend,b.fail.trans a.fail,b.perm.trans a.perm,fun i hi=>(b.old i hi).trans (a.old i hi)⟩
abbrev Asc (xs:Array Keyed)(lo hi:Nat):Prop:=∀ i j,lo<=i->i<=j->j<hi->K xs i<=K xs j
structure Kd (a₀:Array Keyed):Prop where
 ik0:IntKeys a₀
 nd:(kys a₀.toList).Nodup
theorem Kd.ik {a₀ xs:Array Keyed}(h:Kd a₀)(p:xs.Perm a₀):Ik xs:=by
 intro i hi;have hm:xs[i]∈a₀.toList:=(Array.perm_iff_toList_perm.mp p).mem_iff.mp (by simp);obtain⟨n,t,e⟩:=h.ik0 _ hm;refine⟨n,t,xs[i].2,?_⟩;rw[<-e];simp[hi]
theorem Kd.ne {a₀ xs:Array Keyed}(h:Kd a₀)(p:xs.Perm a₀){i j:Nat}(hij:i<j)(hj:j<xs.size):K xs i≠K xs j:=by
 have q:(kys xs.toList).Perm (kys a₀.toList):=(Array.perm_iff_toList_perm.mp p).map _;have nd:(kys xs.toList).Nodup:=q.nodup_iff.mpr h.nd;have hl:(kys xs.toList).length=xs.size:=by simp[kys]
 rw[Zqm (by omega),Zqm (by omega)];intro e;have:=(List.getElem_inj nd).mp e
 omega
section
variable {prog:Program}{w:World}{A:Around}{E:L2.VSP}{s:Shared}{a₀:Array Keyed}{st:SortSt}{lo nrem:Nat}
theorem gltK {i j:Nat}{Q:Option Bool->SortSt->Prop}(hk:kindOf st=oneType')(hI:Ik (arrOf st))(hi:i<(arrOf st).size)(hj:j<(arrOf st).size)(h:Q (some (decide (K (arrOf st) i<K (arrOf st) j))) st):wpS (model prog w) A E s (ltAt' i j) Q st:=by
 obtain⟨t,p,e1⟩:=hI.at hi;obtain⟨u,q,e2⟩:=hI.at hj;exact wpS_ltAt hk e1 e2 h
theorem Zta {xs:Array Keyed}:Asc xs lo (lo+1):=fun i j h1 h2 h3=>by
 have:i=j:=by omega
 rw[this];exact Int.le_refl _
theorem Z9d {xs:Array Keyed}{x:Nat}(h1:1<=x)(h:Asc xs lo (lo+x))(hx:¬ K xs (lo+x)<K xs (lo+x-1)):Asc xs lo (lo+(x+1)):=fun i j hi hij hj=>by
 by_cases c:j<lo+x
 ·exact h i j hi hij c
 ·have e:j=lo+x:=by omega
  subst e;by_cases c2:i=lo+x
  ·rw[c2];exact Int.le_refl _
  ·have:=h i (lo+x-1) hi (by omega) (by omega)
   omega
theorem Zi9 {Q:Option Nat->SortSt->Prop}(hk:kindOf st=oneType')(hd:Kd a₀)(hp:(arrOf st).Perm a₀)(hl:lo+nrem<=a₀.size)(h1:1<=nrem)
  (h:∀ m t,Seg st t lo->1<=m->m<=nrem->Asc (arrOf t) lo (lo+m)->Q (some m) t):wpS (model prog w) A E s (countRun' lo nrem) Q st:=by
 have sz:(arrOf st).size=a₀.size:=hp.size_eq;have hI:=hd.ik hp;rw[countRun'_eq];refine wpS_bind (wpS_mono (wpS_forRange (I:=fun x c t=>t=st/\c=(none,x)/\Asc (arrOf st) lo (lo+x))
  (Q:=fun c t=>t=st/\∃ n,c=(none,n)/\1<=n/\n<=nrem/\Asc (arrOf st) lo (lo+n)/\(n=nrem\/K (arrOf st) (lo+n)<K (arrOf st) (lo+n-1))) (fun x c t hx1 hx hI' => ?_) (fun c t hI' => ?_) ⟨rfl,rfl,Zta⟩) fun c t hI' => ?_)
 ·obtain⟨rfl,rfl,ha⟩:=hI';dsimp only;refine wpS_bind (gltK hk hI (by omega) (by omega) ?_);by_cases hless:K (arrOf t) (lo+x)<K (arrOf t) (lo+x-1)
  ·simp only[hless,decide_true,if_true];exact wpS_pure ⟨rfl,x,rfl,hx1,by omega,ha,.inr hless⟩
  ·simp only[hless,decide_false,Bool.false_eq_true,if_false];exact wpS_pure ⟨rfl,rfl,Z9d hx1 ha hless⟩
 ·obtain⟨rfl,rfl,ha⟩:=hI';rw[show max 1 nrem=nrem by omega]at ha ⊢;exact⟨rfl,nrem,rfl,h1,Nat.le_refl _,ha,.inl rfl⟩
 ·obtain⟨rfl,n,rfl,n1,n2,ha,hor⟩:=hI';dsimp only;by_cases c:n=nrem
  ·rw[if_pos (by simpa using c)];exact wpS_pure (h n t .refl n1 n2 ha)
  ·rw[if_neg (by simpa using c)];have hlt:=hor.resolve_left c;by_cases c2:n > 1
   ·rw[if_pos c2];refine wpS_bind (gltK hk hI (by omega) (by omega) ?_);have l1:=ha lo (lo+n-1) (Nat.le_refl _) (by omega) (by omega);have l2:=hd.ne hp (i:=lo) (j:=lo+n-1) (by omega) (by omega);have hr:K (arrOf t) lo<K (arrOf t) (lo+n-1):=by omega
    simp only[hr,decide_true,if_true];exact wpS_pure (h n t .refl n1 n2 ha)
   ·rw[if_neg c2];have e1:n=1:=by omega
    subst e1;refine wpS_bind (wpS_lift (wpAny_rule ⟨rfl,?_⟩));refine wpS_bind (wpS_mono (wpS_forRange (I:=fun x c t'=>t'=t/\c=(none,x,0)/\∀ i j,lo<=i->i<=j->j<lo+x->K (arrOf t) j<=K (arrOf t) i)
     (Q:=fun c t'=>t'=t/\∃ n,c=(none,n,0)/\2<=n/\n<=nrem/\∀ i j,lo<=i->i<=j->j<lo+n->K (arrOf t) j<=K (arrOf t) i) (fun x c t' hx1 hx hI' => ?_) (fun c t' hI' => ?_) ⟨rfl,rfl,fun i j hi hij hj => ?_⟩) fun c t' hI' => ?_)
    ·obtain⟨rfl,rfl,hde⟩:=hI';dsimp only;refine wpS_bind (gltK hk hI (by omega) (by omega) ?_);by_cases hless:K (arrOf t') (lo+x)<K (arrOf t') (lo+x-1)
     ·simp only[hless,decide_true,if_true];rw[if_neg (by omega)];refine wpS_pure ⟨rfl,rfl,fun i j hi hij hj=>?_⟩;by_cases c3:j<lo+x
      ·exact hde i j hi hij c3
      ·have e:j=lo+x:=by omega
       subst e;by_cases c4:i=lo+x
       ·rw[c4];exact Int.le_refl _
       ·have:=hde i (lo+x-1) hi (by omega) (by omega)
        omega
     ·simp only[hless,decide_false,Bool.false_eq_true,if_false];refine wpS_bind (gltK hk hI (by omega) (by omega) ?_);have l2:=hd.ne hp (i:=lo+x-1) (j:=lo+x) (by omega) (by omega);have hr:K (arrOf t') (lo+x-1)<K (arrOf t') (lo+x):=by omega
      simp only[hr,decide_true,if_true];exact wpS_pure ⟨rfl,x,rfl,hx1,by omega,hde⟩
    ·obtain⟨rfl,rfl,hde⟩:=hI';rw[show max (1+1) nrem=nrem by omega]at hde ⊢;exact⟨rfl,nrem,rfl,by omega,Nat.le_refl _,hde⟩
    ·by_cases c3:i=j
     ·rw[c3];exact Int.le_refl _
     ·have:i=lo:=by omega
      have:j=lo+1:=by omega
      subst_vars
      simpa using Int.le_of_lt hlt
    ·obtain⟨rfl,n,rfl,m1,m2,hde⟩:=hI';dsimp only;rw[if_neg (by omega)];have hm:lo+n<=(arrOf t').size:=by omega
     refine wpS_bind (wpS_reverse ?_);have sg:Seg t' (setArr t' (mirror (arrOf t') lo (lo+n) ((lo+n-lo)/2))) lo:=⟨rfl,rfl,rfl,mirror_perm _ _ _ _,fun i hi=>by
      show K (mirror (arrOf t') lo (lo+n) ((lo+n-lo)/2)) i=_;rw[K_mirror hm,if_neg (by omega)]⟩
     have as:Asc (mirror (arrOf t') lo (lo+n) ((lo+n-lo)/2)) lo (lo+n):=fun i j hi hij hj=>by
      rw[K_mirror hm,K_mirror hm,if_pos (by omega),if_pos (by omega)];exact hde _ _ (by omega) (by omega) (by omega)
     have hp2:(mirror (arrOf t') lo (lo+n) ((lo+n-lo)/2)).Perm a₀:=(mirror_perm _ _ _ _).trans hp;have hI2:=hd.ik hp2;have sz2:(mirror (arrOf t') lo (lo+n) ((lo+n-lo)/2)).size=a₀.size:=hp2.size_eq;refine wpS_bind (wpS_mono (wpS_forRange (I:=fun x c u=>u=setArr t' (mirror (arrOf t') lo (lo+n) ((lo+n-lo)/2))/\c=(none,x)/\Asc (mirror (arrOf t') lo (lo+n) ((lo+n-lo)/2)) lo (lo+x))
      (Q:=fun c u=>u=setArr t' (mirror (arrOf t') lo (lo+n) ((lo+n-lo)/2))/\∃ x,c=(none,x)/\n<=x/\x<=nrem/\Asc (mirror (arrOf t') lo (lo+n) ((lo+n-lo)/2)) lo (lo+x)) (fun x c u hx1 hx hI' => ?_) (fun c u hI' => ?_) ⟨rfl,rfl,as⟩) fun c u hI' => ?_)
     ·obtain⟨rfl,rfl,ha'⟩:=hI';dsimp only;refine wpS_bind (gltK (st:=setArr t' (mirror (arrOf t') lo (lo+n) ((lo+n-lo)/2))) hk hI2 (show lo+x<(mirror (arrOf t') lo (lo+n) ((lo+n-lo)/2)).size by omega) (show lo+x-1<(mirror (arrOf t') lo (lo+n) ((lo+n-lo)/2)).size by omega) ?_);by_cases hless:K (mirror (arrOf t') lo (lo+n) ((lo+n-lo)/2)) (lo+x)<K (mirror (arrOf t') lo (lo+n) ((lo+n-lo)/2)) (lo+x-1)
      ·rw[show decide (K (arrOf (setArr t' (mirror (arrOf t') lo (lo+n) ((lo+n-lo)/2)))) (lo+x)<K (arrOf (setArr t' (mirror (arrOf t') lo (lo+n) ((lo+n-lo)/2)))) (lo+x-1))=true from decide_eq_true hless];dsimp only;rw[if_pos rfl];exact wpS_pure ⟨rfl,x,rfl,hx1,by omega,ha'⟩
      ·rw[show decide (K (arrOf (setArr t' (mirror (arrOf t') lo (lo+n) ((lo+n-lo)/2)))) (lo+x)<K (arrOf (setArr t' (mirror (arrOf t') lo (lo+n) ((lo+n-lo)/2)))) (lo+x-1))=false from decide_eq_false hless];dsimp only;rw[if_neg (by decide)];exact wpS_pure ⟨rfl,rfl,Z9d (by omega) ha' hless⟩
     ·obtain⟨rfl,rfl,ha'⟩:=hI';rw[show max n nrem=nrem by omega]at ha' ⊢;exact⟨rfl,nrem,rfl,m2,Nat.le_refl _,ha'⟩
     ·obtain⟨rfl,x,rfl,x1,x2,ha'⟩:=hI';dsimp only;exact wpS_pure (h x _ sg (by omega) x2 ha')
end
end L2
set_option maxHeartbeats 4000000
namespace L2
open PySem PySem.Spec PyProof.Rows
section
variable {prog:Program}{w:World}{A:Around}{E:L2.VSP}{s:Shared}{a₀:Array Keyed}{st:SortSt}{lo:Nat}
theorem Zia {n ok:Nat}{Q:Bool->SortSt->Prop}(hk:kindOf st=oneType')(hd:Kd a₀)(hp:(arrOf st).Perm a₀)(hn:lo+n<=a₀.size)(ok1:1<=ok)(ok2:ok<=n)(ha:Asc (arrOf st) lo (lo+ok))
  (h:∀ t,Seg st t lo->Asc (arrOf t) lo (lo+n)->Q true t):wpS (model prog w) A E s (binarySort' lo n ok) Q st:=by
 rw[binarySort'_eq];refine wpS_bind (wpS_mono (wpS_forRange (I:=fun k c t=>c=(none,())/\Seg st t lo/\Asc (arrOf t) lo (lo+k))
  (Q:=fun c t=>c=(none,())/\Seg st t lo/\Asc (arrOf t) lo (lo+n)) (fun k c t hk1 hk2 hI => ?_) (fun c t hI => ?_) ⟨rfl,.refl,by rw[show max ok 1=ok by omega];exact ha⟩) fun c t hI => ?_)
 ·obtain⟨rfl,sg,as⟩:=hI;have pt:(arrOf t).Perm a₀:=sg.perm.trans hp;have hI2:=hd.ik pt;have kt:kindOf t=oneType':=sg.kind.trans hk;have sz:(arrOf t).size=a₀.size:=pt.size_eq;refine wpS_bind (wpS_mono (wpS_forRange (I:=fun x c u=>u=t/\∃ l r,c=(none,l,r)/\l<=r/\r<=k/\r-l<=k-x/\(∀ i,lo<=i->i<lo+l->K (arrOf t) i<=K (arrOf t) (lo+k))/\∀ i,lo+r<=i->i<lo+k->K (arrOf t) (lo+k)<K (arrOf t) i)
   (Q:=fun c u=>u=t/\∃ l r,c=(none,l,r)/\l<=k/\(∀ i,lo<=i->i<lo+l->K (arrOf t) i<=K (arrOf t) (lo+k))/\∀ i,lo+l<=i->i<lo+k->K (arrOf t) (lo+k)<K (arrOf t) i) (fun x c u hx1 hx hI => ?_) (fun c u hI => ?_) ⟨rfl,0,k,rfl,by omega,by omega,by omega,fun i h1 h2=>by omega,fun i h1 h2=>by omega⟩) fun c u hI => ?_)
  ·obtain⟨rfl,l,r,rfl,e1,e2,e3,g1,g2⟩:=hI;dsimp only;by_cases z:l≥r
   ·rw[if_pos z];have:l=r:=by omega
    subst this;exact wpS_pure ⟨rfl,l,l,rfl,e2,g1,g2⟩
   ·rw[if_neg z];refine wpS_bind (gltK kt hI2 (by omega) (by omega) ?_);by_cases y:K (arrOf u) (lo+k)<K (arrOf u) (lo+(l+r)/2)
    ·simp only[y,decide_true,if_true];refine wpS_pure ⟨rfl,l,(l+r)/2,rfl,by omega,by omega,by omega,g1,fun i h1 h2=>?_⟩;have:=as (lo+(l+r)/2) i (by omega) h1 h2
     omega
    ·simp only[y,decide_false,Bool.false_eq_true,if_false];refine wpS_pure ⟨rfl,(l+r)/2+1,r,rfl,by omega,by omega,by omega,fun i h1 h2=>?_,g2⟩;have:=as i (lo+(l+r)/2) h1 (by omega) (by omega)
     omega
  ·obtain⟨rfl,l,r,rfl,e1,e2,e3,g1,g2⟩:=hI;have:l=r:=by omega
   subst this;exact⟨rfl,l,l,rfl,e2,g1,g2⟩
  ·obtain⟨rfl,l,r,rfl,e2,g1,g2⟩:=hI;show wpS _ _ _ _ (do moveDown' (lo+k) (lo+l);pure (ForInStep.yield (none,()))) _ _;rw[moveDown'_eq];have hs:lo+k<(arrOf u).size:=by omega
   have hb:=fun i=>K_bubble (xs:=arrOf u) (src:=lo+k) (d:=lo+k-(lo+l)) hs (by omega) i;rw[show lo+k-(lo+k-(lo+l))=lo+l by omega]at hb;refine wpS_bind (wpS_modify (wpS_pure ⟨rfl,sg.trans ⟨rfl,rfl,rfl,bubble_perm _ _ _,fun i hi=>?_⟩,fun i j hi hij hj=>?_⟩))
   ·refine(hb i).trans ?_;rw[if_neg (by omega),if_neg (by omega)]
   ·show K (bubble (arrOf u) (lo+k) (lo+k-(lo+l))) i<=K (bubble (arrOf u) (lo+k) (lo+k-(lo+l))) j;rw[hb i,hb j];repeat' split
    all_goals first
     |(exfalso;omega)
     |exact Int.le_refl _
     |exact g1 _ (by omega) (by omega)
     |exact Int.le_of_lt (g2 _ (by omega) (by omega))
     |exact as _ _ (by omega) (by omega) (by omega)
 ·obtain⟨rfl,sg,as⟩:=hI;rw[show max (max ok 1) n=n by omega]at as;exact⟨rfl,sg,as⟩
 ·obtain⟨rfl,sg,as⟩:=hI;exact wpS_pure (h t sg as)
structure R1 (a₀:Array Keyed)(r:SortSt) (n1:Nat):Prop where
 kind:kindOf r=oneType'
 fail:failedOf r=none
 perm:(arrOf r).Perm a₀
 pend:pendingOf r=#[(0,n1,0)]
 asc:Asc (arrOf r) 0 n1
structure R2' (a₀:Array Keyed)(r:SortSt)(n1 pw:Nat):Prop where
 kind:kindOf r=oneType'
 fail:failedOf r=none
 perm:(arrOf r).Perm a₀
 pend:pendingOf r=#[(0,n1,pw),(n1,a₀.size-n1,0)]
 asc:Asc (arrOf r) 0 n1
 asc2:Asc (arrOf r) n1 a₀.size
 lt:1<=n1/\n1<a₀.size
theorem Zgf {Q:Unit->SortSt->Prop}(hd:Kd a₀)(hB:SBase a₀ st)(hlo:64<=a₀.size)(hhi:a₀.size<128)
  (h:∀ r:SortSt,(arrOf r).Perm a₀->failedOf r=none->SortedTo (arrOf r) a₀.size->Q () r):wpS (model prog w) A E s sortRuns' Q st:=by
 have hmr:=Zt9 hlo hhi;rw[sortRuns'_eq];refine wpS_bind (wpS_get ?_);dsimp only;simp only[hB.size,hmr];refine wpS_bind (wpS_mono (wpS_forRange
  (I:=fun x k r=>(x=0/\k=(none,0)/\r=st)\/(x=1/\∃ n1,k=(none,n1)/\a₀.size/2+a₀.size%2<=n1/\n1<=a₀.size/\R1 a₀ r n1)\/(2<=x/\k=(none,a₀.size)/\∃ n1 pw,R2' a₀ r n1 pw))
  (Q:=fun k r=>k=(none,a₀.size)/\(R1 a₀ r a₀.size\/∃ n1 pw,R2' a₀ r n1 pw)) (fun x k r ψ hx hI => ?_) (fun k r hI => ?_) (.inl ⟨rfl,rfl,rfl⟩)) fun k r hI => ?_)
 ·rcases hI with ⟨rfl,rfl,rfl⟩|⟨rfl,n1,rfl,m1,m2,R⟩|⟨hx1,rfl,hD⟩
  ·dsimp only;rw[if_neg (by omega)];simp only[Nat.sub_zero,Nat.zero_add];refine wpS_bind (Zi9 (lo:=0) hB.kind hd hB.perm (by omega) (by omega) fun m t sg q1 q2 as=>?_);rw[Nat.zero_add]at as;have pt:=sg.perm.trans hB.perm;have kt:=sg.kind.trans hB.kind;have ft:=sg.fail.trans hB.failed;have nt:pendingOf t=#[]:=sg.pend.trans hB.pend;dsimp only;by_cases c:m<a₀.size/2+a₀.size%2
   ·rw[if_pos c];refine wpS_bind (wpS_lift (wpAny_rule ⟨rfl,?_⟩));refine wpS_bind (Zia (lo:=0) kt hd pt (by omega) q1 (by omega) (by rw[Nat.zero_add];exact as) fun u sg2 as2=>?_);rw[Nat.zero_add]at as2;simp only[Bool.not_true,Bool.false_eq_true,if_false];refine wpS_bind (wpS_get ?_);have nu:pendingOf u=#[]:=sg2.pend.trans nt;rw[show(pendingOf u).back?=none by rw[nu];rfl];dsimp only;refine wpS_bind (wpS_modify (wpS_pure (.inr (.inl ⟨by trivial,_,rfl,by omega,by omega,⟨sg2.kind.trans kt,sg2.fail.trans ft,sg2.perm.trans pt,?_,as2⟩⟩))));show(pendingOf u).push _=_;rw[nu];rfl
   ·rw[if_neg c];refine wpS_bind (wpS_get ?_);rw[show(pendingOf t).back?=none by rw[nt];rfl];dsimp only;refine wpS_bind (wpS_modify (wpS_pure (.inr (.inl ⟨by trivial,_,rfl,by omega,q2,⟨kt,ft,pt,?_,as⟩⟩))));show(pendingOf t).push _=_;rw[nt];rfl
  ·dsimp only;by_cases c0:n1≥a₀.size
   ·rw[if_pos c0];have e:n1=a₀.size:=by omega
    subst e;exact wpS_pure ⟨rfl,.inl R⟩
   ·rw[if_neg c0];refine wpS_bind (Zi9 (lo:=n1) R.kind hd R.perm (by omega) (by omega) fun m t sg q1 q2 as=>?_);have pt:=sg.perm.trans R.perm;have kt:=sg.kind.trans R.kind;have ft:=sg.fail.trans R.fail;have nt:pendingOf t=#[(0,n1,0)]:=sg.pend.trans R.pend;have a1:Asc (arrOf t) 0 n1:=fun i j h1 h2 h3=>by rw[sg.old i (by omega),sg.old j h3];exact R.asc i j h1 h2 h3
    dsimp only;have last:∀ (u:SortSt),kindOf u=oneType'->failedOf u=none->(arrOf u).Perm a₀->pendingOf u=#[(0,n1,0)]->Asc (arrOf u) 0 n1->Asc (arrOf u) n1 a₀.size->∀ pw n2,n2=a₀.size-n1->R2' a₀ (setPending (setPending u ((pendingOf u).modify ((pendingOf u).size-1) fun x=>(x.1,x.2.1,pw))) ((pendingOf (setPending u ((pendingOf u).modify ((pendingOf u).size-1) fun x=>(x.1,x.2.1,pw)))).push (n1,n2,0))) n1 pw:=fun u k1 k2 k3 k4 k5 k6 pw n2 e2=>⟨k1,k2,k3,by
     show((pendingOf u).modify ((pendingOf u).size-1) fun x=>(x.1,x.2.1,pw)).push _=_;rw[k4,e2];rfl,k5,k6,by omega,by omega⟩
    by_cases c:m<a₀.size/2+a₀.size%2
    ·rw[if_pos c];refine wpS_bind (wpS_lift (wpAny_rule ⟨rfl,?_⟩));refine wpS_bind (Zia (lo:=n1) kt hd pt (by omega) q1 (by omega) as fun u sg2 as2=>?_);have en:min (a₀.size-n1) (a₀.size/2+a₀.size%2)=a₀.size-n1:=by omega
     rw[en,show n1+(a₀.size-n1)=a₀.size by omega]at as2;simp only[Bool.not_true,Bool.false_eq_true,if_false];refine wpS_bind (wpS_get ?_);have nu:pendingOf u=#[(0,n1,0)]:=sg2.pend.trans nt;rw[show(pendingOf u).back?=some (0,n1,0)by rw[nu];rfl];dsimp only;refine wpS_bind (Z7h (fun i=>?_) ?_)
     ·refine wpS_bind (wpS_get ?_);rw[nu];exact wpS_pure ⟨rfl,rfl⟩
     ·dsimp only;refine wpS_bind (wpS_modify (wpS_bind (wpS_modify (wpS_pure (.inr (.inr ⟨by omega,by rw[en,show n1+(a₀.size-n1)=a₀.size by omega],n1,_,last u (sg2.kind.trans kt) (sg2.fail.trans ft) (sg2.perm.trans pt) nu (fun i j h1 h2 h3=>?_) as2 _ _ en⟩))))));rw[sg2.old i (by omega),sg2.old j h3];exact a1 i j h1 h2 h3
    ·rw[if_neg c];have em:m=a₀.size-n1:=by omega
     subst em;rw[show n1+(a₀.size-n1)=a₀.size by omega]at as;refine wpS_bind (wpS_get ?_);rw[show(pendingOf t).back?=some (0,n1,0)by rw[nt];rfl];dsimp only;refine wpS_bind (Z7h (fun i=>?_) ?_)
     ·refine wpS_bind (wpS_get ?_);rw[nt];exact wpS_pure ⟨rfl,rfl⟩
     ·dsimp only;exact wpS_bind (wpS_modify (wpS_bind (wpS_modify (wpS_pure (.inr (.inr ⟨by omega,by rw[show n1+(a₀.size-n1)=a₀.size by omega],n1,_,last t kt ft pt nt a1 as _ _ rfl⟩))))))
  ·dsimp only;rw[if_pos (Nat.le_refl _)];exact wpS_pure ⟨rfl,.inr hD⟩
 ·rcases hI with ⟨hx,_,_⟩|⟨hx,_⟩|⟨_,hc,hD⟩
  ·omega
  ·omega
  ·exact⟨hc,.inr hD⟩
 ·obtain⟨rfl,hR⟩:=hI;dsimp only;refine wpS_bind (wpS_mono (wpS_forRange (I:=fun x k u=>k=(none,())/\((x=0/\u=r)\/((arrOf u).Perm a₀/\SortedTo (arrOf u) a₀.size/\failedOf u=none/\(pendingOf u).size=1)))
   (Q:=fun k u=>k=(none,())/\(arrOf u).Perm a₀/\SortedTo (arrOf u) a₀.size/\failedOf u=none) (fun x k u ψ ψ hI => ?_) (fun k u hI => ?_) ⟨rfl,.inl ⟨rfl,rfl⟩⟩) fun k u hI => ?_)
  ·obtain⟨rfl,⟨rfl,rfl⟩|⟨e1,e2,e3,e4⟩⟩:=hI
   ·refine wpS_bind (wpS_get ?_);rcases hR with R|⟨n1,pw,R⟩
    ·rw[if_pos (by rw[R.pend];exact Nat.le_refl 1)];exact wpS_pure ⟨rfl,R.perm,fun i j hij hj=>R.asc i j (Nat.zero_le _) hij hj,R.fail⟩
    ·rw[if_neg (by rw[R.pend];show ¬ (2:Nat)<=1;omega)];rw[R.pend];show wpS _ _ _ _ (mergeAt' 0 >>= _) _ _;refine wpS_bind (Zan (n1:=n1) (n2:=a₀.size-n1) (pw:=pw) R.kind R.fail (hd.ik R.perm) R.pend (by rw[R.perm.size_eq];have:=R.lt;omega) R.lt.1 (by have:=R.lt;omega) (fun i j hij hj=>R.asc i j (Nat.zero_le _) hij hj) (fun i j hi hij hj=>R.asc2 i j hi hij (by have:=R.lt;omega)) fun v e1 e2 e3 e4=>?_);simp only[Bool.not_true,Bool.false_eq_true,if_false];rw[show n1+(a₀.size-n1)=a₀.size by have:=R.lt;omega]at e2;exact wpS_pure ⟨rfl,.inr ⟨e1.trans R.perm,e2,e3,e4⟩⟩
   ·refine wpS_bind (wpS_get ?_);rw[if_pos (by omega)];exact wpS_pure ⟨rfl,e1,e2,e3⟩
  ·obtain⟨rfl,⟨hx,_⟩|⟨e1,e2,e3,e4⟩⟩:=hI
   ·omega
   ·exact⟨rfl,e1,e2,e3⟩
  ·obtain⟨rfl,e1,e2,e3⟩:=hI;exact wpS_pure (h u e1 e3 e2)
end
end L2
set_option maxHeartbeats 4000000
namespace L2
open PySem PySem.Spec PyProof.Rows
def Sbl (ns:List Int):Prop:=ns.length<128/\ns.Nodup
theorem Zll {prog:Program}{w:World}{vs:List Value}{ns:List Int}(hI:IntsAre vs ns)(hlo:64<=vs.length)(hhi:vs.length<128)(hn:ns.Nodup):Zi8 prog w vs:=by
 intro A E s Q h;have hz:=pairsOf_size vs;exact Zgf ⟨hI.intKeys,by rw[Zdt hI];exact hn⟩ ⟨Array.Perm.refl _,rfl,rfl,rfl⟩ (by omega) (by omega) h
theorem Zgg {prog:Program}{w:World}{A:Around}{E:L2.VSP}{s:Shared}{a:Addr}{vs:List Value}{ns:List Int}{n:Nat}{P:Fin->Shared->Prop}(ho:s.heap.get? a=some (seqObj "list" vs.toArray n))(hI:IntsAre vs ns)(hl:vs.length=ns.length)(hs:Sbl ns)
  (h:∀(out:Array Value)(ms:List Int),IntsAre out.toList ms->ms.Perm ns->ms.Pairwise (· <= ·)->P (.done (.ret .none)) { s with heap:=sortedHeap s.heap a vs out }):wpAny (model prog w) A (Builtin.«list.sort» ⟨[.ref a],[]⟩) P E s:=by
 by_cases c:vs.length<64
 ·exact list_sort_tree ho hI c h
 ·have h1:=hs.1;exact Zlj ho hI (by omega) (by omega) (Zll hI (by omega) (by omega) hs.2) h
def Zib:List V->Hp->VK->Prop:=fun xs H Q=>∃(a:Addr)(ob:Obj)(kvs:List (Int×V)),xs=[.ref a]/\H a=some (dE a ob kvs)/\Sbl (kvs.map (·.1))/\∀ l,H l=none->Q (.ref l) (upd H l (.lst ((srt (kvs.map (·.1))).map V.int)))
theorem Zao {X:Cx}(hc:X.calm=true):Z10 X (.builtin "sorted") Zib:=by
 intro pins s σ H xs us Q I r h;obtain⟨a,ob,kvs,rfl,ha,hs,q⟩:=h;obtain⟨u,rfl,rx⟩:=Z2o r
 cases rx;obtain⟨ns,vs,rv,hat⟩:=Zdg (I.hok a _ ha);have hvl:vs.length=kvs.length:=by rw[<-rv.length,List.length_map]
 have hh:X.A.in1.handled=none:=I.ok.hd hc;have hl:kvs.length<128:=by
  have c:=hs.1;rw[List.length_map]at c;omega
 refine Calls.call_function_entry kind_sorted plain_sorted entry_sorted (args_sorted1 _) ?_;refine wpAny_bind (wpAny_pure (wpAny_bind (PySem.W.kdu_collect (A:=X.A.in1) (PySem.W.kdl_dict (knd:=Z0d X.prog X.w) (kvs:=vs) (ep:=epOf ob) ns) hh hat (by rw[sizeLine_eq];omega) fun h1 tk acc hk hacc=>?_)));have hal:acc.toList.length=vs.length:=by rw[Array.length_toList];exact hacc.1
 have hI:IntsAre acc.toList (kvs.map (·.1)):=Z76 (P:=X.prog) (w:=X.w) rv hal fun i v e=>hacc.2 i v (by rw[<-Array.getElem?_toList];exact e);refine wpAny_bind (wpAny_newList ?_ (by rw[sizeLine_eq];omega));have hoL:(h1.push (seqObj "list" acc.toList.toArray 0)).get? h1.objs.size=some (seqObj "list" acc.toList.toArray 0):=Heap.get?_push_size _ rfl;refine wpAny_bind (wpAny_holding (wpAny_call_entry slot_list_sort ⟨_,hoL,rfl⟩ entry_list_sort (Zgg (s:={ heap:=h1.push (seqObj "list" acc.toList.toArray 0),gens:=s.gens,drawn:=s.drawn,toks:=tk,os:=s.os }) hoL hI (by rw[List.length_map];omega) hs fun out ns' a1 a2 a3=>⟨.none,rfl,wpAny_pure ⟨_,rfl,?_⟩⟩) (args_list_sort _)));obtain⟨e,he⟩:=sortedHeap_at (out:=out) hoL;have es:=Zhw a2 a3;subst es;have I1:Inv X pins σ H { s with heap:=h1,toks:=tk }:=I.kept (t':=tk) hk;have kp2:∀ b o',h1.get? b=some o'->(sortedHeap (h1.push (seqObj "list" acc.toList.toArray 0)) h1.objs.size acc.toList out).get? b=some o':=fun b o' hb=>by
  have lt:=Heap.lt_size hb;refine(sortedHeap_old (Nat.ne_of_lt lt) ?_).trans (Heap.get?_push_of_some _ hb);rw[Heap.size_push];exact Nat.lt_succ_of_lt lt
 have I2:=I1.laid (t':=tk) (a:=h1.objs.size) (o:=.lst ((srt (kvs.map (·.1))).map V.int)) kp2 (Nat.le_refl _)
  (show Z0s X.prog X.w _ _ _ (.lst _)from⟨by
   rw[List.length_map,(Z1s _).length_eq,List.length_map,sizeLine_eq];omega,out.toList,e,Z1t a1,by simpa[seqObj]using he⟩)
 exact⟨.ref h1.objs.size,_,I2,rfl,q _ (I1.hok.fresh (Nat.le_refl _))⟩
open Classical in
def Z5a:List U->Option U
 |[d]=>(asD d).bind fun ps=>if Sbl (ps.map (·.1))then some (.lst ((srt (ps.map (·.1))).map U.int))else none
 |_=>none
section
variable {W:Wd}
theorem Zgh:Za9 W [true] Zib Z5a:=by
 intro Hc H ω us vs s p rs u e Q k;unfold Z5a at e;split at e
 ·rename_i d
  cases q:asD d with
  |none=>rw[q]at e;exact noS e
  |some ps=>
   rw[q]at e;simp only[Option.bind_some]at e;split at e
   ·rename_i c
    cases e;have:=Z2k q;subst this
    obtain⟨v,rfl,rv⟩:=rs.one;obtain⟨a,ob,kvs,rfl,h1,r1⟩:=rv.dicI s;refine⟨a,ob,kvs,rfl,h1,by rw[r1.keys];exact c,fun l n=>k _ _ _ _ _ (Z0v s p n).1 (Z0v s p n).2 rfl (s.free n) n Z05 ?_⟩;rw[r1.keys];exact .ofInts
   ·cases e
 ·cases e
end
section
variable {ι:Type}{X:L2.FC ι}{W:Wd}{m:Md}{E:XK}{a:Expr}{fa:Ef}{pos p:Pos}
theorem Zgi (cx:Ctx X W E)(B:Bl W.mg)(ha:QB X W m E a fa)(hg:∀ y,Gl (X y) "sorted" := by intro ψ;rfl)(hs:∀ y,starEach [a] (X y).env=(false,eval a (X y).env)::starEach [] (X y).env:=by intro ψ;rfl)(hp:∀ y,(backTo pos (starEach [] (X y).env)).any (·.1)=false:=by intro ψ;rfl):QF X W m E (.Call (.Name "sorted" p) [a] [] pos) (eB Z5a (Z01 fa aNil)):=
 let ⟨_, pa, da⟩ := qa_b ha Z04 hs; ⟨_, fun y => Z3y (Zao (cx.calm y)) (hg y) ((congrFun (cx.hm y) _).trans B.sorted) boot_sorted (pa y) (by decide) (by decide) (hs y) (hp y), Zkb Zgh da⟩
end
theorem uSortE_I {ps:Ps}(h:Sbl (ps.map (·.1))):Z5a [dicI ps]=some (.lst ((srt (ps.map (·.1))).map U.int)):=by
 unfold Z5a;simp only;rw[asD_I];simp only[Option.bind_some];rw[if_pos h]
theorem Zqp {us:List U}{ps:Ps}(h:asPs us=some ps)(hl:us.length<=5000):uDOf [.lst us]=some (dicI (ofI ps)):=by
 unfold uDOf;simp only;rw[h];simp only[Option.bind_some];rw[if_pos hl]
def Itel (K:L2.Fg)(a:Addr):It:=
 ⟨fun i H=>∃ xs x,SqL K H a xs/\xs[i]?=some x,fun i H v H'=>∃ p x,H p=none/\v=.ref p/\(∀ xs,SqL K H a xs->xs[i]?=some x)/\H'=upd H p (.tup [.int i,x]),fun i H=>∃ xs,SqL K H a xs/\xs.length<=i⟩
theorem Zap {P:Program}{w:World}{K:L2.Fg}{es:List Expr}{x1:Nat}{pos:Pos}(a en it:Addr)(ne:en≠it):Turn P w K (.Tuple es x1 pos) (Itel K a) [en,it] en (fun i h=>(∃ was,IsEnum h en it i was)/\h.IsListIter it a i) where
 mem:=by simp
 obj:=fun i h st b hb=>by
  obtain⟨⟨was,N⟩,o,go,c,d⟩:=st;rcases List.mem_cons.mp hb with z|z
  ·subst z;exact⟨_,N,fun v z=>by cases z⟩
  ·have z2:=List.mem_singleton.mp z;subst z2;exact⟨o,go,fun v z=>by rw[d]at z;cases z⟩
 keep:=fun i h h' st k=>by
  obtain⟨⟨was,N⟩,o,go,r⟩:=st;exact⟨⟨was,k en (by simp) _ N⟩,o,k it (by simp) o go,r⟩
 item:=by
  intro X hP hw hK hc i pins s σ H E I hf st hg;subst hP hw hK;obtain⟨xs,x,hq,hx⟩:=hg;obtain⟨its,rv,p,hz⟩:=I.list hq;obtain⟨u,hu,ru⟩:=rv.get hx;obtain⟨⟨was,N⟩,J⟩:=st;refine wpAny_pyNext_enum_item N J p.isList (x:=u) (by simpa using hu) ne fun g N1 J1 t1 z1 k1=>?_;refine⟨_,rfl,wpAny_letOwnedTupleGo_enum (s:={ s with heap:=g,toks:=s.toks+1 }) N1 fun g2 N2 S2=>?_⟩;have lt:en<s.heap.objs.size:=Heap.lt_size N;have k2:∀ b o,b∉[en,it]->s.heap.get? b=some o->g2.get? b=some o:=fun b o hb e=>(S2.2 b fun z=>hb (by simp[z])).trans (k1 b o (fun z=>hb (by simp[z])) (fun z=>hb (by simp[z])) e);obtain⟨hn,I2⟩:=I.adoptT (h':=g2) (t':=s.toks+1) (fp:=[en,it]) (vs:=[.int i,x]) (us:=[.int i s.toks,u]) (n:=0) k2 hf ⟨_,(S2.2 _ (Nat.ne_of_gt lt)).trans t1,rfl,_,rfl⟩ (.cons ⟨_,rfl⟩ (.cons ru .nil)) (by show 2<=sizeLine;decide);refine⟨.ref _,_,I2,rfl,⟨_,x,hn,rfl,fun ys hy=>by rw[I.list_inj hy hq];exact hx,rfl⟩,⟨⟨u,by simpa using N2⟩,?_⟩,fun b hb=>?_⟩
  ·obtain⟨o,go,r⟩:=J1;exact⟨o,(S2.2 it (Ne.symm ne)).trans go,r⟩
  ·have ltb:b≠s.heap.objs.size:=by
    obtain⟨oi,gi,_⟩:=J;rcases List.mem_cons.mp hb with z|z
    ·rw[z];exact Nat.ne_of_lt lt
    ·rw[List.mem_singleton.mp z];exact Nat.ne_of_lt (Heap.lt_size gi)
   rw[Z06 ltb];exact(hf b hb).1
 done:=by
  intro X hP hw hK hc i pins s σ H E I hf st hg;subst hP hw hK;obtain⟨xs,hq,hx⟩:=hg;obtain⟨its,rv,p,hz⟩:=I.list hq;obtain⟨⟨was,N⟩,J⟩:=st;have hl:=rv.length;refine wpAny_pyNext_enum_end (I.ok.hd hc) N J p.isList (by simp;omega) fun g eb=>⟨rfl,I.turnedL (t':=s.toks) (fp:=[en,it]) (fun b o hb e=>eb b o (fun z=>hb (by simp[z])) e) hf⟩
 self:=fun ψ ψ ψ ψ ψ st h=>by
  obtain⟨⟨was,N⟩,_⟩:=st;exact wpAny_pyIter_enum N h
def Zdy (K:L2.Fg)(ta:TA):TI:=fun σ H R=>ta σ H fun vs H1=>∃ a,vs=[.ref a]/\(∃ xs,SqL K H1 a xs)/\R (Itel K a) H1
section
variable {X:Cx}
theorem Z5x {a:Expr}{ta:TA}{p pos tp:Pos}{es:List Expr}{x1:Nat}(hg:Gl X "enumerate")(hm:X.mg "enumerate" = none)(ha:PA X [a] ta)(hs:starEach [a] X.env=[(false,eval a X.env)]:=by rfl) :
  PI X (.Tuple es x1 tp) (.Call (.Name "enumerate" p) [a] [] pos) (Zdy X.K ta):=by
 intro pins s σ H R I h;refine Call_ (Z4y I hg hm boot_enumerate (PyProof.Rows.callWith_type1 (thn (ha pos pins s σ H _ I h) fun us s1 ⟨vs,H1,I1,r1,q1⟩=>?_) hs rfl));obtain⟨t,e,⟨xs,hq⟩,q⟩:=q1;subst e
 cases r1 with
 |cons r rr=>
  cases rr
  cases r;obtain⟨its,rv,pt,hz⟩:=I1.list hq;refine call_enumerate_list pt.isList fun g N J z k=>wpAny_pyIter_enum (s:={ s1 with heap:=g }) N ?_;refine⟨s1.heap.objs.size+1,[s1.heap.objs.size+1,s1.heap.objs.size],_,_,H1,rfl,I1.kept (t':=s1.toks) fun b o e=>k b o e,Zap t _ _ (Nat.succ_ne_self _),⟨⟨_,N⟩,J⟩,fun b hb=>?_,q⟩;have le:s1.heap.objs.size<=b:=by
   rcases List.mem_cons.mp hb with z|z
   ·rw[z];exact Nat.le_succ _
   ·rw[List.mem_singleton.mp z];exact Nat.le_refl _
  exact I1.fpOk le (I1.hok.fresh le)
end
section
variable {W:Wd}{m:Md}{E:XK}{tr:TA}{fr:Af}{c:Bool}
theorem Zqq {Hb Hc:Hp}{a:Addr}{us:List U}{vs:List V}(r:RUs W Hc us vs)(h:Hc a=some (.lst vs)):ItR W Hb Hc (Itel W.K a) (Zab us):=by
 intro Hc2 H2 s1 s2 s3;have ha:=s2 _ _ (s1 _ _ h);refine⟨fun i u hu=>?_,vs,.of ha,by unfold Zab;rw[List.length_mapIdx,r.len];exact Nat.le_refl _⟩;unfold Zab at hu;rw[List.getElem?_mapIdx]at hu
 cases q:us[i]? with
 |none=>rw[q]at hu;exact noS hu
 |some w=>
  rw[q]at hu;cases hu;obtain⟨v,hv,rv⟩:=r.at (i:=0) q;refine⟨⟨vs,v,.of ha,hv⟩,fun x H3 y=>?_⟩;obtain⟨b,z,hn,rfl,hz,rfl⟩:=y;have e:vs[i]?=some z:=hz vs (.of ha);rw[hv]at e;cases e;refine⟨upd Hc2 b (.tup [.int i,v]),(Ext.laid s2 hn).1,Same.laid hn,.tup Z05 (.cons .int (.one ((rv.mono s1).mono (Same.laid (s2.free hn)))))⟩
def Z5b:List U->Option (List U)
 |[.lst us]=>some (Zab us)
 |_=>none
theorem uEnumL_l {us:List U}:Z5b [.lst us]=some (Zab us):=rfl
theorem Zgj (hr:DA W m E [false] tr fr):DI W m E c (Zdy W.K tr) (Z1z Z5b fr):=by
 intro H0 ρ ω σ Hc H ow S R h;refine hr H0 ρ ω σ Hc H ow S _ ((Aft.bnd h).imp fun us ω1 Hc1 H1 e1 p1 h1 vs rs=>?_);revert h1
 cases hg:Z5b us with
 |none=>exact fun h1=>h1.elim
 |some ws=>
  intro h1;unfold Z5b at hg;split at hg
  ·cases hg
   cases vs with
   |nil=>unfold RBs at rs;exact rs.elim
   |cons v vs=>
    unfold RBs at rs;obtain⟨rv,rs⟩:=rs
    cases vs with
    |cons _ _=>unfold RBs at rs;exact rs.elim
    |nil=>
     rw[if_neg Bool.false_ne_true,RU]at rv;obtain⟨a,vs,rfl,q,r⟩:=rv;exact⟨a,rfl,⟨vs,.of (e1.sub _ _ q)⟩,h1 Hc1 H1 (Ext.refl e1.sub) p1 _ (Zqq r q)⟩
  ·cases hg
end
section
variable {ι:Type}{X:L2.FC ι}{W:Wd}{m:Md}{E:XK}{a:Expr}{fr:Af}{pos p:Pos}
theorem Zdz {Y:Cx}{K:L2.Fg}{a:Expr}{ta:TA}{p pos tp:Pos}{es:List Expr}{x1:Nat}(h:Y.K=K)(hg:Gl Y "enumerate")(hm:Y.mg "enumerate" = none)(ha:PA Y [a] ta)(hs:starEach [a] Y.env=[(false,eval a Y.env)]):PI Y (.Tuple es x1 tp) (.Call (.Name "enumerate" p) [a] [] pos) (Zdy K ta):=h▸Z5x hg hm ha hs
theorem Zgk {c:Bool}{tp:Pos}{x1:Nat}{ts:List Expr}(cx:Ctx X W E)(B:Bl W.mg)(ha:QA X W m E [false] [a] fr)(hg:∀ y,Gl (X y) "enumerate" := by intro ψ;rfl)(hs:∀ y,starEach [a] (X y).env=[(false,eval a (X y).env)]:=by intro ψ;rfl):QI X W m E c (.Tuple ts x1 tp) (.Call (.Name "enumerate" p) [a] [] pos) (Z1z Z5b fr):=
 let ⟨_, pa, da⟩ := ha; ⟨_, fun y => Zdz (cx.hK y) (hg y) ((congrFun (cx.hm y) _).trans B.enumerate) (pa y) (hs y), Zgj da⟩
end
end L2
set_option maxHeartbeats 4000000
namespace L2
open PySem PySem.Spec PyProof.Rows
def Zic:List V->Hp->VK->Prop:=fun xs H Q=>∃(a:Addr)(ob:Obj)(kvs:List (Int×V)),xs=[.ref a]/\H a=some (dE a ob kvs)/\kvs.length<=5000/\∀ l,H l=none->Q (.ref l) (upd H l (.lst ((kvs.map (·.1)).map V.int)))
theorem Zaq {X:Cx}(hc:X.calm=true):Z10 X (.type "list") Zic:=by
 intro pins s σ H xs us Q I r h;obtain⟨a,ob,kvs,rfl,ha,hl,q⟩:=h;obtain⟨u,rfl,rx⟩:=Z2o r
 cases rx;obtain⟨ns,vs,rv,hat⟩:=Zdg (I.hok a _ ha);have hvl:vs.length=kvs.length:=by rw[<-rv.length,List.length_map]
 have hh:X.A.handled=none:=I.ok.hd hc;refine PySem.W.kdl_call (PySem.W.kdl_dict (knd:=Z0d X.prog X.w) (kvs:=vs) (ep:=epOf ob) ns) hh hat (by rw[sizeLine_eq];omega) fun h' tk acc c hk hS hacc=>?_;have hal:acc.toList.length=vs.length:=by rw[Array.length_toList];exact hacc.1
 have hI:IntsAre acc.toList (kvs.map (·.1)):=Z76 (P:=X.prog) (w:=X.w) rv hal fun i v e=>hacc.2 i v (by rw[<-Array.getElem?_toList];exact e);have I2:=I.laid (t':=tk) (a:=s.heap.objs.size) (o:=.lst ((kvs.map (·.1)).map V.int)) hk (Nat.le_refl _)
  (show Z0s X.prog X.w _ _ _ (.lst _)from⟨by rw[List.length_map,List.length_map,sizeLine_eq];omega,acc.toList,c,Z1t hI,by simpa[seqObj]using hS⟩)
 exact⟨.ref s.heap.objs.size,_,I2,rfl,q _ (I.hok.fresh (Nat.le_refl _))⟩
open Classical in
def Z5c:List U->Option U
 |[d]=>(asD d).bind fun ps=>if ps.length<=5000 then some (.lst ((ps.map (·.1)).map U.int))else none
 |_=>none
theorem Zgl {W:Wd}:Za9 W [true] Zic Z5c:=by
 intro Hc H ω us vs s p rs u e Q k;unfold Z5c at e;split at e
 ·rename_i d
  cases q:asD d with
  |none=>rw[q]at e;exact noS e
  |some ps=>
   rw[q]at e;simp only[Option.bind_some]at e;split at e
   ·rename_i c
    cases e;have:=Z2k q;subst this
    obtain⟨v,rfl,rv⟩:=rs.one;obtain⟨a,ob,kvs,rfl,h1,r1⟩:=rv.dicI s;refine⟨a,ob,kvs,rfl,h1,by rw[<-r1.len];exact c,fun l n=>k _ _ _ _ _ (Z0v s p n).1 (Z0v s p n).2 rfl (s.free n) n Z05 ?_⟩;rw[r1.keys];exact .ofInts
   ·cases e
 ·cases e
section
variable {ι:Type}{X:L2.FC ι}{W:Wd}{m:Md}{E:XK}{a:Expr}{fa:Ef}{pos p:Pos}
theorem Zgm (cx:Ctx X W E)(B:Bl W.mg)(ha:QB X W m E a fa)(hg:∀ y,Gl (X y) "list" := by intro ψ;rfl)(hs:∀ y,starEach [a] (X y).env=(false,eval a (X y).env)::starEach [] (X y).env:=by intro ψ;rfl)(hp:∀ y,(backTo pos (starEach [] (X y).env)).any (·.1)=false:=by intro ψ;rfl):QF X W m E (.Call (.Name "list" p) [a] [] pos) (eB Z5c (Z01 fa aNil)):=
 Zpd (fun y=>Zaq (cx.calm y)) Zgl (fun y=>(congrFun (cx.hm y) _).trans B.list) boot_list (qa_b ha Z04 hs) hg (by decide) (by decide) hs hp
end
theorem uListD_I {ps:Ps}(h:ps.length<=5000):Z5c [dicI ps]=some (.lst ((ps.map (·.1)).map U.int)):=by
 unfold Z5c;simp only;rw[asD_I];simp only[Option.bind_some];rw[if_pos h]
section
variable {X:Cx}{pins:L2.AO}{σ:St}{H:Hp}{s:Shared}
theorem Zlm {prog:Program}{w:World}{A:Around}{a b:Addr}{oa ob:Obj}{ka kb:List (Int×V)}{ds es:List L2.D}{E:L2.VSP}(I:Inv X pins σ H s)(ha:H a=some (dE a oa ka))(hb:H b=some (dE b ob kb))(h1:DVs X.K H ds (ka.map (·.2)))(h2:DVs X.K H es (kb.map (·.2)))(hu:A.units+(max 1 (L2.D.depths ds))<cLine) :
  s.TypeIs (.ref a) "dict" /\ s.TypeIs (.ref b) "dict" /\ ∀ id (Q:Bool->Shared->Prop),Q (Z2u (ka.map (·.1)) ds (kb.map (·.1)) es) s->wpAny (model prog w) A (Builtin.Dict.samePairs id a b) Q E s:=by
 obtain⟨⟨ea1,na,la,ea,pa,xa,da,qa,_⟩,_,_⟩:=I.hok a _ ha;obtain⟨⟨eb1,nb,lb,eb,pb,xb,db,qb,ndb⟩,_,_⟩:=I.hok b _ hb;refine⟨⟨oa,ea1,xa.1⟩,⟨ob,eb1,xb.1⟩,fun id Q h=>?_⟩;have sa:ea.size=ka.length:=by rw[<-Array.length_toList];exact Z33 qa
 have sb:eb.size=kb.length:=by rw[<-Array.length_toList];exact Z33 qb
 unfold Z2u at h;simp only[List.length_map]at h;by_cases hl:ka.length=kb.length
 ·rw[decide_eq_true hl,Bool.true_and,<-sa]at h;obtain⟨vs,kv,kk,kp⟩:=Z4f (P:=prog) (w:=w) qb;refine Z58 (Z0d prog w) ea1 da eb1 db na nb (by omega) (fun x hx=>kk x (by simpa using hx)) (fun i hi=>?_) h;have hi':ea.toList[i]?=some ea[i]:=by simp[hi]
  obtain⟨p,hp,p1,p2,p3⟩:=Z32 qa hi';refine⟨.inl p.1,p1,p2 w,?_⟩;have ek:(ka.map (·.1)).getD i 0=p.1:=by simp[List.getD,hp]
  have ef:eb.findIdx? (fun x=>(Z0d prog w).is (.inl p.1) x.key)=(kb.map (·.1)).findIdx? (fun k=>decide (k=p.1)):=by
   rw[fidx,kp.findIdx];have:vs.map (·.1)=(kb.map (·.1)).map (Sum.inl:Int->Key):=by rw[<-kv.keys];simp[kvK]
   rw[show(vs.findIdx? fun kv=>decide (kv.1=Sum.inl p.1))=(vs.map (·.1)).findIdx? (fun k=>decide (k=Sum.inl p.1))by rw[List.findIdx?_map];rfl,this,List.findIdx?_map];congr 1;funext k
   simp only[Function.comp];by_cases c:k=p.1
   ·simp[c]
   ·simp[c]
  rw[ek,ef]
  cases q:(kb.map (·.1)).findIdx? (fun k=>decide (k=p.1))with
  |none=>exact .inl ⟨rfl,rfl⟩
  |some j=>
   have hj:j<eb.size:=by
    have:=(List.findIdx?_eq_some_iff_getElem.mp q).1
    rw[sb];simpa using this
   refine .inr ⟨j,hj,rfl,?_⟩;have hj':eb.toList[j]?=some eb[j]:=by simp[hj]
   obtain⟨p',hp',_,_,p3'⟩:=Z32 qb hj';refine Zc3 I _ _ A p.2 p'.2 _ _ p3 p3' (Z2v h1 (by rw[List.getElem?_map,hp];rfl)) (Z2v h2 (by rw[List.getElem?_map,hp'];rfl)) ?_;exact Nat.lt_of_le_of_lt (Nat.add_le_add_left Z88 _) hu
 ·rw[decide_eq_false hl,Bool.false_and]at h;exact Zdj ea1 da eb1 db na nb (by omega) h
theorem Z9e:∀{es:List DictEntry}{ka kb:List (Int×V)},Paired (fun(e:DictEntry)(p:Int×V)=>Z38 (.inl p.1) e.key=true/\(∀ w,e.hash=keyH w (.inl p.1))/\RelV p.2 e.val) es ka->Paired (fun(e:DictEntry)(p:Int×V)=>Z38 (.inl p.1) e.key=true/\(∀ w,e.hash=keyH w (.inl p.1))/\RelV p.2 e.val) es kb->ka=kb
 |_,_,_,.nil,.nil=>rfl
 |_,_,_,.cons r t,.cons r' t'=>by
  rw[Z9e t t'];congr 1;refine Prod.ext ?_ (r.2.2.inj r'.2.2);rcases Z0j r.1 with ⟨i,u,e1,e2⟩|⟨x,u,e1,e2⟩
  ·rcases Z0j r'.1 with ⟨i',u',e1',e2'⟩|⟨x,u,e1',e2'⟩
   ·rw[e2]at e2'
    cases e2';have q1:=Sum.inl.inj e1;have q2:=Sum.inl.inj e1';rw[q1,q2]
   ·cases e1'
  ·cases e1
theorem Zqr {ks:List Int}{i:Nat}(n:ks.Nodup)(hi:i<ks.length):ks.findIdx? (fun k=>decide (k=ks.getD i 0))=some i:=by
 rw[List.findIdx?_eq_some_iff_getElem];refine⟨hi,by simp[List.getD,hi],fun j hj=>?_⟩;have hj':j<ks.length:=by omega
 simp only[List.getD,List.getElem?_eq_getElem hi,Option.getD_some,decide_eq_true_eq];intro e;exact(List.pairwise_iff_getElem.mp n) j i hj' hi hj e
theorem Ze0 {a:Addr}{oa ob:Obj}{ka kb:List (Int×V)}{ds es:List L2.D}(I:Inv X pins σ H s)(ha:H a=some (dE a oa ka))(hb:H a=some (dE a ob kb))(h1:DVs X.K H ds (ka.map (·.2)))(h2:DVs X.K H es (kb.map (·.2))):Z2u (ka.map (·.1)) ds (kb.map (·.1)) es=true:=by
 obtain⟨⟨ea1,na,la,ea,pa,xa,da,qa,_⟩,_,_⟩:=I.hok a _ ha;obtain⟨⟨eb1,nb,lb,eb,pb,xb,db,qb,ndb⟩,_,_⟩:=I.hok a _ hb;rw[ea1]at eb1
 cases eb1;rw[da]at db
 cases db;have e:=Z9e qa qb;subst e;unfold Z2u;rw[decide_eq_true rfl,Bool.true_and,List.all_eq_true];intro i hi;have hi':=List.mem_range.mp hi;rw[Zqr ndb hi'];simp only;have hv:(ka.map (·.2))[i]?=some ((ka.map (·.2))[i]'(by simpa using hi')):=List.getElem?_eq_getElem _;exact Zc1 I _ _ _ (Z2v h1 hv) (Z2v h2 hv)
theorem Ze1 {A:Around}{a b:Addr}{oa ob:Obj}{ka kb:List (Int×V)}{ds es:List L2.D}(I:Inv X pins σ H s)(ha:H a=some (dE a oa ka))(hb:H b=some (dE b ob kb))(h1:DVs X.K H ds (ka.map (·.2)))(h2:DVs X.K H es (kb.map (·.2)))(hu:A.units+1+(max 1 (L2.D.depths ds))<cLine) :
  SeqAt.EqAt A s (.ref a) (.ref b) (Z2u (ka.map (·.1)) ds (kb.map (·.1)) es):=by
 by_cases hab:a=b
 ·subst hab;rw[Ze0 I ha hb h1 h2];exact SeqAt.EqAt.same _
 refine SeqAt.EqAt.of_refs hab fun prog w E Q hQ=>?_;obtain⟨t1,t2,key⟩:=Zlm (prog:=prog) (w:=w) (A:=A.in1) (E:=E) I ha hb h1 h2 (by rw[Z1e];omega);exact wpAny_richCompare_same_room (op:=.Eq) t1 t2 PySem.F.slot_dict_eq (wpAny_call_entry PySem.F.slot_dict_eq t1 PySem.F.entry_dict_eq (Zdk t2 key ⟨_,rfl,(fun z=>nomatch z),hQ⟩) (PySem.F.args_dict_eq_2 _ _)) (by omega)
end
def Zln (K:L2.Fg):R2:=fun x y H Q=>∃ a b p q la lb oa ob ka kb ds es,x=.ref a/\y=.ref b/\SqT K H a [.str p,.ref la]/\SqT K H b [.str q,.ref lb]/\H la=some (dE la oa ka)/\H lb=some (dE lb ob kb)/\DVs K H ds (ka.map (·.2))/\DVs K H es (kb.map (·.2))/\L2.D.depths ds<=40/\Q (.bl (!(decide (p=q)&&Z2u (ka.map (·.1)) ds (kb.map (·.1)) es))) H
theorem Zlo {X:Cx}(hu:X.A.units+64<cLine):OpR X (compareOp .NotEq) (Zln X.K):=by
 intro pins s σ H x y v u Q I rx ry h;obtain⟨a,b,p,q,la,lb,oa,ob,ka,kb,ds,es,rfl,rfl,ha,hb,hla,hlb,hxs,hys,hd,k⟩:=h
 cases rx;cases ry;obtain⟨its,r1,pt,_⟩:=I.tuple ha;obtain⟨its2,r2,pt2,_⟩:=I.tuple hb;obtain⟨u1,u2,rfl,ru1,ru2⟩:=r1.two;obtain⟨w1,w2,rfl,rw1,rw2⟩:=r2.two
 cases ru2;cases rw2;refine SeqAt.RcNeAt.tuples (e:=fun j=>if j=0 then decide (p=q)else Z2u (ka.map (·.1)) ds (kb.map (·.1)) es) (show s.heap.IsTuple a [u1,.ref la].toArray from pt) (show s.heap.IsTuple b [w1,.ref lb].toArray from pt2) (by omega) (fun j h1 h2=>?_) X.prog X.w X.xe _ ⟨.bl _,H,I,rfl,?_⟩
 ·have hj:j=0\/j=1:=by simp at h1;omega
  rcases hj with rfl|rfl
  ·have:=Z19 (A:=X.A.in1) (s:=s) ru1 rw1 rfl rfl
   have e:eqV (.str p) (.str q)=decide (p=q):=by unfold eqV;rfl
   rw[e]at this;exact this
  ·exact Ze1 I hla hlb hxs hys (by rw[Z1e];omega)
 ·simpa[List.range_succ]using k
def rNeJ (K:L2.Fg):R2:=fun x y H Q=>rNeA K x y H Q\/Zln K x y H Q
theorem Zqs {X:Cx}{K:L2.Fg}(h:X.K=K)(hu:X.A.units+64<cLine):OpR X (compareOp .NotEq) (rNeJ K):=by
 intro pins s σ H x y v u Q I rx ry q;rcases q with q|q
 ·exact Zch h hu pins s σ H x y v u Q I rx ry q
 ·subst h;exact Zlo hu pins s σ H x y v u Q I rx ry q
def Zgn:U->U->Option U
 |.tup [.str p,u],.tup [.str q,v]=>(uEqD false u v).bind fun r=>match r with
  |.bl k=>some (.bl (!(decide (p=q)&&k)))
  |_=>none
 |_,_=>none
def uNeJ (u v:U):Option U:=match uNe u v with
 |some r=>some r
 |none=>Zgn u v
section
variable {W:Wd}
theorem Zlp:OpU W (Zln W.K) Zgn:=by
 intro Hc H ω u1 u2 x y s p rx ry u e Q k;unfold Zgn at e;split at e
 ·rename_i p1 d1 q1 d2
  obtain⟨a,vs,rfl,h1,r1⟩:=rx.tup;obtain⟨b,ws,rfl,h2,r2⟩:=ry.tup;rw[RUs]at r1 r2;obtain⟨v1,t1,rfl,rv1,r1⟩:=r1;obtain⟨w1,t2,rfl,rw1,r2⟩:=r2;rw[RUs]at r1 r2;obtain⟨v2,t1,rfl,rv2,r1⟩:=r1;obtain⟨w2,t2,rfl,rw2,r2⟩:=r2;rw[RUs]at r1 r2;subst r1 r2;rw[RU]at rv1;rw[RU]at rw1;subst rv1 rw1
  cases q0:uEqD false d1 d2 with
  |none=>rw[q0]at e;exact noS e
  |some r=>
   rw[q0]at e;simp only[Option.bind_some]at e;have z:=q0;unfold uEqD at z
   cases c1:asD d1 with
   |none=>rw[c1]at z;exact noS z
   |some ps=>
    cases c2:asD d2 with
    |none=>rw[c1,c2]at z;exact noS z
    |some qs=>
     rw[c1,c2]at z;simp only[Option.bind_some]at z
     cases e1:U.toDs (ps.map (·.2))with
     |none=>rw[e1]at z;exact noS z
     |some ds=>
      cases e2:U.toDs (qs.map (·.2))with
      |none=>rw[e1,e2]at z;exact noS z
      |some es=>
       rw[e1,e2]at z;simp only[Option.bind_some]at z;split at z
       ·rename_i hd
        cases z;simp only[Bool.false_eq_true,if_false]at e
        cases e;have:=Z2k c1;subst this
        have:=Z2k c2;subst this
        obtain⟨la,oa,ka,rfl,ha,ra⟩:=(show RB W Hc H (dicI ps) v2 from .inl rv2).dicI s;obtain⟨lb,ob,kb,rfl,hb,rb⟩:=(show RB W Hc H (dicI qs) w2 from .inl rw2).dicI s;refine⟨a,b,p1,q1,la,lb,oa,ob,ka,kb,ds,es,rfl,rfl,.of (s _ _ h1),.of (s _ _ h2),ha,hb,Z3q e1 (ra.to.2.mono s),Z3q e2 (rb.to.2.mono s),hd,?_⟩;rw[ra.keys,rb.keys];exact k _ Hc H (Ext.refl s) p .bl
       ·cases z
 ·cases e
theorem Zqt:OpU W (rNeJ W.K) uNeJ:=by
 intro Hc H ω u1 u2 x y s p rx ry u e Q k;unfold uNeJ at e
 cases q:uNe u1 u2 with
 |some r=>
  rw[q]at e
  cases e;exact .inl (Zk8 Hc H ω u1 u2 x y s p rx ry _ q Q k)
 |none=>
  rw[q]at e;exact .inr (Zlp Hc H ω u1 u2 x y s p rx ry u e Q k)
end
section
variable {ι:Type}{X:L2.FC ι}{W:Wd}{m:Md}{E:XK}{a b:Expr}{fa fb:Ef}{pos:Pos}
theorem Zqu (cx:Ctx X W E)(ha:QB X W m E a fa)(hb:QB X W m E b fb):QT X W m E (.Compare a [.NotEq] [b] pos) (tfB (eOp uNeJ fa fb)):=Z30 (fun y=>Zqs (cx.hK y) (cx.hu y)) Zqt (Z24 _) ha hb
end
def iab (x:Int):Int:=if x<0 then -x else x
def far:List Int->Int
 |[]=>0
 |d::ds=>(ds.map iab).foldl max (iab d)
theorem Ze2:∀(xs:List Int) (m:Int),m<=xs.foldl max m/\∀ x∈xs,x<=xs.foldl max m
 |[],m=>⟨Int.le_refl _,fun ψ h=>absurd h (by simp)⟩
 |x::xs,m=>by
  obtain⟨h1,h2⟩:=Ze2 xs (max m x);rw[List.foldl_cons];refine⟨by omega,fun y hy=>?_⟩;rcases List.mem_cons.mp hy with rfl|hy
  ·omega
  ·exact h2 y hy
theorem Ze3 {B:Int}:∀(xs:List Int) (m:Int),m<=B->(∀ x∈xs,x<=B)->xs.foldl max m<=B
 |[],m,h,_=>h
 |x::xs,m,h,k=>Ze3 xs (max m x) (by have:=k x (by simp);omega) fun y hy=>k y (List.mem_cons_of_mem _ hy)
theorem Z7i {ds:List Int}{d:Int}(h:d∈ds): -far ds<=d/\d<=far ds:=by
 cases ds with
 |nil=>simp at h
 |cons e ds=>
  obtain⟨h1,h2⟩:=Ze2 (ds.map iab) (iab e);have key:iab d<=far (e::ds):=by
   rcases List.mem_cons.mp h with rfl|h
   ·exact h1
   ·exact h2 _ (List.mem_map_of_mem h)
  unfold iab at key;split at key<;>omega
theorem Z2m (ds:List Int):0<=far ds:=by
 cases ds with
 |nil=>exact Int.le_refl _
 |cons d ds=>have:=Z7i (ds:=d::ds) (d:=d) (by simp);omega
theorem far_le {ds:List Int}{B:Int}(h0:0<=B)(h:∀ d∈ds,-B<=d/\d<=B):far ds<=B:=by
 cases ds with
 |nil=>exact h0
 |cons d ds=>
  have ib:∀ x,-B<=x/\x<=B->iab x<=B:=fun x hx=>by unfold iab;split<;>omega
  refine Ze3 _ _ (ib d (h d (by simp))) fun x hx=>?_;obtain⟨y,hy,rfl⟩:=List.mem_map.mp hx;exact ib y (h y (List.mem_cons_of_mem _ hy))
theorem Z9f {ks:List Int}(n:ks.Nodup):(srt ks).Pairwise (· < ·):=by
 have h1:=Zd4 ks;have h2:(srt ks).Nodup:=(Z1s ks).nodup_iff.mpr n;exact(h1.and h2).imp fun h=>by have:=h.1;have:=h.2;omega
theorem Z11 {ks:List Int}{z:Int}:z∈srt ks↔z∈ks:=(Z1s ks).mem_iff
theorem Z4h (ks:List Int):(srt ks).length=ks.length:=(Z1s ks).length_eq
theorem Zid:∀{xs:List Int}{a b:Int},xs.Pairwise (· < ·)->(∀ z∈xs,a<=z/\z<=b)->(xs.length:Int)<=max 0 (b-a+1)
 |[],a,b,_,_=>by simp;omega
 |x::t,a,b,p,h=>by
  have p':=List.pairwise_cons.mp p;have hx:=h x (by simp);have:=Zid (xs:=t) (a:=x+1) (b:=b) p'.2 fun z hz=>⟨by have:=p'.1 z hz;omega,(h z (List.mem_cons_of_mem _ hz)).2⟩
  simp;omega
theorem Z7j {ks:List Int}{a b:Int}(n:ks.Nodup)(h:∀ z∈ks,a<=z/\z<=b):(ks.length:Int)<=max 0 (b-a+1):=by
 rw[<-Z4h];exact Zid (Z9f n) fun z hz=>h z (Z11.mp hz)
structure Pap (m:Int) (N:Nat)(ps:Ps):Prop where
 nd:(ps.map (·.1)).Nodup
 ky:∀ p∈ps,-m<=p.1/\p.1<=m
 rw:∀ p∈ps,∃ row:List Int,p.2=.tup (row.map U.int)/\row.length<=N
theorem Pap.len {m:Int}{N:Nat}{ps:Ps}(h:Pap m N ps):(ps.length:Int)<=max 0 (2*m+1):=by
 have:=Z7j h.nd (a := -m) (b:=m) fun z hz=>by
  obtain⟨p,hp,rfl⟩:=List.mem_map.mp hz;exact h.ky p hp
 rw[List.length_map]at this;omega
theorem Pap.mono {m m':Int}{N N':Nat}{ps:Ps}(h:Pap m N ps)(hm:m<=m')(hN:N<=N'):Pap m' N' ps:=
 ⟨h.nd,fun p hp=>by have:=h.ky p hp;omega,fun p hp=>by obtain⟨r,e,l⟩:=h.rw p hp;exact⟨r,e,by omega⟩⟩
theorem Pap.nil {m:Int}{N:Nat}:Pap m N []:=⟨by simp,fun ψ h=>absurd h (by simp),fun ψ h=>absurd h (by simp)⟩
theorem Pap.drop {m:Int}{N:Nat}{ps:Ps}{k:Int}(h:Pap m N ps):Pap m N (Z86 ps k):=
 ⟨Zgb h.nd,fun p hp=>h.ky p (Z7f hp),fun p hp=>h.rw p (Z7f hp)⟩
theorem Pap.get {m:Int}{N:Nat}{ps:Ps}{k:Int}(h:Pap m N ps)(hk:k∈ps.map (·.1)):∃ row:List Int,asc ps k=some (.tup (row.map U.int))/\row.length<=N:=by
 obtain⟨p,hp,rfl⟩:=List.mem_map.mp hk;obtain⟨r,e,l⟩:=h.rw p hp;exact⟨r,by rw[<-e];exact Z59 h.nd hp,l⟩
theorem Z9g:∀ ds:List L2.D,(∀ d∈ds,L2.D.eq d d=true)->L2.D.eqs ds ds=true
 |[],_=>by rw[L2.D.eqs]
 |d::ds,h=>by rw[L2.D.eqs,h d (by simp),Z9g ds fun e he=>h e (List.mem_cons_of_mem _ he)];rfl
inductive Wr (b:Int)(ds:List Int):Int->Prop
 |zero:Wr b ds 0
 |step {n d:Int}(h:Wr b ds n)(hd:d∈ds):Wr b ds (d+b*n)
theorem Wr.perm {b:Int}{ds es:List Int}(h:∀ d∈ds,d∈es){n:Int}(w:Wr b ds n):Wr b es n:=by
 induction w with
 |zero=>exact .zero
 |step _ hd ih=>exact .step ih (h _ hd)
structure Clo (b R:Int)(ds:List Int)(ps:Ps):Prop where
 nd:(ps.map (·.1)).Nodup
 zr:(0:Int)∈ps.map (·.1)
 so:∀ k∈ps.map (·.1),Wr b ds k /\ -R<=k/\k<=R
 cl:∀ k∈ps.map (·.1),∀ d∈ds,-R<=d+b*k->d+b*k<=R->d+b*k∈ps.map (·.1)
def Rch (b R:Int)(ds:List Int):Prop:=∀ m:Int,∀ d∈ds,-R<=d+b*m->d+b*m<=R -> -R<=m/\m<=R
theorem Clo.all {b R:Int}{ds:List Int}{ps:Ps}(c:Clo b R ds ps)(r:Rch b R ds){n:Int}(w:Wr b ds n): -R<=n->n<=R->n∈ps.map (·.1):=by
 induction w with
 |zero=>exact fun ψ ψ=>c.zr
 |step _ hd ih=>
  intro h1 h2;obtain⟨m1,m2⟩:=r _ _ hd h1 h2;exact c.cl _ (ih m1 m2) _ hd h1 h2
theorem Clo.iff {b R:Int}{ds:List Int}{ps:Ps}(c:Clo b R ds ps)(r:Rch b R ds){n:Int}(h1: -R<=n)(h2:n<=R):n∈ps.map (·.1)↔Wr b ds n:=⟨fun h=>(c.so n h).1,fun w=>c.all r w h1 h2⟩
theorem Ze4 {b R:Int}{ds:List Int}(hb:2<=b)(hR:far ds/(b-1)<=R)(h0:0<=R):Rch b R ds:=by
 intro m d hd h1 h2;have fd:=Z7i hd;have hf:far ds<(b-1)*(R+1):=by
  have h:=Int.lt_mul_ediv_self_add (x:=far ds) (k:=b-1) (by omega);have hm:(b-1)*(far ds/(b-1))<=(b-1)*R:=Int.mul_le_mul_of_nonneg_left hR (by omega);have e:(b-1)*(R+1)=(b-1)*R+(b-1):=by rw[Int.mul_add,Int.mul_one]
  omega
 have e1:(b-1)*(R+1)=b*(R+1)-(R+1):=by rw[Int.sub_mul,Int.one_mul]
 have up:b*m<b*(R+1):=by omega
 have lo:b*(-(R+1))<b*m:=by rw[Int.mul_neg];omega
 have:=Int.lt_of_mul_lt_mul_left up (by omega)
 have:=Int.lt_of_mul_lt_mul_left lo (by omega)
 omega
def Lk (b R:Int)(ds:List Int):Option Int->Prop
 |none=>∀ n,-R<=n->n<=R->Wr b ds n
 |some k=>¬ Wr b ds k /\ -R<=k/\k<=R/\(∀ n,iab n<iab k->Wr b ds n)/\(k<0->Wr b ds (-k))
end L2
namespace My
open PySem L2 PyProof.Rows
set_option maxHeartbeats 4000000
section EvBlock
def top (i:Nat):Stmt:=PySem.Challenge.pw_mixedscales_k30_whole_digits_turned.main.body.getD i (.Pass ⟨0,0,0,0⟩)
def wkT (_:Wd):Prop:=True
structure Tx (K:L2.Fg)(mg:L2.SV):Prop where
 t:True
section
variable {P:Program}{w:World}{K:L2.Fg}{mg:L2.SV}{base:Heap}
abbrev Zar:Stmt:=top 1
abbrev Zgo:List Str:=["digits","place"]
abbrev Ze5:List Str:=["digits","place"]
theorem Zie:Z0f Zgo Ze5 (Z02 Zar):=⟨rfl,rfl,rfl,by decide +kernel,rfl,by decide +kernel,by decide +kernel⟩
abbrev Ze6:List Bool:=[true,true]
def Zlq:Sf:=(sRet (eIf (tfB (eOp uLt (eVar 1) (eB uLen (Z01 (eVar 0) aNil)))) (eOp uIx (eVar 0) (eVar 1)) (eC (.int 0))))
def Zas:Ff:=runU Zgo.length Zlq
theorem Zqv {f:Addr}{fd:FuncData}(F:Fun K "digit_at" "digit_at" Zar f fd)(B:Bl mg)(kt:Kt K)(T:Tx K mg)  : FnOk P w K mg base (CX1 P w) 1 f fd Ze5 (spU K mg wkT Ze6.length Ze6 Zas):=by
 have nd:=Zie.nd;refine F.okQ (N:=Zgo) (ps:=Ze5) (bs:=Ze6) (wk:=wkT) (m:=⟨[0,1],[]⟩) (g:=Zlq) Zie rfl rfl (by decide) fun cdv A outer s H E W hK hm hw hr hA=>?_;subst hK;subst hm;have cx:=Z0n (W:=W) (P:=P) (w:=w) (base:=base) (N:=Zgo) (outer:=outer) (H:=H) (E:=E) rfl rfl hr;exact(Z0x (Z0l (Zsx (Zcm (Z00 1) (QE.tb (Z28 cx B (Z00 0)))) (Z0w cx (Z00 0) (Z00 1)) Z03)))
abbrev Zat:Stmt:=top 7
abbrev Zgp:List Str:=["base","digits","reach","wanted","lengths","last","many","fresh","behind","digit","number"]
abbrev Zau:List Str:=["base","digits","reach","wanted"]
theorem Zif:Z0f Zgp Zau (Z02 Zat):=⟨rfl,rfl,rfl,by decide +kernel,rfl,by decide +kernel,by decide +kernel⟩
abbrev Z8a:List Bool:=[true,true,true,true]
def Z1p:Sf:=(sSeq (sSet 10 (eOp uAdd (eVar 9) (eOp uMul (eVar 0) (eVar 8))))
   (sIf (Z2s (tfB (eOp uLe (eB uAbs (Z01 (eVar 10) aNil)) (eVar 2))) (tfB (eOp (uDIn true) (eVar 10) (eVar 4)))) (sSeq (Z2l 4 (eVar 10) (eVar 6))
   (sApp 7 (eVar 10))) Z0q))
def Z2x:Sf:=(sFor (iOf (eVar 1)) (Z0c 9) Z1p)
def Z4i:Sf:=(sSeq (sAug 6 Zfu (eC (.int 1)))
   (sSeq (sSet 7 (eLst aNil))
   (sSeq (sFor (iOf (eVar 5)) (Z0c 8) Z2x)
   (sFz [7] (sSet 5 (eVar 7))))))
def Zgq:Sf:=(sSeq (sSet 4 (eD1 (eC (.int 0)) (eC (.int 0))))
   (sSeq (sSet 5 (eLst (Z01 (eC (.int 0)) aNil)))
   (sSeq (sSet 6 (eC (.int 0)))
   (sSeq (sWh (Z2s (tfB (eOp uGt (eB uLen (Z01 (eVar 5) aNil)) (eC (.int 0)))) (Z6p (tfB (eB uAny (Z01 (Z3d (iOf (eVar 3)) 1 [4] (Z0c 0) Z1m (eOp (uDIn false) (eVar 0) (eVar 1))) aNil))))) Z4i)
   (sRet (eVar 4))))))
def Z5y:Ff:=runU Zgp.length Zgq
theorem Zqw {f:Addr}{fd:FuncData}(F:Fun K "row_lengths" "row_lengths" Zat f fd)(B:Bl mg)(kt:Kt K)(T:Tx K mg)  : FnOk P w K mg base (CX1 P w) 1 f fd Zau (spU K mg wkT Z8a.length Z8a Z5y):=by
 have nd:=Zif.nd;refine F.okQ (N:=Zgp) (ps:=Zau) (bs:=Z8a) (wk:=wkT) (m:=⟨[0,1,2,3],[4,7]⟩) (g:=Zgq) Zif rfl rfl (by decide) fun cdv A outer s H E W hK hm hw hr hA=>?_;subst hK;subst hm;have cx:=Z0n (W:=W) (P:=P) (w:=w) (base:=base) (N:=Zgp) (outer:=outer) (H:=H) (E:=E) rfl rfl hr;exact(Z07 (Z3h 4 (fun ψ=>nd) (Zi3 (QE.tb Z03) Z03))
   (Z07 (Z0g 5 (fun ψ=>nd) (QF.te (Z18 (qa_e Z03 Z04))) (hs:=fun ψ=>Z27))
   (Z07 (Z0g 6 (fun ψ=>nd) Z03)
   (Z07 (Z5p Z0y (QW.t (Z49 (Zac (QE.tb (Z28 cx B (Z00 5))) (QE.tb Z03)) (Z3e (Zht (Zcn (QE.tb (Zpe cx B (QF.tb (Z3f (bs:=["number"]) ⟨[1],[]⟩ cx (Z2r rfl (by rfl) rfl (by rfl) (by rfl) (.cons rfl .nil) (.cons (j:=4) rfl (by first | exact .inl rfl | exact .inr rfl) rfl (by first | exact .inl rfl | exact .inr rfl) .nil)) (qi_v 3 cx) (Z0i 0 (fun ψ=>(show(["number","lengths"]:List Str).Nodup by decide +kernel))) Z4b (Zq9 cx.blk (Z00 0) (Z00 1))))))))))) (Z0a (Zpi 6 (fun ψ=>nd) (fun ψ=>Zjd) Zks (QE.tb Z03))
   (Z0a (Z3s 7 (fun ψ=>nd) (Z18 Z04) (hs:=fun ψ=>Z27))
   (Z0a (Z1b cx Z0y (qi_v 5 cx) (Z0i 8 (fun ψ=>nd)) (Z09 (Z1b cx Z0y (qi_v 1 cx) (Z0i 9 (fun ψ=>nd)) (Z0a (Z0g 10 (fun ψ=>nd) (Z1a cx (Z00 9) (QE.tb (Z55 (Z00 0) (Z00 8)))) (hs:=fun ψ=>Z1q))
   (Z09 (Z1j (QW.t (Z49 (Zp8 (QE.tb (Z2j cx B (Z00 10))) (Z00 2)) (Z3e (Z78 cx (Z00 10) (Z00 4))))) (Z0a (Z3i 4 cx (Z0p 6) (Z00 10))
   (Z09 (Z4a 7 cx (Z0p 10)))) Z0m))))))
   (Zi6 [7] [4] (Z09 (Z0g 5 (fun ψ=>nd) (Z0p 7))))))))
   (Z0x (Z0l (Z0p 4)))))))
abbrev Zav:Stmt:=top 4
abbrev Zgr:List Str:=["digits"]
abbrev Zaw:List Str:=["digits"]
theorem Zig:Z0f Zgr Zaw (Z02 Zav):=⟨rfl,rfl,rfl,by decide +kernel,rfl,by decide +kernel,by decide +kernel⟩
abbrev Z8b:List Bool:=[true]
def Zgs:Sf:=(sRet (eB Zaf (Z01 (Z3d (iOf (eVar 0)) 1 [] (Z0c 0) Z1m (eB uAbs (Z01 (eVar 0) aNil))) aNil)))
def Z4j:Ff:=runU Zgr.length Zgs
theorem Zqx {f:Addr}{fd:FuncData}(F:Fun K "farthest_of" "farthest_of" Zav f fd)(B:Bl mg)(kt:Kt K)(T:Tx K mg)  : FnOk P w K mg base (CX1 P w) 1 f fd Zaw (spU K mg wkT Z8b.length Z8b Z4j):=by
 have nd:=Zig.nd;refine F.okQ (N:=Zgr) (ps:=Zaw) (bs:=Z8b) (wk:=wkT) (m:=⟨[0],[]⟩) (g:=Zgs) Zig rfl rfl (by decide) fun cdv A outer s H E W hK hm hw hr hA=>?_;subst hK;subst hm;have cx:=Z0n (W:=W) (P:=P) (w:=w) (base:=base) (N:=Zgr) (outer:=outer) (H:=H) (E:=E) rfl rfl hr;exact(Z0x (Z0l (Zkx cx B (QF.tb (Z3f (bs:=["digit"]) ⟨[],[]⟩ cx (Z2r rfl (by rfl) rfl (by rfl) (by rfl) .nil .nil) (qi_v 0 cx) (Z0i 0 (fun ψ=>(show(["digit"]:List Str).Nodup by decide +kernel))) Z4b (Z2j cx.blk B (Z00 0)))))))
abbrev Zax:Stmt:=top 5
abbrev Zgt:List Str:=["base","digits"]
abbrev Z8c:List Str:=["base","digits"]
theorem Zih:Z0f Zgt Z8c (Z02 Zax):=⟨rfl,rfl,rfl,by decide +kernel,rfl,by decide +kernel,by decide +kernel⟩
abbrev Z5z:List Bool:=[true,true]
def Zgu:Sf:=(sRet (eOp uDiv (Z0b Z4j (Z01 (eVar 1) aNil)) (eOp uSub (eVar 0) (eC (.int 1)))))
def Z4k:Ff:=runU Zgt.length Zgu
theorem Zqy {f:Addr}{fd:FuncData}(F:Fun K "reach_of" "reach_of" Zax f fd)(B:Bl mg)(kt:Kt K)(T:Tx K mg){a_q10:Addr}{d_q10:FuncData}(c_q10:Fn P w K mg base (CX1 P w) 1 "farthest_of" a_q10 d_q10 Zaw (spU K mg wkT Z8b.length Z8b Z4j)):FnOk P w K mg base (CX1 P w) 2 f fd Z8c (spU K mg wkT Z5z.length Z5z Z4k):=by
 have nd:=Zih.nd;refine F.okQ (N:=Zgt) (ps:=Z8c) (bs:=Z5z) (wk:=wkT) (m:=⟨[0,1],[]⟩) (g:=Zgu) Zih rfl rfl (by decide) fun cdv A outer s H E W hK hm hw hr hA=>?_;subst hK;subst hm;have cx:=Z0n (W:=W) (P:=P) (w:=w) (base:=base) (N:=Zgt) (outer:=outer) (H:=H) (E:=E) rfl rfl hr;have hw_q10:wkT W:=trivial;exact(Z0x (Z0l (Z3r (QE.tb (Z08 cx (fun ψ=>c_q10) (fun ψ=>hr.mono (by decide)) hw_q10 (qa_b (Z00 1) Z04))) (QE.tb (Z1x (Z00 0) (QE.tb Z03))))))
abbrev s_q3:Stmt:=top 6
abbrev N_q3:List Str:=["base","digits","reach","lengths","size","number"]
abbrev p_q3:List Str:=["base","digits"]
theorem Zqz:Z0f N_q3 p_q3 (Z02 s_q3):=⟨rfl,rfl,rfl,by decide +kernel,rfl,by decide +kernel,by decide +kernel⟩
abbrev b_q3:List Bool:=[true,true]
def Z9h:Sf:=(sIf (tfB (eOp (uDIn true) (eVar 5) (eVar 3))) (sRet (eVar 5)) Z0q)
def Z7k:Sf:=(sFor (iOf (eTup (Z01 (eVar 4) (Z01 (eUn uNeg (eVar 4)) aNil)))) (Z0c 5) Z9h)
def g_q3:Sf:=(sSeq (sSet 2 (eB Zaa (Z01 (eVar 0) (Z01 (Z0b Z4k (Z01 (eVar 0) (Z01 (eVar 1) aNil))) aNil))))
   (sSeq (sSet 3 (Z0b Z5y (Z01 (eVar 0) (Z01 (eVar 1) (Z01 (eVar 2) (Z01 (eTup aNil) aNil))))))
   (sSeq (sFor (Z1z uR2 (Z01 (eC (.int 1)) (Z01 (eOp uAdd (eVar 2) (eC (.int 1))) aNil))) (Z0c 4) Z7k)
   (sRet (eC .non)))))
def F_q3:Ff:=runU N_q3.length g_q3
theorem Ztb {f:Addr}{fd:FuncData}(F:Fun K "first_lacking" "first_lacking" s_q3 f fd)(B:Bl mg)(kt:Kt K)(T:Tx K mg){a_q12:Addr}{d_q12:FuncData}(c_q12:Fn P w K mg base (CX1 P w) 1 "row_lengths" a_q12 d_q12 Zau (spU K mg wkT Z8a.length Z8a Z5y)){a_q21:Addr}{d_q21:FuncData}(c_q21:Fn P w K mg base (CX1 P w) 2 "reach_of" a_q21 d_q21 Z8c (spU K mg wkT Z5z.length Z5z Z4k)):FnOk P w K mg base (CX1 P w) 3 f fd p_q3 (spU K mg wkT b_q3.length b_q3 F_q3):=by
 have nd:=Zqz.nd;refine F.okQ (N:=N_q3) (ps:=p_q3) (bs:=b_q3) (wk:=wkT) (m:=⟨[0,1],[]⟩) (g:=g_q3) Zqz rfl rfl (by decide) fun cdv A outer s H E W hK hm hw hr hA=>?_;subst hK;subst hm;have cx:=Z0n (W:=W) (P:=P) (w:=w) (base:=base) (N:=N_q3) (outer:=outer) (H:=H) (E:=E) rfl rfl hr;have hw_q12:wkT W:=trivial;have hw_q21:wkT W:=trivial;exact(Z07 (Z0g 2 (fun ψ=>nd) (Zcq cx B (qa_b (Z00 0) (qa_b (QE.tb (Z08 cx (fun ψ=>c_q21) (fun ψ=>hr.mono (by decide)) hw_q21 (qa_b (Z00 0) (qa_b (Z00 1) Z04)))) Z04))))
   (Z07 (Z0g 3 (fun ψ=>nd) (Z08 cx (fun ψ=>c_q12) (fun ψ=>hr.mono (by decide)) hw_q12 (qa_b (Z00 0) (qa_b (Z00 1) (qa_b (Z00 2) (qa_b (QE.tb (Z2i Z04)) Z04))))))
   (Z07 (Z1b cx Z0y (Zkr cx B (qa_b (QE.tb Z03) (qa_b (QE.tb (Z1a cx (Z00 2) (QE.tb Z03))) Z04))) (Z0i 4 (fun ψ=>nd)) (Z09 (Z1b cx Z0y (qi_e cx (Z2i (qa_e (Z0p 4) (qa_e (Z48 (Z00 4)) Z04)))) (Z0i 5 (fun ψ=>nd)) (Z09 (Z1j (Z78 cx (Z00 5) (Z00 3)) (Z09 (Z0l (Z0p 5))) Z0m)))))
   (Z0x (Z0l Zcl)))))
abbrev s_q9:Stmt:=top 12
abbrev N_q9:List Str:=["ones","others","apart","one","other"]
abbrev p_q9:List Str:=["ones","others"]
theorem Zr0:Z0f N_q9 p_q9 (Z02 s_q9):=⟨rfl,rfl,rfl,by decide +kernel,rfl,by decide +kernel,by decide +kernel⟩
abbrev b_q9:List Bool:=[true,true]
def Z9i:Sf:=(Z2l 2 (eOp uSub (eVar 4) (eVar 3)) (eC (.bl true)))
def Z9j:Sf:=(sFor (iOf (eVar 1)) (Z0c 4) Z9i)
def g_q9:Sf:=(sSeq (sSet 2 Z72)
   (sSeq (sFor (iOf (eVar 0)) (Z0c 3) Z9j)
   (sRet (eB Z5a (Z01 (eVar 2) aNil)))))
def F_q9:Ff:=runU N_q9.length g_q9
theorem Ztc {f:Addr}{fd:FuncData}(F:Fun K "differences" "differences" s_q9 f fd)(B:Bl mg)(kt:Kt K)(T:Tx K mg)  : FnOk P w K mg base (CX1 P w) 1 f fd p_q9 (spU K mg wkT b_q9.length b_q9 F_q9):=by
 have nd:=Zr0.nd;refine F.okQ (N:=N_q9) (ps:=p_q9) (bs:=b_q9) (wk:=wkT) (m:=⟨[0,1],[2]⟩) (g:=g_q9) Zr0 rfl rfl (by decide) fun cdv A outer s H E W hK hm hw hr hA=>?_;subst hK;subst hm;have cx:=Z0n (W:=W) (P:=P) (w:=w) (base:=base) (N:=N_q9) (outer:=outer) (H:=H) (E:=E) rfl rfl hr;exact(Z07 (Z3h 2 (fun ψ=>nd) Z77)
   (Z07 (Z1b cx Z0y (qi_v 0 cx) (Z0i 3 (fun ψ=>nd)) (Z09 (Z1b cx Z0y (qi_v 1 cx) (Z0i 4 (fun ψ=>nd)) (Z09 (Z3i 2 cx Z5o (QE.tb (Z1x (Z00 4) (Z00 3))))))))
   (Z0x (Z0l (QF.te (Zgi cx B (Z00 2)))))))
abbrev s_q5:Stmt:=top 11
abbrev N_q5:List Str:=["base","digits","apart","carried","lengths"]
abbrev p_q5:List Str:=["base","digits"]
theorem Zr1:Z0f N_q5 p_q5 (Z02 s_q5):=⟨rfl,rfl,rfl,by decide +kernel,rfl,by decide +kernel,by decide +kernel⟩
abbrev b_q5:List Bool:=[true,true]
def g_q5:Sf:=(sSeq (sSet 2 (Z0b F_q9 (Z01 (eVar 1) (Z01 (eVar 1) aNil))))
   (sSeq (sSet 3 (Z3d (iOf (eVar 2)) 1 [0] (Z0c 0) (Z2s (tfB (eOp uNe (eVar 0) (eC (.int 0)))) (tfB (eOp uEq (eOp uMod (eVar 0) (eVar 1)) (eC (.int 0))))) (eOp uDiv (eVar 0) (eVar 1))))
   (sSeq (sSet 4 (Z0b Z5y (Z01 (eVar 0) (Z01 (eVar 2) (Z01 (Z0b Z4k (Z01 (eVar 0) (Z01 (eVar 2) aNil))) (Z01 (eVar 3) aNil))))))
   (sRet (eOp uAdd (eC (.int 1)) (eB Zae (Z01 (Z3d (iOf (eVar 3)) 1 [4] (Z0c 0) (tfB (eOp (uDIn false) (eVar 0) (eVar 1))) (eOp Z4g (eVar 1) (eVar 0))) aNil)))))))
def F_q5:Ff:=runU N_q5.length g_q5
theorem Ztd {f:Addr}{fd:FuncData}(F:Fun K "shortest_pair" "shortest_pair" s_q5 f fd)(B:Bl mg)(kt:Kt K)(T:Tx K mg){a_q9:Addr}{d_q9:FuncData}(c_q9:Fn P w K mg base (CX1 P w) 1 "differences" a_q9 d_q9 p_q9 (spU K mg wkT b_q9.length b_q9 F_q9)){a_q12:Addr}{d_q12:FuncData}(c_q12:Fn P w K mg base (CX1 P w) 1 "row_lengths" a_q12 d_q12 Zau (spU K mg wkT Z8a.length Z8a Z5y)){a_q21:Addr}{d_q21:FuncData}(c_q21:Fn P w K mg base (CX1 P w) 2 "reach_of" a_q21 d_q21 Z8c (spU K mg wkT Z5z.length Z5z Z4k)):FnOk P w K mg base (CX1 P w) 3 f fd p_q5 (spU K mg wkT b_q5.length b_q5 F_q5):=by
 have nd:=Zr1.nd;refine F.okQ (N:=N_q5) (ps:=p_q5) (bs:=b_q5) (wk:=wkT) (m:=⟨[0,1],[]⟩) (g:=g_q5) Zr1 rfl rfl (by decide) fun cdv A outer s H E W hK hm hw hr hA=>?_;subst hK;subst hm;have cx:=Z0n (W:=W) (P:=P) (w:=w) (base:=base) (N:=N_q5) (outer:=outer) (H:=H) (E:=E) rfl rfl hr;have hw_q9:wkT W:=trivial;have hw_q12:wkT W:=trivial;have hw_q21:wkT W:=trivial;exact(Z07 (Z0g 2 (fun ψ=>nd) (Z08 cx (fun ψ=>c_q9) (fun ψ=>hr.mono (by decide)) hw_q9 (qa_b (Z00 1) (qa_b (Z00 1) Z04))))
   (Z07 (Zkt (bs:=["step"]) false 3 ⟨[1],[]⟩ cx nd (Z2r rfl (by rfl) rfl (by rfl) (by rfl) (.cons rfl .nil) (.cons (j:=0) rfl (by first | exact .inl rfl | exact .inr rfl) rfl (by first | exact .inl rfl | exact .inr rfl) .nil)) (qi_v 2 cx) (Z0i 0 (fun ψ=>(show(["step","base"]:List Str).Nodup by decide +kernel))) (Zct (QW.t (Z49 (Zfr cx.blk (Z00 0) (QE.tb Z03)) (Z3e (Z4t cx.blk (QE.tb (Z2h (Z00 0) (Z00 1))) (QE.tb Z03)))))) (Z3r (Z00 0) (Z00 1)))
   (Z07 (Z0g 4 (fun ψ=>nd) (Z08 cx (fun ψ=>c_q12) (fun ψ=>hr.mono (by decide)) hw_q12 (qa_b (Z00 0) (qa_b (Z00 2) (qa_b (QE.tb (Z08 cx (fun ψ=>c_q21) (fun ψ=>hr.mono (by decide)) hw_q21 (qa_b (Z00 0) (qa_b (Z00 2) Z04)))) (qa_b (Z00 3) Z04))))))
   (Z0x (Z0l (Z1a cx (QE.tb Z03) (QE.tb (Zkw cx B (QF.tb (Z3f (bs:=["carry"]) ⟨[],[]⟩ cx (Z2r rfl (by rfl) rfl (by rfl) (by rfl) (.cons rfl .nil) (.cons (j:=4) rfl (by first | exact .inl rfl | exact .inr rfl) rfl (by first | exact .inl rfl | exact .inr rfl) .nil)) (qi_v 3 cx) (Z0i 0 (fun ψ=>(show(["carry","lengths"]:List Str).Nodup by decide +kernel))) (Zct (Zi4 cx.blk (Z00 0) (Z00 1))) (Z87 cx.blk (Z00 1) (Z00 0))))))))))))
abbrev Zay:Stmt:=top 14
abbrev Zgv:List Str:=["base","digits","beside","reach","ways","others","apart","made_up","carry","step","before"]
abbrev Ze7:List Str:=["base","digits","beside","reach"]
theorem Zii:Z0f Zgv Ze7 (Z02 Zay):=⟨rfl,rfl,rfl,by decide +kernel,rfl,by decide +kernel,by decide +kernel⟩
abbrev Ze8:List Bool:=[true,true,true,true]
def Z3m:Sf:=(sSeq (sSet 10 (eOp uAdd (eOp uMul (eVar 0) (eVar 8)) (eVar 9)))
   (sIf (tfB (eOp uLe (eB uAbs (Z01 (eVar 10) aNil)) (eVar 3))) (Z2l 7 (eVar 10) (eC (.bl true))) Z0q))
def Z60:Sf:=(sFor (iOf (eVar 6)) (Z0c 9) Z3m)
def Z61:Sf:=(sSeq (sSet 6 (Z0b F_q9 (Z01 (eVar 1) (Z01 (eVar 5) aNil))))
   (sSeq (sSet 7 Z72)
   (sSeq (sFor (Zdi (eOp uIx (eVar 4) (eUn uNeg (eC (.int 1))))) (Z0c 8) Z60)
   (sFz [7] (sApp 4 (eVar 7))))))
def Zlr:Sf:=(sSeq (sSet 4 (eLst (Z01 (eD1 (eC (.int 0)) (eC (.bl true))) aNil)))
   (sSeq (sFor (Z1z Z1n (Z01 (eSl uSl (eVar 2) (Zfl (eC (.int 1))) pNo) aNil)) (Z0c 5) Z61)
   (sRet (eVar 4))))
def Zaz:Ff:=runU Zgv.length Zlr
theorem Zr2 {f:Addr}{fd:FuncData}(F:Fun K "ways_back" "ways_back" Zay f fd)(B:Bl mg)(kt:Kt K)(T:Tx K mg){a_q9:Addr}{d_q9:FuncData}(c_q9:Fn P w K mg base (CX1 P w) 1 "differences" a_q9 d_q9 p_q9 (spU K mg wkT b_q9.length b_q9 F_q9)):FnOk P w K mg base (CX1 P w) 2 f fd Ze7 (spU K mg wkT Ze8.length Ze8 Zaz):=by
 have nd:=Zii.nd;refine F.okQ (N:=Zgv) (ps:=Ze7) (bs:=Ze8) (wk:=wkT) (m:=⟨[0,1,2,3],[4,7]⟩) (g:=Zlr) Zii rfl rfl (by decide) fun cdv A outer s H E W hK hm hw hr hA=>?_;subst hK;subst hm;have cx:=Z0n (W:=W) (P:=P) (w:=w) (base:=base) (N:=Zgv) (outer:=outer) (H:=H) (E:=E) rfl rfl hr;have hw_q9:wkT W:=trivial;exact(Z07 (Z3s 4 (fun ψ=>nd) (Z18 (qa_e (QO.te (Zi3 (QE.tb Z03) Z5o)) Z04)) (hs:=fun ψ=>Z27))
   (Z07 (Z1b cx Z0y (Z89 cx B (qa_e (Zsy cx (Z00 2) (Zko (QE.tb Z03)) Zkn) Z04)) (Z0i 5 (fun ψ=>nd)) (Z0a (Z0g 6 (fun ψ=>nd) (Z08 cx (fun ψ=>c_q9) (fun ψ=>hr.mono (by decide)) hw_q9 (qa_b (Z00 1) (qa_b (Z00 5) Z04))))
   (Z0a (Z3h 7 (fun ψ=>nd) Z77)
   (Z0a (Z1b cx Z0y (Zi5 (Z0w cx (Z00 4) (QE.tb (Z48 (QE.tb Z03))))) (Z0i 8 (fun ψ=>nd)) (Z09 (Z1b cx Z0y (qi_v 6 cx) (Z0i 9 (fun ψ=>nd)) (Z0a (Z0g 10 (fun ψ=>nd) (Z1a cx (QE.tb (Z55 (Z00 0) (Z00 8))) (Z00 9)) (hs:=fun ψ=>Z1q))
   (Z09 (Z1j (Zp8 (QE.tb (Z2j cx B (Z00 10))) (Z00 3)) (Z09 (Z3i 7 cx Z5o (Z00 10))) Z0m))))))
   (Zi6 [7] [4] (Z09 (Z4a 4 cx (Z0p 7))))))))
   (Z0x (Z0l (Z0p 4)))))
abbrev Zb0:Stmt:=top 16
abbrev Zgw:List Str:=["base","carries","digit","others","ways","onward","carry","other","whole","unlike"]
abbrev Zb1:List Str:=["base","carries","digit","others","ways"]
theorem Zij:Z0f Zgw Zb1 (Z02 Zb0):=⟨rfl,rfl,rfl,by decide +kernel,rfl,by decide +kernel,by decide +kernel⟩
abbrev Z8d:List Bool:=[true,true,true,true,true]
def Z3n:Sf:=(sSeq (sSet 8 (eOp uSub (eOp uAdd (eVar 6) (eVar 2)) (eVar 7)))
   (sSeq (sSet 9 (eOr (eOp uNe (eVar 6) (eC (.int 0))) (eOp uNe (eVar 2) (eVar 7))))
   (sIf (Z2s (tfB (eVar 9)) (Z2s (tfB (eOp uEq (eOp uMod (eVar 8) (eVar 0)) (eC (.int 0)))) (tfB (eOp (uDIn false) (eOp uDiv (eVar 8) (eVar 0)) (eVar 4))))) (Z2l 5 (eOp uDiv (eVar 8) (eVar 0)) (eC (.bl true))) Z0q)))
def Z62:Sf:=(sFor (iOf (eVar 3)) (Z0c 7) Z3n)
def Zls:Sf:=(sSeq (sSet 5 Z72)
   (sSeq (sFor (iOf (eVar 1)) (Z0c 6) Z62)
   (sRet (eB Z5c (Z01 (eVar 5) aNil)))))
def Z7l:Ff:=runU Zgw.length Zls
theorem Zr3 {f:Addr}{fd:FuncData}(F:Fun K "carried_on" "carried_on" Zb0 f fd)(B:Bl mg)(kt:Kt K)(T:Tx K mg)  : FnOk P w K mg base (CX1 P w) 1 f fd Zb1 (spU K mg wkT Z8d.length Z8d Z7l):=by
 have nd:=Zij.nd;refine F.okQ (N:=Zgw) (ps:=Zb1) (bs:=Z8d) (wk:=wkT) (m:=⟨[0,1,2,3,4],[5]⟩) (g:=Zls) Zij rfl rfl (by decide) fun cdv A outer s H E W hK hm hw hr hA=>?_;subst hK;subst hm;have cx:=Z0n (W:=W) (P:=P) (w:=w) (base:=base) (N:=Zgw) (outer:=outer) (H:=H) (E:=E) rfl rfl hr;exact(Z07 (Z3h 5 (fun ψ=>nd) Z77)
   (Z07 (Z1b cx Z0y (qi_v 1 cx) (Z0i 6 (fun ψ=>nd)) (Z09 (Z1b cx Z0y (qi_v 3 cx) (Z0i 7 (fun ψ=>nd)) (Z0a (Z0g 8 (fun ψ=>nd) (Z1x (QE.tb (Z1a cx (Z00 6) (Z00 2))) (Z00 7)) (hs:=fun ψ=>Z1q))
   (Z0a (Z0g 9 (fun ψ=>nd) (Zpb (QE.tb (Zp7 cx (Z00 6) (QE.tb Z03))) (Zco (Zp7 cx (Z00 2) (Z00 7)))))
   (Z09 (Z1j (QW.t (Z49 (Zcn (Z00 9)) (Z49 (Z4t cx (QE.tb (Z2h (Z00 8) (Z00 0))) (QE.tb Z03)) (Z3e (Zi4 cx (QE.tb (Z3r (Z00 8) (Z00 0))) (Z00 4)))))) (Z09 (Z3i 5 cx Z5o (QE.tb (Z3r (Z00 8) (Z00 0))))) Z0m)))))))
   (Z0x (Z0l (QF.te (Zgm cx B (Z00 5)))))))
abbrev Zb2:Stmt:=top 15
abbrev Zgx:List Str:=["base","carries","digits","others","ways","digit"]
abbrev Ze9:List Str:=["base","carries","digits","others","ways"]
theorem Zik:Z0f Zgx Ze9 (Z02 Zb2):=⟨rfl,rfl,rfl,by decide +kernel,rfl,by decide +kernel,by decide +kernel⟩
abbrev Zea:List Bool:=[true,true,true,true,true]
def Z4l:Sf:=(sIf (tfB (eOp uGt (eB uLen (Z01 (Z0b Z7l (Z01 (eVar 0) (Z01 (eVar 1) (Z01 (eVar 5) (Z01 (eVar 3) (Z01 (eVar 4) aNil)))))) aNil)) (eC (.int 0)))) (sRet (eVar 5)) Z0q)
def Zlt:Sf:=(sSeq (sFor (iOf (eVar 2)) (Z0c 5) Z4l)
   (sRet (eC .non)))
def Zeb:Ff:=runU Zgx.length Zlt
theorem Zr4 {f:Addr}{fd:FuncData}(F:Fun K "first_digit" "first_digit" Zb2 f fd)(B:Bl mg)(kt:Kt K)(T:Tx K mg){a_q13:Addr}{d_q13:FuncData}(c_q13:Fn P w K mg base (CX1 P w) 1 "carried_on" a_q13 d_q13 Zb1 (spU K mg wkT Z8d.length Z8d Z7l)):FnOk P w K mg base (CX1 P w) 2 f fd Ze9 (spU K mg wkT Zea.length Zea Zeb):=by
 have nd:=Zik.nd;refine F.okQ (N:=Zgx) (ps:=Ze9) (bs:=Zea) (wk:=wkT) (m:=⟨[0,1,2,3,4],[]⟩) (g:=Zlt) Zik rfl rfl (by decide) fun cdv A outer s H E W hK hm hw hr hA=>?_;subst hK;subst hm;have cx:=Z0n (W:=W) (P:=P) (w:=w) (base:=base) (N:=Zgx) (outer:=outer) (H:=H) (E:=E) rfl rfl hr;have hw_q13:wkT W:=trivial;exact(Z07 (Z1b cx Z0y (qi_v 2 cx) (Z0i 5 (fun ψ=>nd)) (Z09 (Z1j (Zac (QE.tb (Z28 cx B (QE.tb (Z08 cx (fun ψ=>c_q13) (fun ψ=>hr.mono (by decide)) hw_q13 (qa_b (Z00 0) (qa_b (Z00 1) (qa_b (Z00 5) (qa_b (Z00 3) (qa_b (Z00 4) Z04))))))))) (QE.tb Z03)) (Z09 (Z0l (Z0p 5))) Z0m)))
   (Z0x (Z0l Zcl)))
abbrev s_q7:Stmt:=top 13
abbrev N_q7:List Str:=["base","digits","beside","reach","going_on","ended","row","carries","place","others","behind","digit"]
abbrev p_q7:List Str:=["base","digits","beside"]
theorem Zr5:Z0f N_q7 p_q7 (Z02 s_q7):=⟨rfl,rfl,rfl,by decide +kernel,rfl,by decide +kernel,by decide +kernel⟩
abbrev b_q7:List Bool:=[true,true,false]
def Z7m:Sf:=(sSeq (sSet 10 (eOp uSub (eOp uSub (eB uLen (Z01 (eVar 2) aNil)) (eVar 8)) (eC (.int 1))))
   (sSeq (sIf (tfB (eOp uGt (eB uLen (Z01 (Z0b Z7l (Z01 (eVar 0) (Z01 (eVar 7) (Z01 (eC (.int 0)) (Z01 (eVar 9) (Z01 (eOp uIx (eVar 5) (eVar 10)) aNil)))))) aNil)) (eC (.int 0)))) sBrk Z0q)
   (sSeq (sSet 11 (Z0b Zeb (Z01 (eVar 0) (Z01 (eVar 7) (Z01 (eVar 1) (Z01 (eVar 9) (Z01 (eOp uIx (eVar 4) (eVar 10)) aNil)))))))
   (sSeq (sSet 7 (Z0b Z7l (Z01 (eVar 0) (Z01 (eVar 7) (Z01 (eVar 11) (Z01 (eVar 9) (Z01 (eOp uIx (eVar 4) (eVar 10)) aNil)))))))
   (sApp 6 (eVar 11))))))
def g_q7:Sf:=(sSeq (sSet 3 (Z0b Z4k (Z01 (eVar 0) (Z01 (Z0b F_q9 (Z01 (eVar 1) (Z01 (eVar 1) aNil))) aNil))))
   (sSeq (sSet 4 (Z0b Zaz (Z01 (eVar 0) (Z01 (eVar 1) (Z01 (eVar 2) (Z01 (eVar 3) aNil))))))
   (sSeq (sSet 5 (Z0b Zaz (Z01 (eVar 0) (Z01 (eTup (Z01 (eC (.int 0)) aNil)) (Z01 (eVar 2) (Z01 (eVar 3) aNil))))))
   (sSeq (sSet 6 (eLst aNil))
   (sSeq (sSet 7 (eLst (Z01 (eC (.int 0)) aNil)))
   (sSeq (sFor (Z1z Z5b (Z01 (eVar 2) aNil)) (aTup 2 (Z25 (Z0c 8) (Z25 (Z0c 9) Z6s))) Z7m)
   (sRet (eB Z2g (Z01 (eVar 6) aNil)))))))))
def F_q7:Ff:=runU N_q7.length g_q7
theorem Zte {f:Addr}{fd:FuncData}(F:Fun K "first_beside" "first_beside" s_q7 f fd)(B:Bl mg)(kt:Kt K)(T:Tx K mg){a_q21:Addr}{d_q21:FuncData}(c_q21:Fn P w K mg base (CX1 P w) 2 "reach_of" a_q21 d_q21 Z8c (spU K mg wkT Z5z.length Z5z Z4k)){a_q18:Addr}{d_q18:FuncData}(c_q18:Fn P w K mg base (CX1 P w) 2 "ways_back" a_q18 d_q18 Ze7 (spU K mg wkT Ze8.length Ze8 Zaz)){a_q9:Addr}{d_q9:FuncData}(c_q9:Fn P w K mg base (CX1 P w) 1 "differences" a_q9 d_q9 p_q9 (spU K mg wkT b_q9.length b_q9 F_q9)){a_q11:Addr}{d_q11:FuncData}(c_q11:Fn P w K mg base (CX1 P w) 2 "first_digit" a_q11 d_q11 Ze9 (spU K mg wkT Zea.length Zea Zeb)){a_q13:Addr}{d_q13:FuncData}(c_q13:Fn P w K mg base (CX1 P w) 1 "carried_on" a_q13 d_q13 Zb1 (spU K mg wkT Z8d.length Z8d Z7l)):FnOk P w K mg base (CX1 P w) 3 f fd p_q7 (spU K mg wkT b_q7.length b_q7 F_q7):=by
 have nd:=Zr5.nd;refine F.okQ (N:=N_q7) (ps:=p_q7) (bs:=b_q7) (wk:=wkT) (m:=⟨[0,1],[6]⟩) (g:=g_q7) Zr5 rfl rfl (by decide) fun cdv A outer s H E W hK hm hw hr hA=>?_;subst hK;subst hm;have cx:=Z0n (W:=W) (P:=P) (w:=w) (base:=base) (N:=N_q7) (outer:=outer) (H:=H) (E:=E) rfl rfl hr;have hw_q21:wkT W:=trivial;have hw_q18:wkT W:=trivial;have hw_q9:wkT W:=trivial;have hw_q11:wkT W:=trivial;have hw_q13:wkT W:=trivial;exact(Z07 (Z0g 3 (fun ψ=>nd) (Z08 cx (fun ψ=>c_q21) (fun ψ=>hr.mono (by decide)) hw_q21 (qa_b (Z00 0) (qa_b (QE.tb (Z08 cx (fun ψ=>c_q9) (fun ψ=>hr.mono (by decide)) hw_q9 (qa_b (Z00 1) (qa_b (Z00 1) Z04)))) Z04))))
   (Z07 (Z0g 4 (fun ψ=>nd) (Z08 cx (fun ψ=>c_q18) (fun ψ=>hr.mono (by decide)) hw_q18 (qa_b (Z00 0) (qa_b (Z00 1) (qa_b (Z00 2) (qa_b (Z00 3) Z04))))))
   (Z07 (Z0g 5 (fun ψ=>nd) (Z08 cx (fun ψ=>c_q18) (fun ψ=>hr.mono (by decide)) hw_q18 (qa_b (Z00 0) (qa_b (QE.tb (Z2i (qa_e Z03 Z04))) (qa_b (Z00 2) (qa_b (Z00 3) Z04))))))
   (Z07 (Z3s 6 (fun ψ=>nd) (Z18 Z04) (hs:=fun ψ=>Z27))
   (Z07 (Z0g 7 (fun ψ=>nd) (QF.te (Z18 (qa_e Z03 Z04))) (hs:=fun ψ=>Z27))
   (Z07 (Z1b cx Z0y (Zgk cx B (qa_e (Z0p 2) Z04)) (Zpf (n:=2) cx (Z3z (Z0i 8 (fun ψ=>nd)) (Z3z (Z0i 9 (fun ψ=>nd)) Zcr))) (Z0a (Z0g 10 (fun ψ=>nd) (Z1x (QE.tb (Z1x (QE.tb (Z28 cx B (Z00 2))) (Z00 8))) (QE.tb Z03)) (hs:=fun ψ=>Z1q))
   (Z0a (Z1j (Zac (QE.tb (Z28 cx B (QE.tb (Z08 cx (fun ψ=>c_q13) (fun ψ=>hr.mono (by decide)) hw_q13 (qa_b (Z00 0) (qa_b (Z00 7) (qa_b (QE.tb Z03) (qa_b (Z00 9) (qa_b (QE.tb (Z0w cx (Z00 5) (Z00 10))) Z04))))))))) (QE.tb Z03)) (Z09 Zpk) Z0m)
   (Z0a (Z0g 11 (fun ψ=>nd) (Z08 cx (fun ψ=>c_q11) (fun ψ=>hr.mono (by decide)) hw_q11 (qa_b (Z00 0) (qa_b (Z00 7) (qa_b (Z00 1) (qa_b (Z00 9) (qa_b (QE.tb (Z0w cx (Z00 4) (Z00 10))) Z04)))))))
   (Z0a (Z0g 7 (fun ψ=>nd) (Z08 cx (fun ψ=>c_q13) (fun ψ=>hr.mono (by decide)) hw_q13 (qa_b (Z00 0) (qa_b (Z00 7) (qa_b (Z00 11) (qa_b (Z00 9) (qa_b (QE.tb (Z0w cx (Z00 4) (Z00 10))) Z04)))))))
   (Z09 (Z4a 6 cx (Z0p 11))))))))
   (Z0x (Z0l (Z31 cx B (Z00 6))))))))))
abbrev Zb3:Stmt:=top 10
abbrev Zgy:List Str:=["base","digits","many","one","other"]
abbrev Zec:List Str:=["base","digits"]
theorem Zil:Z0f Zgy Zec (Z02 Zb3):=⟨rfl,rfl,rfl,by decide +kernel,rfl,by decide +kernel,by decide +kernel⟩
abbrev Zed:List Bool:=[true,false]
def Zlu:Sf:=(sSeq (sSet 2 (Z0b F_q5 (Z01 (eVar 0) (Z01 (eVar 1) aNil))))
   (sSeq (sSet 3 (Z0b F_q7 (Z01 (eVar 0) (Z01 (eVar 1) (Z01 (eOp uRep (eLst (Z01 (eVar 1) aNil)) (eVar 2)) aNil)))))
   (sSeq (sSet 4 (Z0b F_q7 (Z01 (eVar 0) (Z01 (eVar 1) (Z01 (Z3d (Z1z uR1 (Z01 (eVar 2) aNil)) 1 [3] (Z0c 0) Z1m (eTup (Z01 (Z0b Zas (Z01 (eVar 1) (Z01 (eVar 0) aNil))) aNil))) aNil)))))
   (sRet (eTup (Z01 (eVar 3) (Z01 (eVar 4) aNil)))))))
def Zee:Ff:=runU Zgy.length Zlu
theorem Zr6 {f:Addr}{fd:FuncData}(F:Fun K "first_pair" "first_pair" Zb3 f fd)(B:Bl mg)(kt:Kt K)(T:Tx K mg){a_q5:Addr}{d_q5:FuncData}(c_q5:Fn P w K mg base (CX1 P w) 3 "shortest_pair" a_q5 d_q5 p_q5 (spU K mg wkT b_q5.length b_q5 F_q5)){a_q7:Addr}{d_q7:FuncData}(c_q7:Fn P w K mg base (CX1 P w) 3 "first_beside" a_q7 d_q7 p_q7 (spU K mg wkT b_q7.length b_q7 F_q7)){a_q19:Addr}{d_q19:FuncData}(c_q19:Fn P w K mg base (CX1 P w) 1 "digit_at" a_q19 d_q19 Ze5 (spU K mg wkT Ze6.length Ze6 Zas)):FnOk P w K mg base (CX1 P w) 4 f fd Zec (spU K mg wkT Zed.length Zed Zee):=by
 have nd:=Zil.nd;refine F.okQ (N:=Zgy) (ps:=Zec) (bs:=Zed) (wk:=wkT) (m:=⟨[0],[]⟩) (g:=Zlu) Zil rfl rfl (by decide) fun cdv A outer s H E W hK hm hw hr hA=>?_;subst hK;subst hm;have cx:=Z0n (W:=W) (P:=P) (w:=w) (base:=base) (N:=Zgy) (outer:=outer) (H:=H) (E:=E) rfl rfl hr;have hw_q5:wkT W:=trivial;have hw_q7:wkT W:=trivial;have hw_q19:wkT W:=trivial;exact(Z07 (Z0g 2 (fun ψ=>nd) (Z08 cx (fun ψ=>c_q5) (fun ψ=>hr.mono (by decide)) hw_q5 (qa_b (Z00 0) (qa_b (Z00 1) Z04))))
   (Z07 (Z0g 3 (fun ψ=>nd) (Z08 cx (fun ψ=>c_q7) (fun ψ=>hr.mono (by decide)) hw_q7 (qa_b (Z00 0) (qa_b (Z00 1) (qa_e (Zp4 (QF.tb (Z18 (qa_e (Z0p 1) Z04))) (Z00 2)) Z04)))))
   (Z07 (Z0g 4 (fun ψ=>nd) (Z08 cx (fun ψ=>c_q7) (fun ψ=>hr.mono (by decide)) hw_q7 (qa_b (Z00 0) (qa_b (Z00 1) (qa_e (QF.te (Z3f (bs:=["place"]) ⟨[],[]⟩ cx (Z2r rfl (by rfl) rfl (by rfl) (by rfl) (.cons rfl .nil) (.cons (j:=3) rfl (by first | exact .inl rfl | exact .inr rfl) rfl (by first | exact .inl rfl | exact .inr rfl) .nil)) (Zkq cx B (qa_b (Z00 2) Z04)) (Z0i 0 (fun ψ=>(show(["place","one"]:List Str).Nodup by decide +kernel))) Z4b (Z2i (qa_e (Z08 cx.blk (fun ψ=>c_q19) (fun ψ=>hr.mono (by decide)) hw_q19 (qa_b (Z00 1) (qa_b (Z00 0) Z04))) Z04)))) Z04)))))
   (Z0x (Z0l (Z2i (qa_e (Z0p 3) (qa_e (Z0p 4) Z04))))))))
abbrev Zb4:Stmt:=top 9
abbrev Zgz:List Str:=["base","by_rest","number","row","left","digit"]
abbrev Zef:List Str:=["base","by_rest","number"]
theorem Zim:Z0f Zgz Zef (Z02 Zb4):=⟨rfl,rfl,rfl,by decide +kernel,rfl,by decide +kernel,by decide +kernel⟩
abbrev Zeg:List Bool:=[true,true,false]
def Z63:Sf:=(sSeq (sSet 5 (eOp Z4g (eVar 1) (eOp uMod (eVar 4) (eVar 0))))
   (sSeq (sApp 3 (eVar 5))
   (sSet 4 (eOp uDiv (eOp uSub (eVar 4) (eVar 5)) (eVar 0)))))
def Zlv:Sf:=(sSeq (sSet 3 (eLst aNil))
   (sSeq (sSet 4 (eVar 2))
   (sSeq (sWh (tfB (eOp uNe (eVar 4) (eC (.int 0)))) Z63)
   (sRet (eB Z2g (Z01 (eVar 3) aNil))))))
def Zeh:Ff:=runU Zgz.length Zlv
theorem Zr7 {f:Addr}{fd:FuncData}(F:Fun K "only_row" "only_row" Zb4 f fd)(B:Bl mg)(kt:Kt K)(T:Tx K mg)  : FnOk P w K mg base (CX1 P w) 1 f fd Zef (spU K mg wkT Zeg.length Zeg Zeh):=by
 have nd:=Zim.nd;refine F.okQ (N:=Zgz) (ps:=Zef) (bs:=Zeg) (wk:=wkT) (m:=⟨[0,1],[3]⟩) (g:=Zlv) Zim rfl rfl (by decide) fun cdv A outer s H E W hK hm hw hr hA=>?_;subst hK;subst hm;have cx:=Z0n (W:=W) (P:=P) (w:=w) (base:=base) (N:=Zgz) (outer:=outer) (H:=H) (E:=E) rfl rfl hr;exact(Z07 (Z3s 3 (fun ψ=>nd) (Z18 Z04) (hs:=fun ψ=>Z27))
   (Z07 (Z0g 4 (fun ψ=>nd) (Z0p 2))
   (Z07 (Z5p Z0y (Zfr cx (Z00 4) (QE.tb Z03)) (Z0a (Z0g 5 (fun ψ=>nd) (Z87 cx (Z00 1) (QE.tb (Z2h (Z00 4) (Z00 0)))) (hs:=fun ψ=>Zcc))
   (Z0a (Z4a 3 cx (Z0p 5))
   (Z09 (Z0g 4 (fun ψ=>nd) (Z3r (QE.tb (Z1x (Z00 4) (Z00 5))) (Z00 0)) (hs:=fun ψ=>Z1q))))))
   (Z0x (Z0l (Z31 cx B (Z00 3)))))))
abbrev s_q6:Stmt:=top 8
abbrev N_q6:List Str:=["base","digits","by_rest","digit","farthest","paper","number"]
abbrev p_q6:List Str:=["base","digits"]
theorem Zr8:Z0f N_q6 p_q6 (Z02 s_q6):=⟨rfl,rfl,rfl,by decide +kernel,rfl,by decide +kernel,by decide +kernel⟩
abbrev b_q6:List Bool:=[true,true]
def Z9k:Sf:=(Z2l 2 (eOp uMod (eVar 3) (eVar 0)) (eVar 3))
def Z9l:Sf:=(Z2l 5 (eVar 6) (Z0b Zeh (Z01 (eVar 0) (Z01 (eVar 2) (Z01 (eVar 6) aNil)))))
def g_q6:Sf:=(sSeq (sSet 2 Z72)
   (sSeq (sFor (iOf (eVar 1)) (Z0c 3) Z9k)
   (sSeq (sSet 4 (Z0b Z4j (Z01 (eVar 1) aNil)))
   (sSeq (sSet 5 Z72)
   (sSeq (sFor (Z1z uR2 (Z01 (eUn uNeg (eVar 4)) (Z01 (eOp uAdd (eVar 4) (eC (.int 1))) aNil))) (Z0c 6) Z9l)
   (sRet (eVar 5)))))))
def F_q6:Ff:=runU N_q6.length g_q6
theorem Ztf {f:Addr}{fd:FuncData}(F:Fun K "written_paper" "written_paper" s_q6 f fd)(B:Bl mg)(kt:Kt K)(T:Tx K mg){a_q10:Addr}{d_q10:FuncData}(c_q10:Fn P w K mg base (CX1 P w) 1 "farthest_of" a_q10 d_q10 Zaw (spU K mg wkT Z8b.length Z8b Z4j)){a_q20:Addr}{d_q20:FuncData}(c_q20:Fn P w K mg base (CX1 P w) 1 "only_row" a_q20 d_q20 Zef (spU K mg wkT Zeg.length Zeg Zeh)):FnOk P w K mg base (CX1 P w) 2 f fd p_q6 (spU K mg wkT b_q6.length b_q6 F_q6):=by
 have nd:=Zr8.nd;refine F.okQ (N:=N_q6) (ps:=p_q6) (bs:=b_q6) (wk:=wkT) (m:=⟨[0,1],[2,5]⟩) (g:=g_q6) Zr8 rfl rfl (by decide) fun cdv A outer s H E W hK hm hw hr hA=>?_;subst hK;subst hm;have cx:=Z0n (W:=W) (P:=P) (w:=w) (base:=base) (N:=N_q6) (outer:=outer) (H:=H) (E:=E) rfl rfl hr;have hw_q10:wkT W:=trivial;have hw_q20:wkT W:=trivial;exact(Z07 (Z3h 2 (fun ψ=>nd) Z77)
   (Z07 (Z1b cx Z0y (qi_v 1 cx) (Z0i 3 (fun ψ=>nd)) (Z09 (Z3i 2 cx (Z0p 3) (QE.tb (Z2h (Z00 3) (Z00 0))))))
   (Z07 (Z0g 4 (fun ψ=>nd) (Z08 cx (fun ψ=>c_q10) (fun ψ=>hr.mono (by decide)) hw_q10 (qa_b (Z00 1) Z04)))
   (Z07 (Z3h 5 (fun ψ=>nd) Z77)
   (Z07 (Z1b cx Z0y (Zkr cx B (qa_b (QE.tb (Z48 (Z00 4))) (qa_b (QE.tb (Z1a cx (Z00 4) (QE.tb Z03))) Z04))) (Z0i 6 (fun ψ=>nd)) (Z09 (Z3i 5 cx (Z08 cx (fun ψ=>c_q20) (fun ψ=>hr.mono (by decide)) hw_q20 (qa_b (Z00 0) (qa_b (Z00 2) (qa_e (Z0p 6) Z04)))) (Z00 6))))
   (Z0x (Z0l (Z0p 5))))))))
abbrev s_q4:Stmt:=top 3
abbrev N_q4:List Str:=["base","digits","chosen","lacking","pair"]
abbrev p_q4:List Str:=["base","digits"]
theorem Zr9:Z0f N_q4 p_q4 (Z02 s_q4):=⟨rfl,rfl,rfl,by decide +kernel,rfl,by decide +kernel,by decide +kernel⟩
abbrev b_q4:List Bool:=[true,true]
def g_q4:Sf:=(sSeq (sSet 2 (eB Z2g (Z01 (eB Z29 (Z01 (eVar 1) aNil)) aNil)))
   (sSeq (sSet 3 (Z0b F_q3 (Z01 (eVar 0) (Z01 (eVar 2) aNil))))
   (sSeq (sIf (tfB (eOp (uIs true) (eVar 3) (eC .non))) (sRet (eTup (Z01 (eC (.str "lacks")) (Z01 (eVar 3) aNil)))) Z0q)
   (sSeq (sIf (tfB (eOp uEq (eB uLen (Z01 (eVar 2) aNil)) (eVar 0))) (sRet (eTup (Z01 (eC (.str "each")) (Z01 (Z0b F_q6 (Z01 (eVar 0) (Z01 (eVar 2) aNil))) aNil)))) Z0q)
   (sSeq (sSet 4 (Z0b Zee (Z01 (eVar 0) (Z01 (eVar 2) aNil))))
   (sRet (eTup (Z01 (eC (.str "twice")) (Z01 (eOp uIx (eVar 4) (eC (.int 0))) (Z01 (eOp uIx (eVar 4) (eC (.int 1))) aNil))))))))))
def F_q4:Ff:=runU N_q4.length g_q4
theorem Ztg {f:Addr}{fd:FuncData}(F:Fun K "judged_digits" "judged_digits" s_q4 f fd)(B:Bl mg)(kt:Kt K)(T:Tx K mg){a_q3:Addr}{d_q3:FuncData}(c_q3:Fn P w K mg base (CX1 P w) 3 "first_lacking" a_q3 d_q3 p_q3 (spU K mg wkT b_q3.length b_q3 F_q3)){a_q14:Addr}{d_q14:FuncData}(c_q14:Fn P w K mg base (CX1 P w) 4 "first_pair" a_q14 d_q14 Zec (spU K mg wkT Zed.length Zed Zee)){a_q6:Addr}{d_q6:FuncData}(c_q6:Fn P w K mg base (CX1 P w) 2 "written_paper" a_q6 d_q6 p_q6 (spU K mg wkT b_q6.length b_q6 F_q6)):FnOk P w K mg base (CX1 P w) 5 f fd p_q4 (spU K mg wkT b_q4.length b_q4 F_q4):=by
 have nd:=Zr9.nd;refine F.okQ (N:=N_q4) (ps:=p_q4) (bs:=b_q4) (wk:=wkT) (m:=⟨[0,1],[]⟩) (g:=g_q4) Zr9 rfl rfl (by decide) fun cdv A outer s H E W hK hm hw hr hA=>?_;subst hK;subst hm;have cx:=Z0n (W:=W) (P:=P) (w:=w) (base:=base) (N:=N_q4) (outer:=outer) (H:=H) (E:=E) rfl rfl hr;have hw_q3:wkT W:=trivial;have hw_q14:wkT W:=trivial;have hw_q6:wkT W:=trivial;exact(Z07 (Z0g 2 (fun ψ=>nd) (Z31 cx B (QF.tb (Zd6 cx B (Z00 1)))))
   (Z07 (Z0g 3 (fun ψ=>nd) (Z08 cx (fun ψ=>c_q3) (fun ψ=>hr.mono (by decide)) hw_q3 (qa_b (Z00 0) (qa_b (Z00 2) Z04))))
   (Z07 (Z1j (Zfs (Z00 3) (QE.tb Zcl)) (Z09 (Z0l (Z2i (qa_e Z46 (qa_e (Z0p 3) Z04))))) Z0m)
   (Z07 (Z1j (Z4t cx (QE.tb (Z28 cx B (Z00 2))) (Z00 0)) (Z09 (Z0l (Z2i (qa_e Z46 (qa_e (Z08 cx (fun ψ=>c_q6) (fun ψ=>hr.mono (by decide)) hw_q6 (qa_b (Z00 0) (qa_b (Z00 2) Z04))) Z04))))) Z0m)
   (Z07 (Z0g 4 (fun ψ=>nd) (Z08 cx (fun ψ=>c_q14) (fun ψ=>hr.mono (by decide)) hw_q14 (qa_b (Z00 0) (qa_e (Z0p 2) Z04))))
   (Z0x (Z0l (Z2i (qa_e Z46 (qa_e (Z0w cx (Z00 4) (QE.tb Z03)) (qa_e (Z0w cx (Z00 4) (QE.tb Z03)) Z04)))))))))))
abbrev Zb5:Stmt:=top 18
abbrev Zh0:List Str:=["script"]
abbrev Zei:List Str:=["script"]
theorem Zin:Z0f Zh0 Zei (Z02 Zb5):=⟨rfl,rfl,rfl,by decide +kernel,rfl,by decide +kernel,by decide +kernel⟩
abbrev Zej:List Bool:=[false]
def Zlw:Sf:=(sRet (eLst (Z01 (eVar 0) (Z01 (eC (.int 0)) (Z01 (eC (.int 0)) (Z01 (eC (.int 40213)) (Z01 (eC (.int 0)) aNil)))))))
def Zb6:Ff:=runU Zh0.length Zlw
theorem Zra {f:Addr}{fd:FuncData}(F:Fun K "_law_pile" "_law_pile" Zb5 f fd)(B:Bl mg)(kt:Kt K)(T:Tx K mg)  : FnOk P w K mg base (CX1 P w) 1 f fd Zei (spU K mg wkT Zej.length Zej Zb6):=by
 have nd:=Zin.nd;refine F.okQ (N:=Zh0) (ps:=Zei) (bs:=Zej) (wk:=wkT) (m:=⟨[],[]⟩) (g:=Zlw) Zin rfl rfl (by decide) fun cdv A outer s H E W hK hm hw hr hA=>?_;subst hK;subst hm;have cx:=Z0n (W:=W) (P:=P) (w:=w) (base:=base) (N:=Zh0) (outer:=outer) (H:=H) (E:=E) rfl rfl hr;exact(Z0x (Z0l (QF.te (Z18 (qa_e (Z0p 0) (qa_e Z03 (qa_e Z03 (qa_e Z03 (qa_e Z03 Z04)))))))))
abbrev Zb7:Stmt:=top 19
abbrev Zh1:List Str:=["pile","most","found","cell"]
abbrev Zb8:List Str:=["pile","most"]
theorem Zio:Z0f Zh1 Zb8 (Z02 Zb7):=⟨rfl,rfl,rfl,by decide +kernel,rfl,by decide +kernel,by decide +kernel⟩
abbrev Z8e:List Bool:=[true,true]
def Zlx:Sf:=(sSeq (sIf (tfB (eOp uGt (ePl 0 1) (eC (.int 0)))) (sSeq (sSet 2 (eOp uMod (ePl 0 1) (eVar 1)))
   (sSeq (sPl 0 1 (eOp uDiv (ePl 0 1) (eVar 1)))
   (sRet (eVar 2)))) Z0q)
   (sSeq (sIf (tfB (eOp uLt (ePl 0 0) (Z6x 0))) (sSeq (sSet 3 (Zd1 0 0))
   (sSeq (sPl 0 0 (eOp uAdd (ePl 0 0) (eC (.int 1))))
   (sSeq (sPl 0 2 (eOp uMod (eOp uAdd (eOp uMul (ePl 0 2) (eC (.int 69069))) (eVar 3)) (eC (.int 2147483629))))
   (sSeq (sIf (tfB (eOp uGe (eB uAbs (Z01 (eVar 3) aNil)) (eOp uPow (eC (.int 10)) (eC (.int 18))))) (sSeq (sPl 0 1 (eOp uDiv (eB uAbs (Z01 (eVar 3) aNil)) (eVar 1)))
   (sRet (eOp uMod (eB uAbs (Z01 (eVar 3) aNil)) (eVar 1)))) Z0q)
   (sRet (eOp uMod (eVar 3) (eVar 1))))))) Z0q)
   (sSeq (sPl 0 3 (eOp uAdd (ePl 0 3) (eC (.int 1))))
   (sSeq (sPl 0 2 (eOp uMod (eOp uAdd (eOp uAdd (eOp uMul (ePl 0 2) (ePl 0 2)) (eOp uMul (eC (.int 40014)) (ePl 0 3))) (eC (.int 977))) (eC (.int 2147483629))))
   (sRet (eOp uMod (eOp uDiv (ePl 0 2) (eC (.int 16))) (eVar 1)))))))
def Z16:Ff:=runU Zh1.length Zlx
theorem Zrb {f:Addr}{fd:FuncData}(F:Fun K "_law_next" "_law_next" Zb7 f fd)(B:Bl mg)(kt:Kt K)(T:Tx K mg)  : FnOk P w K mg base (CX1 P w) 1 f fd Zb8 (spU K mg PlW Z8e.length Z8e Z16):=by
 have nd:=Zio.nd;refine F.okQ (N:=Zh1) (ps:=Zb8) (bs:=Z8e) (wk:=PlW) (m:=⟨[0,1],[]⟩) (g:=Zlx) Zio rfl rfl (by decide) fun cdv A outer s H E W hK hm hw hr hA=>?_;subst hK;subst hm;have cx:=Z0n (W:=W) (P:=P) (w:=w) (base:=base) (N:=Zh1) (outer:=outer) (H:=H) (E:=E) rfl rfl hr;exact(Z07 (Z1j (Zac (QE.tb (Z4c 0 1 hw cx)) (QE.tb Z03)) (Z0a (Z0g 2 (fun ψ=>nd) (Z2h (QE.tb (Z4c 0 1 hw cx)) (Z00 1)) (hs:=fun ψ=>Z1q))
   (Z0a (Zah 0 1 hw (Z3r (QE.tb (Z4c 0 1 hw cx)) (Z00 1)))
   (Z09 (Z0l (Z0p 2))))) Z0m)
   (Z07 (Z1j (Zcm (QE.tb (Z4c 0 0 hw cx)) (QE.tb (Zfy 0 hw cx B))) (Z0a (Z0g 3 (fun ψ=>nd) (Zl2 0 0 hw cx) (hs:=fun ψ=>Zcc))
   (Z0a (Zah 0 0 hw (Z1a cx (QE.tb (Z4c 0 0 hw cx)) (QE.tb Z03)))
   (Z0a (Zah 0 2 hw (Z2h (QE.tb (Z1a cx (QE.tb (Z55 (QE.tb (Z4c 0 2 hw cx)) (QE.tb Z03))) (Z00 3))) (QE.tb Z03)))
   (Z0a (Z1j (Zsv (QE.tb (Z2j cx B (Z00 3))) (QE.tb (Zp5 (QE.tb Z03) (QE.tb Z03)))) (Z0a (Zah 0 1 hw (Z3r (QE.tb (Z2j cx B (Z00 3))) (Z00 1)))
   (Z09 (Z0l (Z2h (QE.tb (Z2j cx B (Z00 3))) (Z00 1))))) Z0m)
   (Z09 (Z0l (Z2h (Z00 3) (Z00 1)))))))) Z0m)
   (Z07 (Zah 0 3 hw (Z1a cx (QE.tb (Z4c 0 3 hw cx)) (QE.tb Z03)))
   (Z07 (Zah 0 2 hw (Z2h (QE.tb (Z1a cx (QE.tb (Z1a cx (QE.tb (Z55 (QE.tb (Z4c 0 2 hw cx)) (QE.tb (Z4c 0 2 hw cx)))) (QE.tb (Z55 (QE.tb Z03) (QE.tb (Z4c 0 3 hw cx)))))) (QE.tb Z03))) (QE.tb Z03)))
   (Z0x (Z0l (Z2h (QE.tb (Z3r (QE.tb (Z4c 0 2 hw cx)) (QE.tb Z03))) (Z00 1))))))))
abbrev s_q2:Stmt:=top 21
abbrev N_q2:List Str:=["pile","some","left","found"]
abbrev p_q2:List Str:=["pile","some"]
theorem Zrc:Z0f N_q2 p_q2 (Z02 s_q2):=⟨rfl,rfl,rfl,by decide +kernel,rfl,by decide +kernel,by decide +kernel⟩
abbrev b_q2:List Bool:=[true,true]
def Z9m:Sf:=(Z4d 3 2 (Z0b Z16 (Z01 (eVar 0) (Z01 (eB uLen (Z01 (eVar 2) aNil)) aNil))))
def g_q2:Sf:=(sSeq (sSet 2 (eB Z7y (Z01 (eVar 1) aNil)))
   (sSeq (sSet 3 (eLst aNil))
   (sSeq (sWh (tfB (eOp uNe (eVar 2) (eLst aNil))) Z9m)
   (sRet (eB Z2g (Z01 (eVar 3) aNil))))))
def F_q2:Ff:=runU N_q2.length g_q2
theorem Zth {f:Addr}{fd:FuncData}(F:Fun K "_law_shuffled" "_law_shuffled" s_q2 f fd)(B:Bl mg)(kt:Kt K)(T:Tx K mg){a_q15:Addr}{d_q15:FuncData}(c_q15:Fn P w K mg base (CX1 P w) 1 "_law_next" a_q15 d_q15 Zb8 (spU K mg PlW Z8e.length Z8e Z16)):FnOk P w K mg base (CX1 P w) 2 f fd p_q2 (spU K mg PlW b_q2.length b_q2 F_q2):=by
 have nd:=Zrc.nd;refine F.okQ (N:=N_q2) (ps:=p_q2) (bs:=b_q2) (wk:=PlW) (m:=⟨[0,1],[2,3]⟩) (g:=g_q2) Zrc rfl rfl (by decide) fun cdv A outer s H E W hK hm hw hr hA=>?_;subst hK;subst hm;have cx:=Z0n (W:=W) (P:=P) (w:=w) (base:=base) (N:=N_q2) (outer:=outer) (H:=H) (E:=E) rfl rfl hr;have hw_q15:PlW W:=hw;exact(Z07 (Z3s 2 (fun ψ=>nd) (Zkp cx B (Z00 1)))
   (Z07 (Z3s 3 (fun ψ=>nd) (Z18 Z04) (hs:=fun ψ=>Z27))
   (Z07 (Z5p Z0y (Zfr cx (Z00 2) (QF.tb (Z18 Z04))) (Z09 (Zd3 3 2 cx (QE.tb (Z08 cx (fun ψ=>c_q15) (fun ψ=>hr.mono (by decide)) hw_q15 (qa_b (Z00 0) (qa_b (QE.tb (Z28 cx B (Z00 2))) Z04)))))))
   (Z0x (Z0l (Z31 cx B (Z00 3)))))))
abbrev s_q0:Stmt:=top 20
abbrev N_q0:List Str:=["pile","base","way","found","rest","at","one","low","k"]
abbrev p_q0:List Str:=["pile"]
theorem Zrd:Z0f N_q0 p_q0 (Z02 s_q0):=⟨rfl,rfl,rfl,by decide +kernel,rfl,by decide +kernel,by decide +kernel⟩
abbrev b_q0:List Bool:=[true]
def Z7n:Sf:=(sApp 3 (eOp uAdd (eVar 4) (eOp uMul (eVar 1) (eOp uIx (eLst (Z01 (eC (.int 0)) (Z01 (eUn uNeg (eC (.int 1))) (Z01 (eUn uNeg (eC (.int 1))) (Z01 (eC (.int 0)) (Z01 (eC (.int 1)) (Z01 (eUn uNeg (eC (.int 2))) aNil))))))) (Z0b Z16 (Z01 (eVar 0) (Z01 (eOp uIx (eLst (Z01 (eC (.int 4)) (Z01 (eC (.int 6)) aNil))) (eB uInt (Z01 (eOp uGt (eVar 2) (eC (.int 0))) aNil))) aNil)))))))
def Z4m:Sf:=(sSeq (sSet 6 (eOp uSub (Z0b Z16 (Z01 (eVar 0) (Z01 (eOp uIx (eLst (Z01 (eC (.int 7)) (Z01 (eC (.int 41)) aNil))) (Z0b Z16 (Z01 (eVar 0) (Z01 (eC (.int 2)) aNil)))) aNil))) (eOp uIx (eLst (Z01 (eC (.int 3)) (Z01 (eC (.int 20)) aNil))) (Z0b Z16 (Z01 (eVar 0) (Z01 (eC (.int 2)) aNil))))))
   (sIf (tfB (eOp (uIn true) (eVar 6) (eVar 3))) (sApp 3 (eVar 6)) Z0q))
def g_q0:Sf:=(sSeq (sSet 1 (eOp uIx (eLst (Z01 (eC (.int 2)) (Z01 (eC (.int 3)) (Z01 (eOp uAdd (eC (.int 2)) (Z0b Z16 (Z01 (eVar 0) (Z01 (eC (.int 5)) aNil)))) (Z01 (eOp uAdd (eC (.int 2)) (Z0b Z16 (Z01 (eVar 0) (Z01 (eC (.int 9)) aNil)))) aNil))))) (Z0b Z16 (Z01 (eVar 0) (Z01 (eC (.int 4)) aNil)))))
   (sSeq (sSet 2 (Z0b Z16 (Z01 (eVar 0) (Z01 (eC (.int 6)) aNil))))
   (sSeq (sSet 3 (eLst (Z01 (eC (.int 0)) aNil)))
   (sSeq (sIf (tfB (eOp uLt (eVar 2) (eC (.int 3)))) (sFor (Z1z uR2 (Z01 (eC (.int 1)) (Z01 (eVar 1) aNil))) (Z0c 4) Z7n) Z0q)
   (sSeq (sIf (tfB (eOp uEq (eVar 2) (eC (.int 2)))) (sSeq (sSet 5 (Z0b Z16 (Z01 (eVar 0) (Z01 (eB uLen (Z01 (eVar 3) aNil)) aNil))))
   (sSeq (sSet 6 (eOp uSub (eOp uAdd (eOp uIx (eVar 3) (eVar 5)) (Z0b Z16 (Z01 (eVar 0) (Z01 (eC (.int 5)) aNil)))) (eC (.int 2))))
   (sIf (Z2s (tfB (eOp uGt (eVar 5) (eC (.int 0)))) (tfB (eOp (uIn true) (eVar 6) (eVar 3)))) (sPut 3 (eVar 5) (eVar 6)) Z0q))) Z0q)
   (sSeq (sIf (tfB (eOp uEq (eVar 2) (eC (.int 3)))) (sSeq (sSet 7 (Z0b Z16 (Z01 (eVar 0) (Z01 (eVar 1) aNil))))
   (sSet 3 (eB Z4w (Z01 (eOp uSub (eC (.int 0)) (eVar 7)) (Z01 (eOp uAdd (eOp uSub (eVar 1) (eVar 7)) (Z0b Z16 (Z01 (eVar 0) (Z01 (eC (.int 3)) aNil)))) aNil))))) Z0q)
   (sSeq (sIf (tfB (eOp uGt (eVar 2) (eC (.int 3)))) (sFor (Z1z uR1 (Z01 (eOp uAdd (eC (.int 1)) (Z0b Z16 (Z01 (eVar 0) (Z01 (eOp uIx (eLst (Z01 (eC (.int 3)) (Z01 (eC (.int 8)) aNil))) (eOp uSub (eVar 2) (eC (.int 4)))) aNil)))) aNil)) (Z0c 8) Z4m) Z0q)
   (sSeq (sIf (tfB (eOp uLt (eB uLen (Z01 (eVar 3) aNil)) (eC (.int 2)))) (sApp 3 (eOp uIx (eLst (Z01 (eC (.int 1)) (Z01 (eUn uNeg (eC (.int 1))) aNil))) (Z0b Z16 (Z01 (eVar 0) (Z01 (eC (.int 2)) aNil))))) Z0q)
   (sRet (eLst (Z01 (eVar 1) (Z01 (Z0b F_q2 (Z01 (eVar 0) (Z01 (eVar 3) aNil))) aNil))))))))))))
def F_q0:Ff:=runU N_q0.length g_q0
theorem Zti {f:Addr}{fd:FuncData}(F:Fun K "_law_base_and_digits" "_law_base_and_digits" s_q0 f fd)(B:Bl mg)(kt:Kt K)(T:Tx K mg){a_q15:Addr}{d_q15:FuncData}(c_q15:Fn P w K mg base (CX1 P w) 1 "_law_next" a_q15 d_q15 Zb8 (spU K mg PlW Z8e.length Z8e Z16)){a_q2:Addr}{d_q2:FuncData}(c_q2:Fn P w K mg base (CX1 P w) 2 "_law_shuffled" a_q2 d_q2 p_q2 (spU K mg PlW b_q2.length b_q2 F_q2)):FnOk P w K mg base (CX1 P w) 3 f fd p_q0 (spU K mg PlW b_q0.length b_q0 F_q0):=by
 have nd:=Zrd.nd;refine F.okQ (N:=N_q0) (ps:=p_q0) (bs:=b_q0) (wk:=PlW) (m:=⟨[0],[3]⟩) (g:=g_q0) Zrd rfl rfl (by decide) fun cdv A outer s H E W hK hm hw hr hA=>?_;subst hK;subst hm;have cx:=Z0n (W:=W) (P:=P) (w:=w) (base:=base) (N:=N_q0) (outer:=outer) (H:=H) (E:=E) rfl rfl hr;have hw_q15:PlW W:=hw;have hw_q2:PlW W:=hw;exact(Z07 (Z0g 1 (fun ψ=>nd) (Z0w cx (QF.tb (Z18 (qa_e Z03 (qa_e Z03 (qa_e (Z1a cx (QE.tb Z03) (QE.tb (Z08 cx (fun ψ=>c_q15) (fun ψ=>hr.mono (by decide)) hw_q15 (qa_b (Z00 0) (qa_b (QE.tb Z03) Z04))))) (qa_e (Z1a cx (QE.tb Z03) (QE.tb (Z08 cx (fun ψ=>c_q15) (fun ψ=>hr.mono (by decide)) hw_q15 (qa_b (Z00 0) (qa_b (QE.tb Z03) Z04))))) Z04)))))) (QE.tb (Z08 cx (fun ψ=>c_q15) (fun ψ=>hr.mono (by decide)) hw_q15 (qa_b (Z00 0) (qa_b (QE.tb Z03) Z04))))) (hs:=fun ψ=>Zcc))
   (Z07 (Z0g 2 (fun ψ=>nd) (Z08 cx (fun ψ=>c_q15) (fun ψ=>hr.mono (by decide)) hw_q15 (qa_b (Z00 0) (qa_b (QE.tb Z03) Z04))))
   (Z07 (Z3s 3 (fun ψ=>nd) (Z18 (qa_e Z03 Z04)) (hs:=fun ψ=>Z27))
   (Z07 (Z1j (Zcm (Z00 2) (QE.tb Z03)) (Z09 (Z1b cx Z0y (Zkr cx B (qa_b (QE.tb Z03) (qa_b (Z00 1) Z04))) (Z0i 4 (fun ψ=>nd)) (Z09 (Z4a 3 cx (Z1a cx (Z00 4) (QE.tb (Z55 (Z00 1) (QE.tb (Z0w cx (QF.tb (Z18 (qa_e Z03 (qa_e (Z48 (QE.tb Z03)) (qa_e (Z48 (QE.tb Z03)) (qa_e Z03 (qa_e Z03 (qa_e (Z48 (QE.tb Z03)) Z04)))))))) (QE.tb (Z08 cx (fun ψ=>c_q15) (fun ψ=>hr.mono (by decide)) hw_q15 (qa_b (Z00 0) (qa_b (QE.tb (Z0w cx (QF.tb (Z18 (qa_e Z03 (qa_e Z03 Z04)))) (QE.tb (Zft cx B (QE.tb (Zkm (Z00 2) (QE.tb Z03))))))) Z04))))))))))))) Z0m)
   (Z07 (Z1j (Z4t cx (Z00 2) (QE.tb Z03)) (Z0a (Z0g 5 (fun ψ=>nd) (Z08 cx (fun ψ=>c_q15) (fun ψ=>hr.mono (by decide)) hw_q15 (qa_b (Z00 0) (qa_b (QE.tb (Z28 cx B (Z00 3))) Z04))))
   (Z0a (Z0g 6 (fun ψ=>nd) (Z1x (QE.tb (Z1a cx (QE.tb (Z0w cx (Z00 3) (Z00 5))) (QE.tb (Z08 cx (fun ψ=>c_q15) (fun ψ=>hr.mono (by decide)) hw_q15 (qa_b (Z00 0) (qa_b (QE.tb Z03) Z04)))))) (QE.tb Z03)) (hs:=fun ψ=>Z1q))
   (Z09 (Z1j (QW.t (Z49 (Zac (Z00 5) (QE.tb Z03)) (Z3e (Z93 cx (Z00 6) (Z00 3))))) (Z09 (Zph 3 (Z0p 6) (Z00 5))) Z0m)))) Z0m)
   (Z07 (Z1j (Z4t cx (Z00 2) (QE.tb Z03)) (Z0a (Z0g 7 (fun ψ=>nd) (Z08 cx (fun ψ=>c_q15) (fun ψ=>hr.mono (by decide)) hw_q15 (qa_b (Z00 0) (qa_b (Z00 1) Z04))))
   (Z09 (Z3s 3 (fun ψ=>nd) (Zcz cx B (qa_b (QE.tb (Z1x (QE.tb Z03) (Z00 7))) (qa_b (QE.tb (Z1a cx (QE.tb (Z1x (Z00 1) (Z00 7))) (QE.tb (Z08 cx (fun ψ=>c_q15) (fun ψ=>hr.mono (by decide)) hw_q15 (qa_b (Z00 0) (qa_b (QE.tb Z03) Z04)))))) Z04)))))) Z0m)
   (Z07 (Z1j (Zac (Z00 2) (QE.tb Z03)) (Z09 (Z1b cx Z0y (Zkq cx B (qa_b (QE.tb (Z1a cx (QE.tb Z03) (QE.tb (Z08 cx (fun ψ=>c_q15) (fun ψ=>hr.mono (by decide)) hw_q15 (qa_b (Z00 0) (qa_b (QE.tb (Z0w cx (QF.tb (Z18 (qa_e Z03 (qa_e Z03 Z04)))) (QE.tb (Z1x (Z00 2) (QE.tb Z03))))) Z04)))))) Z04)) (Z0i 8 (fun ψ=>nd)) (Z0a (Z0g 6 (fun ψ=>nd) (Z1x (QE.tb (Z08 cx (fun ψ=>c_q15) (fun ψ=>hr.mono (by decide)) hw_q15 (qa_b (Z00 0) (qa_b (QE.tb (Z0w cx (QF.tb (Z18 (qa_e Z03 (qa_e Z03 Z04)))) (QE.tb (Z08 cx (fun ψ=>c_q15) (fun ψ=>hr.mono (by decide)) hw_q15 (qa_b (Z00 0) (qa_b (QE.tb Z03) Z04)))))) Z04)))) (QE.tb (Z0w cx (QF.tb (Z18 (qa_e Z03 (qa_e Z03 Z04)))) (QE.tb (Z08 cx (fun ψ=>c_q15) (fun ψ=>hr.mono (by decide)) hw_q15 (qa_b (Z00 0) (qa_b (QE.tb Z03) Z04))))))) (hs:=fun ψ=>Z1q))
   (Z09 (Z1j (Z93 cx (Z00 6) (Z00 3)) (Z09 (Z4a 3 cx (Z0p 6))) Z0m))))) Z0m)
   (Z07 (Z1j (Zcm (QE.tb (Z28 cx B (Z00 3))) (QE.tb Z03)) (Z09 (Z4a 3 cx (Z0w cx (QF.tb (Z18 (qa_e Z03 (qa_e (Z48 (QE.tb Z03)) Z04)))) (QE.tb (Z08 cx (fun ψ=>c_q15) (fun ψ=>hr.mono (by decide)) hw_q15 (qa_b (Z00 0) (qa_b (QE.tb Z03) Z04))))))) Z0m)
   (Z0x (Z0l (QF.te (Z18 (qa_e (Z0p 1) (qa_e (Z08 cx (fun ψ=>c_q2) (fun ψ=>hr.mono (by decide)) hw_q2 (qa_b (Z00 0) (qa_b (Z00 3) Z04))) Z04))))))))))))))
abbrev Zb9:Stmt:=top 22
abbrev Zh2:List Str:=["row"]
abbrev Zba:List Str:=["row"]
theorem Zip:Z0f Zh2 Zba (Z02 Zb9):=⟨rfl,rfl,rfl,by decide +kernel,rfl,by decide +kernel,by decide +kernel⟩
abbrev Z8f:List Bool:=[true]
def Zly:Sf:=(sRet (eB Z2g (Z01 (Z3d (iOf (eVar 0)) 1 [] (Z0c 0) Z1m (eOp uSub (eC (.int 0)) (eVar 0))) aNil)))
def Z64:Ff:=runU Zh2.length Zly
theorem Zre {f:Addr}{fd:FuncData}(F:Fun K "_law_over" "_law_over" Zb9 f fd)(B:Bl mg)(kt:Kt K)(T:Tx K mg)  : FnOk P w K mg base (CX1 P w) 1 f fd Zba (spU K mg wkT Z8f.length Z8f Z64):=by
 have nd:=Zip.nd;refine F.okQ (N:=Zh2) (ps:=Zba) (bs:=Z8f) (wk:=wkT) (m:=⟨[0],[]⟩) (g:=Zly) Zip rfl rfl (by decide) fun cdv A outer s H E W hK hm hw hr hA=>?_;subst hK;subst hm;have cx:=Z0n (W:=W) (P:=P) (w:=w) (base:=base) (N:=Zh2) (outer:=outer) (H:=H) (E:=E) rfl rfl hr;exact(Z0x (Z0l (Z31 cx B (QF.tb (Z3f (bs:=["digit"]) ⟨[],[]⟩ cx (Z2r rfl (by rfl) rfl (by rfl) (by rfl) .nil .nil) (qi_v 0 cx) (Z0i 0 (fun ψ=>(show(["digit"]:List Str).Nodup by decide +kernel))) Z4b (Z1x (QE.tb Z03) (Z00 0)))))))
abbrev s_q8:Stmt:=top 23
abbrev N_q8:List Str:=["told"]
abbrev p_q8:List Str:=["told"]
theorem Zrf:Z0f N_q8 p_q8 (Z02 s_q8):=⟨rfl,rfl,rfl,by decide +kernel,rfl,by decide +kernel,by decide +kernel⟩
abbrev b_q8:List Bool:=[true]
def g_q8:Sf:=(sRet (eB Zaa (Z01 (eB uLen (Z01 (eOp uIx (eVar 0) (eC (.int 1))) aNil)) (Z01 (eB uLen (Z01 (eOp uIx (eVar 0) (eC (.int 2))) aNil)) aNil))))
def F_q8:Ff:=runU N_q8.length g_q8
theorem Ztj {f:Addr}{fd:FuncData}(F:Fun K "_law_longer" "_law_longer" s_q8 f fd)(B:Bl mg)(kt:Kt K)(T:Tx K mg)  : FnOk P w K mg base (CX1 P w) 1 f fd p_q8 (spU K mg wkT b_q8.length b_q8 F_q8):=by
 have nd:=Zrf.nd;refine F.okQ (N:=N_q8) (ps:=p_q8) (bs:=b_q8) (wk:=wkT) (m:=⟨[0],[]⟩) (g:=g_q8) Zrf rfl rfl (by decide) fun cdv A outer s H E W hK hm hw hr hA=>?_;subst hK;subst hm;have cx:=Z0n (W:=W) (P:=P) (w:=w) (base:=base) (N:=N_q8) (outer:=outer) (H:=H) (E:=E) rfl rfl hr;exact(Z0x (Z0l (Zcq cx B (qa_b (QE.tb (Z28 cx B (QE.tb (Z0w cx (Z00 0) (QE.tb Z03))))) (qa_b (QE.tb (Z28 cx B (QE.tb (Z0w cx (Z00 0) (QE.tb Z03))))) Z04)))))
abbrev s_q1:Stmt:=top 24
abbrev N_q1:List Str:=["told","other"]
abbrev p_q1:List Str:=["told","other"]
theorem Zrg:Z0f N_q1 p_q1 (Z02 s_q1):=⟨rfl,rfl,rfl,by decide +kernel,rfl,by decide +kernel,by decide +kernel⟩
abbrev b_q1:List Bool:=[true,true]
def g_q1:Sf:=(sSeq (sIf (tfB (eOp uNe (eOp uIx (eVar 0) (eC (.int 0))) (eOp uIx (eVar 1) (eC (.int 0))))) (sRet (eC (.bl false))) Z0q)
   (sSeq (sIf (tfB (eOp uEq (eOp uIx (eVar 0) (eC (.int 0))) (eC (.str "lacks")))) (sRet (eAnd (eOp uEq (eB uAbs (Z01 (eOp uIx (eVar 0) (eC (.int 1))) aNil)) (eB uAbs (Z01 (eOp uIx (eVar 1) (eC (.int 1))) aNil))) (eOr (eOp uGt (eOp uIx (eVar 0) (eC (.int 1))) (eC (.int 0))) (eOp uGt (eOp uIx (eVar 1) (eC (.int 1))) (eC (.int 0)))))) Z0q)
   (sSeq (sIf (tfB (eOp uEq (eOp uIx (eVar 0) (eC (.int 0))) (eC (.str "twice")))) (sRet (eOp uEq (Z0b F_q8 (Z01 (eVar 0) aNil)) (Z0b F_q8 (Z01 (eVar 1) aNil)))) Z0q)
   (sRet (eOp (uEqD false) (eOp uIx (eVar 1) (eC (.int 1))) (eB uDOf (Z01 (Z3d (Zdi (eOp uIx (eVar 0) (eC (.int 1)))) 1 [0] (Z0c 0) Z1m (eTup (Z01 (eOp uSub (eC (.int 0)) (eVar 0)) (Z01 (Z0b Z64 (Z01 (eOp Z4g (eOp uIx (eVar 1) (eC (.int 1))) (eVar 0)) aNil)) aNil)))) aNil)))))))
def F_q1:Ff:=runU N_q1.length g_q1
theorem Ztk {f:Addr}{fd:FuncData}(F:Fun K "_law_turned_right" "_law_turned_right" s_q1 f fd)(B:Bl mg)(kt:Kt K)(T:Tx K mg){a_q8:Addr}{d_q8:FuncData}(c_q8:Fn P w K mg base (CX1 P w) 1 "_law_longer" a_q8 d_q8 p_q8 (spU K mg wkT b_q8.length b_q8 F_q8)){a_q16:Addr}{d_q16:FuncData}(c_q16:Fn P w K mg base (CX1 P w) 1 "_law_over" a_q16 d_q16 Zba (spU K mg wkT Z8f.length Z8f Z64)):FnOk P w K mg base (CX1 P w) 2 f fd p_q1 (spU K mg wkT b_q1.length b_q1 F_q1):=by
 have nd:=Zrg.nd;refine F.okQ (N:=N_q1) (ps:=p_q1) (bs:=b_q1) (wk:=wkT) (m:=⟨[0,1],[]⟩) (g:=g_q1) Zrg rfl rfl (by decide) fun cdv A outer s H E W hK hm hw hr hA=>?_;subst hK;subst hm;have cx:=Z0n (W:=W) (P:=P) (w:=w) (base:=base) (N:=N_q1) (outer:=outer) (H:=H) (E:=E) rfl rfl hr;have hw_q8:wkT W:=trivial;have hw_q16:wkT W:=trivial;exact(Z07 (Z1j (Zfr cx (QE.tb (Z0w cx (Z00 0) (QE.tb Z03))) (QE.tb (Z0w cx (Z00 1) (QE.tb Z03)))) (Z09 (Z0l Z5o)) Z0m)
   (Z07 (Z1j (Z4t cx (QE.tb (Z0w cx (Z00 0) (QE.tb Z03))) (QE.tb Z46)) (Z09 (Z0l (Zpa (QE.tb (Zp6 cx (QE.tb (Z2j cx B (QE.tb (Z0w cx (Z00 0) (QE.tb Z03))))) (QE.tb (Z2j cx B (QE.tb (Z0w cx (Z00 1) (QE.tb Z03))))))) (Zco (Zpb (QE.tb (Zkm (QE.tb (Z0w cx (Z00 0) (QE.tb Z03))) (QE.tb Z03))) (Zco (Zkm (QE.tb (Z0w cx (Z00 1) (QE.tb Z03))) (QE.tb Z03)))))))) Z0m)
   (Z07 (Z1j (Z4t cx (QE.tb (Z0w cx (Z00 0) (QE.tb Z03))) (QE.tb Z46)) (Z09 (Z0l (Zp6 cx (QE.tb (Z08 cx (fun ψ=>c_q8) (fun ψ=>hr.mono (by decide)) hw_q8 (qa_b (Z00 0) Z04))) (QE.tb (Z08 cx (fun ψ=>c_q8) (fun ψ=>hr.mono (by decide)) hw_q8 (qa_b (Z00 1) Z04)))))) Z0m)
   (Z0x (Z0l (Zqc cx (QE.tb (Z0w cx (Z00 1) (QE.tb Z03))) (QO.tb (Zql cx B (QF.tb (Z3f (bs:=["number"]) ⟨[1],[]⟩ cx (Z2r rfl (by rfl) rfl (by rfl) (by rfl) (.cons rfl .nil) (.cons (j:=0) rfl (by first | exact .inl rfl | exact .inr rfl) rfl (by first | exact .inl rfl | exact .inr rfl) .nil)) (Zi5 (Z0w cx (Z00 0) (QE.tb Z03))) (Z0i 0 (fun ψ=>(show(["number","told"]:List Str).Nodup by decide +kernel))) Z4b (Z2i (qa_e (Z1x (QE.tb Z03) (Z00 0)) (qa_e (Z08 cx.blk (fun ψ=>c_q16) (fun ψ=>hr.mono (by decide)) hw_q16 (qa_b (QE.tb (Z87 cx.blk (QE.tb (Z0w cx.blk (Z00 1) (QE.tb Z03))) (Z00 0))) Z04)) Z04)))))))))))))
abbrev Z65:Stmt:=top 25
abbrev Z8g:List Str:=["script","pile","turn","told","base","digits","more"]
abbrev Zrh:List Str:=["script"]
theorem Ziq:Z0f Z8g Zrh (Z02 Z65):=⟨rfl,rfl,rfl,by decide +kernel,rfl,by decide +kernel,by decide +kernel⟩
def Z3o:Sf:=(sSeq (sAsg (aLst 2 (Z25 (Z0c 4) (Z25 (Z0c 5) Z6s))) (Z0b F_q0 (Z01 (eVar 1) aNil)))
   (sSeq (sSet 3 (Z0b F_q4 (Z01 (eVar 4) (Z01 (eVar 5) aNil))))
   (sSeq (sIf (tfB (eOp uNeJ (Z0b F_q4 (Z01 (eVar 4) (Z01 (Z0b F_q2 (Z01 (eVar 1) (Z01 (eVar 5) aNil))) aNil))) (eVar 3))) (sRet (eC (.bl false))) Z0q)
   (sSeq (sIf (Z6p (tfB (Z0b F_q1 (Z01 (eVar 3) (Z01 (Z0b F_q4 (Z01 (eVar 4) (Z01 (Z0b Z64 (Z01 (eVar 5) aNil)) aNil))) aNil))))) (sRet (eC (.bl false))) Z0q)
   (sIf (tfB (eOp uEq (eOp uIx (eVar 3) (eC (.int 0))) (eC (.str "lacks")))) (sSeq (sSet 6 (Z0b F_q4 (Z01 (eVar 4) (Z01 (eOp uAdd (eVar 5) (eTup (Z01 (eOp uIx (eVar 3) (eC (.int 1))) aNil))) aNil))))
   (sIf (Z2s (tfB (eOp uEq (eOp uIx (eVar 6) (eC (.int 0))) (eC (.str "lacks")))) (tfOr (tfB (eOp uLt (eB uAbs (Z01 (eOp uIx (eVar 6) (eC (.int 1))) aNil)) (eB uAbs (Z01 (eOp uIx (eVar 3) (eC (.int 1))) aNil)))) (tfB (eOp uEq (eOp uIx (eVar 6) (eC (.int 1))) (eOp uIx (eVar 3) (eC (.int 1))))))) (sRet (eC (.bl false))) Z0q)) Z0q)))))
def Zh3:Sf:=(sSeq (sFor (Z1z uR1 (Z01 (eC (.int 3)) aNil)) (Z0c 2) Z3o)
   (sRet (eC (.bl true))))
abbrev Z4n:List Int:=[0,0,40213,0]
theorem Zri {f:Addr}{fd:FuncData}(F:Fun K "law" "law" Z65 f fd)(B:Bl mg)(kt:Kt K)(T:Tx K mg){a_q17:Addr}{d_q17:FuncData}(c_q17:Fn P w K mg base (CX1 P w) 1 "_law_pile" a_q17 d_q17 Zei (spU K mg wkT Zej.length Zej Zb6)){a_q0:Addr}{d_q0:FuncData}(c_q0:Fn P w K mg base (CX1 P w) 3 "_law_base_and_digits" a_q0 d_q0 p_q0 (spU K mg PlW b_q0.length b_q0 F_q0)){a_q4:Addr}{d_q4:FuncData}(c_q4:Fn P w K mg base (CX1 P w) 5 "judged_digits" a_q4 d_q4 p_q4 (spU K mg wkT b_q4.length b_q4 F_q4)){a_q1:Addr}{d_q1:FuncData}(c_q1:Fn P w K mg base (CX1 P w) 2 "_law_turned_right" a_q1 d_q1 p_q1 (spU K mg wkT b_q1.length b_q1 F_q1)){a_q2:Addr}{d_q2:FuncData}(c_q2:Fn P w K mg base (CX1 P w) 2 "_law_shuffled" a_q2 d_q2 p_q2 (spU K mg PlW b_q2.length b_q2 F_q2)){a_q16:Addr}{d_q16:FuncData}(c_q16:Fn P w K mg base (CX1 P w) 1 "_law_over" a_q16 d_q16 Zba (spU K mg wkT Z8f.length Z8f Z64))(hFp:∀ ns ω,Zb6 [.scr ns] ω=.ok (.lst (.scr ns::Z4n.map U.int)) ω)(hlaw:∀ ns:List Int,ns.length<=63->∃ ω',endF (Zh3 (none::some .pile::List.replicate (Z8g.length-2) none) ⟨ns,Z4n⟩)=.ok (.bl true) ω'):FnOk P w K mg base (CX1 P w) 6 f fd Zrh (Zag K):=by
 have nd:=Ziq.nd;refine F.okP (N:=Z8g) (m:=⟨[],[]⟩) (g:=Zh3) (Fp:=Zb6) (cells:=Z4n) Ziq rfl (by decide) (by decide) (fun cdv A outer s H E hr hA=>?_) (fun cdv A outer s H E W hK hm hw hr hA=>?_) hFp hlaw
 ·have cx:=Z0n (W:=wd0 K mg) (P:=P) (w:=w) (base:=base) (N:=Z8g) (outer:=outer) (H:=H) (E:=E) rfl rfl hr;have hw_q17:wkT (wd0 K mg):=trivial;exact(Z0g 1 (fun ψ=>nd) (Z08 cx (fun ψ=>c_q17) (fun ψ=>hr.mono (by decide)) hw_q17 (qa_e (Z0p 0) Z04)))
 ·subst hK;subst hm;have cx:=Z0n (W:=W) (P:=P) (w:=w) (base:=base) (N:=Z8g) (outer:=outer) (H:=H) (E:=E) rfl rfl hr;have hw_q17:wkT W:=trivial;have hw_q0:PlW W:=hw;have hw_q4:wkT W:=trivial;have hw_q1:wkT W:=trivial;have hw_q2:PlW W:=hw;have hw_q16:wkT W:=trivial;exact(Z07 (Z1b cx Z0y (Zkq cx B (qa_b (QE.tb Z03) Z04)) (Z0i 2 (fun ψ=>nd)) (Z0a (Zpg (Z08 cx (fun ψ=>c_q0) (fun ψ=>hr.mono (by decide)) hw_q0 (qa_b (Z00 1) Z04)) (Zpw (n:=2) cx (Z3z (Z0i 4 (fun ψ=>nd)) (Z3z (Z0i 5 (fun ψ=>nd)) Zcr))))
   (Z0a (Z0g 3 (fun ψ=>nd) (Z08 cx (fun ψ=>c_q4) (fun ψ=>hr.mono (by decide)) hw_q4 (qa_b (Z00 4) (qa_b (Z00 5) Z04))))
   (Z0a (Z1j (Zqu cx (QE.tb (Z08 cx (fun ψ=>c_q4) (fun ψ=>hr.mono (by decide)) hw_q4 (qa_b (Z00 4) (qa_b (QE.tb (Z08 cx (fun ψ=>c_q2) (fun ψ=>hr.mono (by decide)) hw_q2 (qa_b (Z00 1) (qa_b (Z00 5) Z04)))) Z04)))) (Z00 3)) (Z09 (Z0l Z5o)) Z0m)
   (Z0a (Z1j (Zht (Zcn (QE.tb (Z08 cx (fun ψ=>c_q1) (fun ψ=>hr.mono (by decide)) hw_q1 (qa_b (Z00 3) (qa_b (QE.tb (Z08 cx (fun ψ=>c_q4) (fun ψ=>hr.mono (by decide)) hw_q4 (qa_b (Z00 4) (qa_b (QE.tb (Z08 cx (fun ψ=>c_q16) (fun ψ=>hr.mono (by decide)) hw_q16 (qa_b (Z00 5) Z04))) Z04)))) Z04)))))) (Z09 (Z0l Z5o)) Z0m)
   (Z09 (Z1j (Z4t cx (QE.tb (Z0w cx (Z00 3) (QE.tb Z03))) (QE.tb Z46)) (Z0a (Z0g 6 (fun ψ=>nd) (Z08 cx (fun ψ=>c_q4) (fun ψ=>hr.mono (by decide)) hw_q4 (qa_b (Z00 4) (qa_b (QE.tb (Z1a cx (Z00 5) (QE.tb (Z2i (qa_e (Z0w cx (Z00 3) (QE.tb Z03)) Z04))))) Z04))))
   (Z09 (Z1j (QW.t (Z49 (Z4t cx (QE.tb (Z0w cx (Z00 6) (QE.tb Z03))) (QE.tb Z46)) (Z3e (QW.t (Zsw (Zcm (QE.tb (Z2j cx B (QE.tb (Z0w cx (Z00 6) (QE.tb Z03))))) (QE.tb (Z2j cx B (QE.tb (Z0w cx (Z00 3) (QE.tb Z03)))))) (Zp9 (Z4t cx (QE.tb (Z0w cx (Z00 6) (QE.tb Z03))) (QE.tb (Z0w cx (Z00 3) (QE.tb Z03)))))))))) (Z09 (Z0l Z5o)) Z0m))) Z0m)))))))
   (Z0x (Z0l Z5o)))
end
end EvBlock
section EvBlock
local macro_rules | `(tactic| walk_at "ev") => do
  let js1 <- ("List.length_cons List.length_nil List.length_append List.length_map List.length_replicate List.length_reverse List.length_take List.length_drop rngU_len List.length_range".splitOn " ").toArray.mapM fun s => `(Lean.Parser.Tactic.simpLemma| $(Lean.mkIdent s.toName):term)
  let ls <- ("uListD_I uEnumL_l uSortE_I asSeq_l sFz_ap dropFl_nx dropFl_rt dropFl_err dropE_nil dropE_cons sDPutU_ap dputA_ok asDO_I uDGet_I uDIn_t uDIn_f eDGet1_ap asD_I uGt1_i eDNew_ap eD1_ap uD1_i iDicU_ap two_t uReversed_t uReversed_l isNon_d aLst_ap sSeq_then thenF_nx thenF_rt thenF_err runU_end endF_rt endF_nx endF_err sNext_ap sBrk_ap sIf_ap sSet_ap sRet_ap sAug_ap sApp_ap sPut_ap sAsg_ap sFor_ap stepU_ap aName_ap aTup_ap aNilT_ap aConsT_ap eVar_ap eC_ap eOp_ap eUn_ap eAnd_ap eOr_ap eIf_ap eTup_ap eLst_ap eB_ap eCall_ap eSl_ap eComp_ap cstU_ap tfB_ap tfAnd_ap tfOr_ap tfNot_ap tfTrue_ap aNil_ap aCons_ap pNo_ap pSome_ap iOf_ap iArgs_ap asB_r asI_r asSeq_l asSeq_t asOk_ok Res.bnd_ok Res.bnd_err Res.bnd_stk Res.of_some Res.of_none Fl.of_ok Fl.of_err Fl.of_stk List.getElem?_cons_zero List.getElem?_cons_succ List.set_cons_zero List.set_cons_succ List.map_cons List.map_nil List.length_cons List.length_nil List.length_map List.cons_append List.nil_append List.replicate Nat.zero_add uIx_l uIx_t uAdd_i uSub_r uNeg_r uLt_r uLe_r uGt_r uGe_r uIs_r isNon_n isNon_i isNon_b isNon_t isNon_l isNon_s isNon_x uLen_l uLen_t uLen_s uTuple_l uTuple_t uList_l uList_t uList_s uMax2_r uAbs_r uInt_i uInt_b uEq_ii uNe_ii uAddI_r uDiv_s uMod_s uMul_r uMul_l uPow_s mkT_s mkL_s uAdd_l uAdd_t ite_lt ite_le uR1_s uR2_s ePl_ap ePlLen_ap ePlAt_ap sPl_ap uRngL_1 uRngL_2 uRngT_1 uRngT_2 uSorted_l uSorted_t uRep_t1 uRep_l1 atI_i2 atI_i3 atI_i4 atI_i5 atI_i6 atI_i7 atI_i8 atI_i10 uSl_l uSl_t uSlL_l atI_zero atI_one atI_end blkU_r Option.getD_some Option.getD_none Option.bind_some Option.bind_none Option.map_some decide_true decide_false Bool.not_true Bool.not_false if_true if_false Bool.false_eq_true Bool.true_eq_false decide_eq_true_eq Bool.not_eq_true' decide_eq_false_iff_not ne_eq not_true_eq_false not_false_eq_true Nat.reduceSub Nat.reduceAdd Nat.reduceLT Int.reduceEq Int.reduceLT Int.reduceLE Int.reduceAdd Int.reduceSub Int.reduceMul Int.reduceDiv Int.reduceMod reduceIte Int.reduceToNat Int.reducePow Int.reduceNeg".splitOn " ").toArray.mapM fun s => `(Lean.Parser.Tactic.simpLemma| $(Lean.mkIdent s.toName):term)
  `(tactic| try simp (disch := first | decide | lia | omega | (simp only [$js1,*]; first | lia | omega)) only [$ls,*])
abbrev ky (ps:Ps):List Int:=ps.map (·.1)
theorem Z23 {ps:Ps}{k z:Int}{u:U}:z∈ky (putI ps k u)↔z=k\/z∈ky ps:=by
 unfold ky;rw[<-Z1o,Z3k];by_cases c:z=k
 ·rw[if_pos c];simp[c]
 ·rw[if_neg c,Z1o];simp[c]
theorem Z2n:∀{xs ys:List Int},xs.Nodup->(∀ z∈xs,z∈ys)->xs.length<=ys.length
 |[],_,_,_=>Nat.zero_le _
 |x::xs,ys,n,h=>by
  have n':=List.nodup_cons.mp n;have hx:=h x (by simp);have:=Z2n (xs:=xs) (ys:=ys.erase x) n'.2 fun z hz=>(List.mem_erase_of_ne fun e=>n'.1 (by rw[<-e];exact hz)).mpr (h z (List.mem_cons_of_mem _ hz))
  rw[List.length_erase_of_mem hx]at this;have:=List.length_pos_of_mem hx
  simp;lia
theorem Z9n:∀{xs ys:List Int},xs.Pairwise (· < ·)->ys.Pairwise (· < ·)->(∀ z,z∈xs↔z∈ys)->xs=ys
 |[],[],_,_,_=>rfl
 |[],y::ys,_,_,h=>absurd ((h y).mpr (by simp)) (by simp)
 |x::xs,[],_,_,h=>absurd ((h x).mp (by simp)) (by simp)
 |x::xs,y::ys,p,q,h=>by
  have p':=List.pairwise_cons.mp p;have q':=List.pairwise_cons.mp q;have e:x=y:=by
   rcases List.mem_cons.mp ((h x).mp (by simp))with z|z
   ·exact z
   ·rcases List.mem_cons.mp ((h y).mpr (by simp))with w|w
    ·exact w.symm
    ·have:=q'.1 x z;have:=p'.1 y w;lia
  subst e;congr 1;refine Z9n p'.2 q'.2 fun z=>⟨fun hz=>?_,fun hz=>?_⟩
  ·rcases List.mem_cons.mp ((h z).mp (List.mem_cons_of_mem _ hz))with w|w
   ·have:=p'.1 z hz;lia
   ·exact w
  ·rcases List.mem_cons.mp ((h z).mpr (List.mem_cons_of_mem _ hz))with w|w
   ·have:=q'.1 z hz;lia
   ·exact w
def IsD (xs ys:List Int) (z:Int):Prop:=∃ x∈xs,∃ y∈ys,z=y-x
theorem Zir (A0 A1:Option U) (x:Int)(ω:Om):∀(l:List Int)(ps:Ps)(y4:Option U),(ky ps).Nodup->l.length+ps.length<=9000 ->
  ∃(ps':Ps)(y4':Option U),forU (Z0r (Z0c 4) Z9i) (l.map U.int) [A0,A1,some (dicI ps),some (.int x),y4] ω=.nx [A0,A1,some (dicI ps'),some (.int x),y4'] ω/\(ky ps').Nodup/\(∀ z,z∈ky ps'↔z∈ky ps\/∃ y∈l,z=y-x)/\ps'.length<=l.length+ps.length
 |[],ps,y4,n,_=>⟨ps,y4,rfl,n,fun z=>by simp,by simp⟩
 |y::l,ps,y4,n,hl=>by
  rw[List.length_cons]at hl;have pl:=Z98 (ps:=ps) (k:=y-x) (u:=.bl true);obtain⟨ps',y4',e,n',m,l'⟩:=Zir A0 A1 x ω l (putI ps (y-x) (.bl true)) (some (.int y)) (Z3j n) (by lia);refine⟨ps',y4',?_,n',fun z=>?_,by simp;lia⟩
  ·rw[List.map_cons,forU,Z9i];walk_at "ev";rw[<-Z9i];exact e
  ·rw[m z,Z23];constructor
   ·rintro((h|h)|⟨w,hw,h⟩)
    ·exact .inr ⟨y,by simp,h⟩
    ·exact .inl h
    ·exact .inr ⟨w,List.mem_cons_of_mem _ hw,h⟩
   ·rintro(h|⟨w,hw,h⟩)
    ·exact .inl (.inr h)
    ·rcases List.mem_cons.mp hw with rfl|hw
     ·exact .inl (.inl h)
     ·exact .inr ⟨w,hw,h⟩
theorem Zek (A0:Option U)(ys:List Int)(ω:Om):∀(l:List Int)(ps:Ps)(y3 y4:Option U),(ky ps).Nodup->ys.length<=60->l.length*60+ps.length<=9000 ->
  ∃(ps':Ps)(y3' y4':Option U),forU (Z0r (Z0c 3) Z9j) (l.map U.int) [A0,some (.tup (ys.map U.int)),some (dicI ps),y3,y4] ω=.nx [A0,some (.tup (ys.map U.int)),some (dicI ps'),y3',y4'] ω/\(ky ps').Nodup/\(∀ z,z∈ky ps'↔z∈ky ps\/IsD l ys z)
 |[],ps,y3,y4,n,_,_=>⟨ps,y3,y4,rfl,n,fun z=>by simp[IsD]⟩
 |x::l,ps,y3,y4,n,hy,hl=>by
  rw[List.length_cons]at hl;obtain⟨ps1,z4,e1,n1,m1,l1⟩:=Zir A0 (some (.tup (ys.map U.int))) x ω ys ps y4 n (by lia);obtain⟨ps',y3',y4',e,n',m⟩:=Zek A0 ys ω l ps1 (some (.int x)) z4 n1 hy (by lia);refine⟨ps',y3',y4',?_,n',fun z=>?_⟩
  ·rw[List.map_cons,forU,Z9j];walk_at "ev";rw[e1];simp only;rw[<-Z9j];exact e
  ·rw[m z,m1 z];unfold IsD;constructor
   ·rintro((h|⟨w,hw,h⟩)|⟨v,hv,w,hw,h⟩)
    ·exact .inl h
    ·exact .inr ⟨x,by simp,w,hw,h⟩
    ·exact .inr ⟨v,List.mem_cons_of_mem _ hv,w,hw,h⟩
   ·rintro(h|⟨v,hv,w,hw,h⟩)
    ·exact .inl (.inl h)
    ·rcases List.mem_cons.mp hv with rfl|hv
     ·exact .inl (.inr ⟨w,hw,h⟩)
     ·exact .inr ⟨v,hv,w,hw,h⟩
structure Dif (xs ys A:List Int):Prop where
 asc:A.Pairwise (· < ·)
 mem:∀ z,z∈A↔IsD xs ys z
theorem Dif.nd {xs ys A:List Int}(h:Dif xs ys A):A.Nodup:=h.asc.imp fun z=>by lia
theorem Ztl {xs ys:List Int}(hx:xs.length<=60)(hy:ys.length<=60){C:List Int}(hc:C.length<128)(sub:∀ z,IsD xs ys z->z∈C)(ω:Om):∃ A:List Int,F_q9 [.tup (xs.map U.int),.tup (ys.map U.int)] ω=.ok (.lst (A.map U.int)) ω/\Dif xs ys A:=by
 obtain⟨ps,y3,y4,e,n,m⟩:=Zek (some (.tup (xs.map U.int))) ys ω xs [] none none (by simp) hy (by simp;lia);have ln:ps.length<128:=by
  have:=Z2n (xs:=ky ps) (ys:=C) n fun z hz=>sub z (by have:=(m z).mp hz;simpa using this)
  simp at this;lia
 refine⟨srt (ky ps),?_,Z9f n,fun z=>?_⟩
 ·unfold F_q9 g_q9;walk_at "ev";rw[e];walk_at "ev";rw[uSortE_I ⟨by simpa using ln,n⟩];walk_at "ev"
 ·rw[Z11,m z];simp
theorem Zh4 (ds:List Int)(ω:Om):cmpU (cstU (Z0c 0) Z1m (eB uAbs (Z01 (eVar 0) aNil)) [none]) (ds.map U.int) ω=.ok ((ds.map iab).map U.int) ω:=by
 refine(Z1h (f:=fun d=>some (U.int (iab d))) fun x hx=>?_).trans (by rw[List.map_map,<-List.filterMap_eq_map];rfl);walk_at "ev";rfl
theorem Zlz {ds:List Int}(h:ds≠[]):Zaf [.lst ((ds.map iab).map U.int)]=some (.int (far ds)):=by
 cases ds with
 |nil=>exact absurd rfl h
 |cons d ds=>unfold Zaf Z2t;simp only;rw[Z14];rfl
theorem Zm0 {ds:List Int}(h:ds≠[])(hl:ds.length<=1000)(ω:Om):Z4j [.tup (ds.map U.int)] ω=.ok (.int (far ds)) ω:=by
 unfold Z4j Zgs;walk_at "ev";rw[Zh4];walk_at "ev";rw[Zlz h];walk_at "ev"
theorem Zm1 {b:Int}(b2:2<=b)(b1:b<1000){ds:List Int}(h:ds≠[])(hl:ds.length<=1000)(ω:Om):Z4k [.int b,.tup (ds.map U.int)] ω=.ok (.int (far ds/(b-1))) ω:=by
 unfold Z4k Zgu;walk_at "ev";rw[Zm0 h hl];walk_at "ev"
structure Gr (b R:Int)(ds:List Int)(ps:Ps)(fs:List Int):Prop where
 nd:(ps.map (·.1)).Nodup
 zr:(0:Int)∈ps.map (·.1)
 so:∀ k∈ps.map (·.1),Wr b ds k /\ -R<=k/\k<=R
 fr:∀ k∈fs,k∈ps.map (·.1)
theorem Gr.len {b R:Int}{ds:List Int}{ps:Ps}{fs:List Int}(h:Gr b R ds ps fs)(h0:0<=R):(ps.length:Int)<=2*R+1:=by
 have:=Z7j h.nd (a := -R) (b:=R) fun z hz=>(h.so z hz).2
 rw[List.length_map]at this;lia
abbrev ev11 (b:Int)(ds:List Int) (R:Int)(ps:Ps)(l5:Option U) (mn:Int)(fs:Option U)(y8 y9 y10:Option U):En:=[some (.int b),some (.tup (ds.map U.int)),some (.int R),some (.tup []),some (dicI ps),l5,some (.int mn),fs,y8,y9,y10]
theorem Zm2 {b R m mn:Int}(b2:2<=b)(b1:b<1000)(R0:0<=R)(R1:R<=4000){ds:List Int}(hm:Wr b ds m)(L5:Option U)(ω:Om):∀(xs:List Int)(ps:Ps)(fs:List Int)(y9 y10:Option U),(∀ d∈xs,d∈ds)->Gr b R ds ps fs->fs.length<=ps.length ->
  ∃(ps':Ps)(fs':List Int)(y9' y10':Option U),forU (Z0r (Z0c 9) Z1p) (xs.map U.int) (ev11 b ds R ps L5 mn (some (.lst (fs.map U.int))) (some (.int m)) y9 y10) ω=.nx (ev11 b ds R ps' L5 mn (some (.lst (fs'.map U.int))) (some (.int m)) y9' y10') ω /\
   Gr b R ds ps' fs'/\fs'.length<=ps'.length/\(∀ k∈ps.map (·.1),k∈ps'.map (·.1))/\(∀ k∈fs,k∈fs')/\(∀ d∈xs,-R<=d+b*m->d+b*m<=R->d+b*m∈ps'.map (·.1))/\(∀ k∈ps'.map (·.1),k∈ps.map (·.1)\/k∈fs')/\fs'.length+ps.length=fs.length+ps'.length/\fs.length<=fs'.length
 |[],ps,fs,y9,y10,_,h,hl=>⟨ps,fs,y9,y10,rfl,h,hl,fun ψ h=>h,fun ψ h=>h,fun ψ h=>absurd h (by simp),fun ψ h=>.inl h,by lia,by lia⟩
 |d::xs,ps,fs,y9,y10,hx,h,hl=>by
  have hlen:=h.len R0;have hd:=hx d (by simp);have hx':∀ e∈xs,e∈ds:=fun e he=>hx e (List.mem_cons_of_mem _ he);have stay:(¬ (iab (d+b*m)<=R)\/(d+b*m)∈ps.map (·.1))->Z0r (Z0c 9) Z1p (.int d) (ev11 b ds R ps L5 mn (some (.lst (fs.map U.int))) (some (.int m)) y9 y10) ω=.nx (ev11 b ds R ps L5 mn (some (.lst (fs.map U.int))) (some (.int m)) (some (.int d)) (some (.int (d+b*m)))) ω:=fun hc=>by
   rw[Z1p];unfold ev11;walk_at "ev";rw[show(if d+b*m<0 then -(d+b*m)else d+b*m)=iab (d+b*m)from rfl];by_cases c1:iab (d+b*m)<=R
   ·rw[if_pos c1];walk_at "ev";rw[Z1o.mpr (hc.resolve_left fun z=>z c1)];walk_at "ev"
   ·rw[if_neg c1];walk_at "ev"
  rw[List.map_cons,forU];by_cases hc:¬ (iab (d+b*m)<=R)\/(d+b*m)∈ps.map (·.1)
  ·rw[stay hc];obtain⟨ps',fs',y9',y10',e,g,l,s1,s2,s3,s4,s5,s6⟩:=Zm2 (mn:=mn) b2 b1 R0 R1 hm L5 ω xs ps fs (some (.int d)) (some (.int (d+b*m))) hx' h hl;refine⟨ps',fs',y9',y10',e,g,l,s1,s2,fun x hxm h1 h2=>?_,s4,s5,s6⟩;rcases List.mem_cons.mp hxm with rfl|hxm
   ·have ci:iab (x+b*m)<=R:=by unfold iab;split<;>lia
    exact s1 _ (hc.resolve_left fun z=>z ci)
   ·exact s3 x hxm h1 h2
  ·have c1:iab (d+b*m)<=R:=by
    by_cases z:iab (d+b*m)<=R
    ·exact z
    ·exact absurd (.inl z) hc
   have c2:(d+b*m)∉ps.map (·.1):=fun z=>hc (.inr z);have k1: -R<=d+b*m/\d+b*m<=R:=by unfold iab at c1;split at c1<;>lia
   have ep:putI ps (d+b*m) (.int mn)=ps++[(d+b*m,.int mn)]:=Z2f c2;have hkeys:(putI ps (d+b*m) (.int mn)).map (·.1)=ps.map (·.1)++[d+b*m]:=by rw[ep,List.map_append];rfl
   have hplen:(putI ps (d+b*m) (.int mn)).length=ps.length+1:=by rw[ep];simp
   have g':Gr b R ds (putI ps (d+b*m) (.int mn)) (fs++[d+b*m]):=by
    refine⟨Z3j h.nd,by rw[hkeys];exact List.mem_append_left _ h.zr,fun k hk=>?_,fun k hk=>?_⟩
    ·rw[hkeys]at hk;rcases List.mem_append.mp hk with hk|hk
     ·exact h.so k hk
     ·simp at hk;subst hk;exact⟨.step hm hd,k1⟩
    ·rw[hkeys];rcases List.mem_append.mp hk with hk|hk
     ·exact List.mem_append_left _ (h.fr k hk)
     ·exact List.mem_append_right _ hk
   have stp:Z0r (Z0c 9) Z1p (.int d) (ev11 b ds R ps L5 mn (some (.lst (fs.map U.int))) (some (.int m)) y9 y10) ω=.nx (ev11 b ds R (putI ps (d+b*m) (.int mn)) L5 mn (some (.lst ((fs++[d+b*m]).map U.int))) (some (.int m)) (some (.int d)) (some (.int (d+b*m)))) ω:=by
    rw[Z1p];unfold ev11;walk_at "ev";rw[show(if d+b*m<0 then -(d+b*m)else d+b*m)=iab (d+b*m)from rfl,if_pos c1];walk_at "ev";rw[Z35.mpr c2,show(none:Option U).isSome=false from rfl];walk_at "ev";rw[show fs.map U.int++[U.int (d+b*m)]=(fs++[d+b*m]).map U.int by simp]
   rw[stp];obtain⟨ps',fs',y9',y10',e,g,l,s1,s2,s3,s4,s5,s6⟩:=Zm2 (mn:=mn) b2 b1 R0 R1 hm L5 ω xs (putI ps (d+b*m) (.int mn)) (fs++[d+b*m]) (some (.int d)) (some (.int (d+b*m))) hx' g' (by rw[hplen];simp;lia);refine⟨ps',fs',y9',y10',e,g,l,fun k hk=>s1 k (by rw[hkeys];exact List.mem_append_left _ hk),fun k hk=>s2 k (List.mem_append_left _ hk),fun x hxm h1 h2=>?_,fun k hk=>?_,?_,?_⟩
   ·rcases List.mem_cons.mp hxm with rfl|hxm
    ·exact s1 _ (by rw[hkeys];simp)
    ·exact s3 x hxm h1 h2
   ·rcases s4 k hk with z|z
    ·rw[hkeys]at z;rcases List.mem_append.mp z with z|z
     ·exact .inl z
     ·exact .inr (s2 k (List.mem_append_right _ z))
    ·exact .inr z
   ·rw[hplen]at s5;simp at s5;lia
   ·simp at s6;lia
theorem Zis {b R mn:Int}(b2:2<=b)(b1:b<1000)(R0:0<=R)(R1:R<=4000){ds:List Int}(L5:Option U)(ω:Om):∀(ls:List Int)(ps:Ps)(fs:List Int)(y8 y9 y10:Option U),(∀ m∈ls,Wr b ds m)->Gr b R ds ps fs->fs.length<=ps.length ->
  ∃(ps':Ps)(fs':List Int)(y8' y9' y10':Option U),forU (Z0r (Z0c 8) Z2x) (ls.map U.int) (ev11 b ds R ps L5 mn (some (.lst (fs.map U.int))) y8 y9 y10) ω=.nx (ev11 b ds R ps' L5 mn (some (.lst (fs'.map U.int))) y8' y9' y10') ω /\
   Gr b R ds ps' fs'/\fs'.length<=ps'.length/\(∀ k∈ps.map (·.1),k∈ps'.map (·.1))/\(∀ k∈fs,k∈fs')/\(∀ m∈ls,∀ d∈ds,-R<=d+b*m->d+b*m<=R->d+b*m∈ps'.map (·.1))/\(∀ k∈ps'.map (·.1),k∈ps.map (·.1)\/k∈fs')/\fs'.length+ps.length=fs.length+ps'.length/\fs.length<=fs'.length
 |[],ps,fs,y8,y9,y10,_,h,hl=>⟨ps,fs,y8,y9,y10,rfl,h,hl,fun ψ h=>h,fun ψ h=>h,fun ψ h=>absurd h (by simp),fun ψ h=>.inl h,by lia,by lia⟩
 |m::ls,ps,fs,y8,y9,y10,hx,h,hl=>by
  obtain⟨ps1,fs1,z9,z10,e1,g1,l1,s1,s2,s3,s4,s5,s6⟩:=Zm2 (mn:=mn) b2 b1 R0 R1 (hx m (by simp)) L5 ω ds ps fs y9 y10 (fun ψ h=>h) h hl;obtain⟨ps2,fs2,w8,w9,w10,e2,g2,l2,t1,t2,t3,t4,t5,t6⟩:=Zis (mn:=mn) b2 b1 R0 R1 L5 ω ls ps1 fs1 (some (.int m)) z9 z10 (fun k hk=>hx k (List.mem_cons_of_mem _ hk)) g1 l1;refine⟨ps2,fs2,w8,w9,w10,?_,g2,l2,fun k hk=>t1 k (s1 k hk),fun k hk=>t2 k (s2 k hk),fun k hk d hd h1 h2=>?_,fun k hk=>?_,by lia,by lia⟩
  ·rw[List.map_cons,forU,Z2x];unfold ev11 at e1 e2 ⊢;walk_at "ev";rw[e1];rw[<-Z2x];exact e2
  ·rcases List.mem_cons.mp hk with rfl|hk
   ·exact t1 _ (s3 d hd h1 h2)
   ·exact t3 k hk d hd h1 h2
  ·rcases t4 k hk with z|z
   ·rcases s4 k z with z|z
    ·exact .inl z
    ·exact .inr (t2 k z)
   ·exact .inr z
theorem F_rl {b R:Int}(b2:2<=b)(b1:b<1000)(R0:0<=R)(R1:R<=4000){ds:List Int}(ω:Om):∃ ps:Ps,Z5y [.int b,.tup (ds.map U.int),.int R,.tup []] ω=.ok (dicI ps) ω/\Clo b R ds ps:=by
 unfold Z5y Zgq;walk_at "ev";have key:(fun f:Fl=>∃(ps:Ps) (mn:Int)(y8 y9 y10:Option U),f=.nx (ev11 b ds R ps (some (.lst [])) mn none y8 y9 y10) ω/\Clo b R ds ps) (sWh (Z2s (tfB (eOp uGt (eB uLen (Z01 (eVar 5) aNil)) (eC (.int 0)))) (Z6p (tfB (eB uAny (Z01 (Z3d (iOf (eVar 3)) 1 [4] (Z0c 0) Z1m (eOp (uDIn false) (eVar 0) (eVar 1))) aNil))))) Z4i (ev11 b ds R [(0,.int 0)] (some (.lst (([0]:List Int).map U.int))) 0 none none none none) ω):=by
  refine Zcj (K:=fun f:Fl=>∃(ps:Ps) (mn:Int)(y8 y9 y10:Option U),f=.nx (ev11 b ds R ps (some (.lst [])) mn none y8 y9 y10) ω/\Clo b R ds ps) (fun k ρ ω'=>ω'=ω/\∃(ps:Ps)(ls:List Int) (mn:Int)(y8 y9 y10:Option U),ρ=ev11 b ds R ps (some (.lst (ls.map U.int))) mn none y8 y9 y10/\Gr b R ds ps ls/\ls.length<=ps.length/\(∀ k∈ps.map (·.1),k∉ls->∀ d∈ds,-R<=d+b*k->d+b*k<=R->d+b*k∈ps.map (·.1))/\(k:Int)=2*(2*R+1-ps.length)+(if ls=[]then 0 else 1)) ?_ (2*(2*R+1-1)+1).toNat _ _ ⟨rfl,[(0,.int 0)],[0],0,none,none,none,rfl,⟨by simp,by simp,fun k hk=>?_,fun k hk=>by simpa using hk⟩,by simp,fun k hk hn=>?_,by simp;lia⟩
  ·rintro k ρ ω' ⟨rfl,ps,ls,mn,y8,y9,y10,rfl,g,hl,hcl,hk⟩;have hlen:=g.len R0;by_cases c:ls=[]
   ·subst c;refine .inl ⟨ω',?_,ps,mn,y8,y9,y10,rfl,g.nd,g.zr,g.so,fun k hk d hd h1 h2=>hcl k hk (by simp) d hd h1 h2⟩;unfold ev11;walk_at "ev";rfl
   ·have lp:0<ls.length:=List.length_pos_iff.mpr c;refine .inr ⟨ω',?_,.inl ?_⟩
    ·unfold ev11;walk_at "ev";rw[if_pos (show(0:Int)<(ls.length:Int)by lia)];walk_at "ev";rfl
    ·obtain⟨ps2,fs2,w8,w9,w10,e2,g2,l2,t1,t2,t3,t4,t5,t6⟩:=Zis (mn:=mn+1) b2 b1 R0 R1 (some (.lst (ls.map U.int))) ω' ls ps [] y8 y9 y10 (fun m hm=>(g.so m (g.fr m hm)).1) ⟨g.nd,g.zr,g.so,fun ψ h=>absurd h (by simp)⟩ (by simp);have hlen2:=g2.len R0;simp at t5;rw[if_neg c]at hk;refine⟨(2*(2*R+1-(ps2.length:Int))+(if fs2=[]then 0 else 1)).toNat,ev11 b ds R ps2 (some (.lst (fs2.map U.int))) (mn+1) none w8 w9 w10,ω',?_,?_,rfl,ps2,fs2,mn+1,w8,w9,w10,rfl,g2,l2,fun k hk hn d hd h1 h2=>?_,?_⟩
     ·by_cases cf:fs2=[]
      ·subst cf;simp at t5;rw[if_pos rfl];lia
      ·have:0<fs2.length:=List.length_pos_iff.mpr cf
       rw[if_neg cf];lia
     ·rw[Z4i];unfold ev11 at e2 ⊢;simp only[List.map_nil]at e2;walk_at "ev";rw[e2];walk_at "ev"
     ·rcases t4 k hk with z|z
      ·by_cases cl:k∈ls
       ·exact t3 k cl d hd h1 h2
       ·exact t1 _ (hcl k z cl d hd h1 h2)
      ·exact absurd z hn
     ·split<;>lia
  ·simp at hk;subst hk;exact⟨.zero,by lia,R0⟩
  ·simp at hk;subst hk;exact absurd (by simp) hn
 obtain⟨ps,mn,y8,y9,y10,e,h⟩:=key;unfold ev11 at e;simp only[List.map_cons,List.map_nil]at e;rw[e];walk_at "ev";exact⟨ps,rfl,h⟩
def oU:Option Int->U
 |none=>.non
 |some k=>.int k
theorem Zit {b R:Int}{D:Option U}{ps:Ps}{y4 y5:Option U} (m:Int)(ω:Om):Z0r (Z0c 5) Z9h (.int m) [some (.int b),D,some (.int R),some (dicI ps),y4,y5] ω=if m∈ps.map (·.1)then .nx [some (.int b),D,some (.int R),some (dicI ps),y4,some (.int m)] ω else .rt (.int m) ω:=by
 rw[Z9h];walk_at "ev";by_cases c:m∈ps.map (·.1)
 ·rw[Z1o.mpr c,if_pos c];walk_at "ev"
 ·rw[Z35.mpr c,if_neg c,show(none:Option U).isSome=false from rfl];walk_at "ev"
theorem Z2a (s:Int) (n:Nat):rngU s (n+1)=.int s::rngU (s+1) n:=by
 unfold rngU;rw[List.range_succ_eq_map,List.map_cons,List.map_map];congr 1
 ·simp
 ·apply List.map_congr_left;intro i ψ;simp only[Function.comp];congr 1;lia
theorem Zel {b R:Int}{ds:List Int}{ps:Ps}(c:Clo b R ds ps)(r:Rch b R ds)(D:Option U)(ω:Om):∀(n:Nat) (s:Int)(y4 y5:Option U),1<=s->s+n=R+1->(∀ m,iab m<s->Wr b ds m) ->
  ∃ o,Lk b R ds o/\((o=none/\∃ z4 z5,forU (Z0r (Z0c 4) Z7k) (rngU s n) [some (.int b),D,some (.int R),some (dicI ps),y4,y5] ω=.nx [some (.int b),D,some (.int R),some (dicI ps),z4,z5] ω)\/∃ k,o=some k/\forU (Z0r (Z0c 4) Z7k) (rngU s n) [some (.int b),D,some (.int R),some (dicI ps),y4,y5] ω=.rt (.int k) ω)
 |0,s,y4,y5,s1,sn,h=>by
  refine⟨none,fun m h1 h2=>h m (by unfold iab;split<;>lia),.inl ⟨rfl,y4,y5,rfl⟩⟩
 |n+1,s,y4,y5,s1,sn,h=>by
  rw[Z2a,forU];have st:Z0r (Z0c 4) Z7k (.int s) [some (.int b),D,some (.int R),some (dicI ps),y4,y5] ω=forU (Z0r (Z0c 5) Z9h) [.int s,.int (-s)] [some (.int b),D,some (.int R),some (dicI ps),some (.int s),y5] ω:=by
   rw[Z7k];walk_at "ev"
  rw[st];simp only[forU];rw[Zit];have i1:=c.iff r (n:=s) (by lia) (by lia);have i2:=c.iff r (n := -s) (by lia) (by lia);by_cases c1:s∈ps.map (·.1)
  ·rw[if_pos c1];simp only;rw[Zit];by_cases c2: -s∈ps.map (·.1)
   ·rw[if_pos c2];simp only;exact Zel c r D ω n (s+1) (some (.int s)) (some (.int (-s))) (by lia) (by lia) fun m hm=>by
     by_cases z:iab m<s
     ·exact h m z
     ·have:m=s\/m = -s:=by unfold iab at z hm;split at z<;>split at hm<;>lia
      rcases this with rfl|rfl
      ·exact i1.mp c1
      ·exact i2.mp c2
   ·rw[if_neg c2];refine⟨some (-s),⟨fun w=>c2 (i2.mpr w),by lia,by lia,fun m hm=>h m ?_,fun ψ=>?_⟩,.inr ⟨-s,rfl,rfl⟩⟩
    ·unfold iab at hm ⊢;split at hm<;>split at hm<;>split<;>lia
    ·rw[Int.neg_neg];exact i1.mp c1
  ·rw[if_neg c1];refine⟨some s,⟨fun w=>c1 (i1.mpr w),by lia,by lia,fun m hm=>h m ?_,fun z=>by lia⟩,.inr ⟨s,rfl,rfl⟩⟩;unfold iab at hm ⊢;split at hm<;>split at hm<;>split<;>lia
def RK (b R:Int)(A:List Int):Nat->Int->Prop
 |0,x=>x=0
 |k+1,x =>-R<=x/\x<=R/\∃ d∈A,∃ y,RK b R A k y/\x=d+b*y
section
variable {b R:Int}{A:List Int}
theorem RK.up (h0:(0:Int)∈A)(R0:0<=R):∀{k:Nat}{x:Int},RK b R A k x->RK b R A (k+1) x
 |0,x,h=>by
  have:x=0:=h
  subst this;exact⟨by lia,R0,0,h0,0,rfl,by simp⟩
 |k+1,x,⟨h1,h2,d,hd,y,hy,e⟩=>⟨h1,h2,d,hd,y,hy.up h0 R0,e⟩
theorem RK.mono (h0:(0:Int)∈A)(R0:0<=R){x:Int}:∀{j k:Nat},j<=k->RK b R A j x->RK b R A k x:=by
 intro j k h;induction h with
 |refl=>exact id
 |step _ ih=>exact fun h=>(ih h).up h0 R0
theorem RK.bd (R0:0<=R):∀{k:Nat}{x:Int},RK b R A k x -> -R<=x/\x<=R
 |0,x,h=>by have:x=0:=h;lia
 |k+1,x,h=>⟨h.1,h.2.1⟩
end
theorem Z9o {x R:Int}:iab x<=R ↔ -R<=x/\x<=R:=by unfold iab;split<;>lia
abbrev evL (b:Int)(A:List Int) (R:Int)(W:List Int)(ps:Ps)(l5:Option U) (mn:Int)(fs:Option U)(y8 y9 y10:Option U):En:=[some (.int b),some (.lst (A.map U.int)),some (.int R),some (.lst (W.map U.int)),some (dicI ps),l5,some (.int mn),fs,y8,y9,y10]
structure Lay (b R mn:Int)(A ms:List Int)(ps:Ps)(fs:List Int)(ps':Ps)(fs':List Int):Prop where
 nd:(ky ps').Nodup
 mem:∀ z,z∈ky ps'↔z∈ky ps\/∃ m∈ms,∃ d∈A,z=d+b*m /\ -R<=z/\z<=R
 old:∀ z∈ky ps,asc ps' z=asc ps z
 new:∀ z∈ky ps',z∉ky ps->asc ps' z=some (.int mn)
 fr:∀ z,z∈fs'↔z∈fs\/(z∈ky ps'/\z∉ky ps)
 len:fs'.length+ps.length=fs.length+ps'.length
 le:ps.length<=ps'.length
theorem Z4o {R:Int}(R0:0<=R){ps:Ps}(n:(ky ps).Nodup)(h:∀ z∈ky ps,-R<=z/\z<=R):(ps.length:Int)<=2*R+1:=by
 have:=Z7j n (a := -R) (b:=R) h
 rw[List.length_map]at this;lia
theorem Lay.bd {b R mn:Int}{A ms:List Int}{ps ps':Ps}{fs fs':List Int}(L:Lay b R mn A ms ps fs ps' fs')(h:∀ z∈ky ps,-R<=z/\z<=R):∀ z∈ky ps',-R<=z/\z<=R:=fun z hz=>by
 rcases(L.mem z).mp hz with y|⟨_,_,_,_,_,y⟩
 ·exact h z y
 ·exact y
theorem Lay.trans {b R mn:Int}{A ms ns:List Int}{p q r:Ps}{f g h:List Int}(x:Lay b R mn A ms p f q g)(y:Lay b R mn A ns q g r h):Lay b R mn A (ms++ns) p f r h:=by
 have up:∀ z,z∈ky p->z∈ky q:=fun z hz=>(x.mem z).mpr (.inl hz);refine⟨y.nd,fun z=>?_,fun z hz=>(y.old z (up z hz)).trans (x.old z hz),fun z h1 h2=>?_,fun z=>?_,by have:=x.len;have:=y.len;have:=x.le;have:=y.le;lia,by have:=x.le;have:=y.le;lia⟩
 ·rw[y.mem z,x.mem z];constructor
  ·rintro((h|⟨m,hm,e⟩)|⟨m,hm,e⟩)
   ·exact .inl h
   ·exact .inr ⟨m,List.mem_append_left _ hm,e⟩
   ·exact .inr ⟨m,List.mem_append_right _ hm,e⟩
  ·rintro(h|⟨m,hm,e⟩)
   ·exact .inl (.inl h)
   ·rcases List.mem_append.mp hm with hm|hm
    ·exact .inl (.inr ⟨m,hm,e⟩)
    ·exact .inr ⟨m,hm,e⟩
 ·by_cases c:z∈ky q
  ·rw[y.old z c];exact x.new z c h2
  ·exact y.new z h1 c
 ·rw[y.fr z,x.fr z];constructor
  ·rintro((h|⟨h1,h2⟩)|⟨h1,h2⟩)
   ·exact .inl h
   ·exact .inr ⟨(y.mem z).mpr (.inl h1),h2⟩
   ·exact .inr ⟨h1,fun w=>h2 (up z w)⟩
  ·rintro(h|⟨h1,h2⟩)
   ·exact .inl (.inl h)
   ·by_cases c:z∈ky q
    ·exact .inl (.inr ⟨c,h2⟩)
    ·exact .inr ⟨h1,c⟩
theorem Zem {b R mn:Int}(b2:2<=b)(b1:b<1000)(R0:0<=R)(R1:R<=4000)(A W:List Int) (m:Int)(L5:Option U)(ω:Om):∀(xs:List Int)(ps:Ps)(fs:List Int)(y9 y10:Option U),(ky ps).Nodup->(∀ z∈ky ps,-R<=z/\z<=R)->fs.length<=ps.length ->
  ∃(ps':Ps)(fs':List Int)(y9' y10':Option U),forU (Z0r (Z0c 9) Z1p) (xs.map U.int) (evL b A R W ps L5 mn (some (.lst (fs.map U.int))) (some (.int m)) y9 y10) ω=.nx (evL b A R W ps' L5 mn (some (.lst (fs'.map U.int))) (some (.int m)) y9' y10') ω/\Lay b R mn xs [m] ps fs ps' fs'/\fs'.length<=ps'.length
 |[],ps,fs,y9,y10,n,h,hl=>⟨ps,fs,y9,y10,rfl,⟨n,fun z=>by simp,fun ψ ψ=>rfl,fun z h1 h2=>absurd h1 h2,fun z=>⟨.inl,fun h=>h.elim id fun w=>absurd w.1 w.2⟩,by lia,by lia⟩,hl⟩
 |d::xs,ps,fs,y9,y10,n,h,hl=>by
  have hlen:=Z4o R0 n h;rw[List.map_cons,forU];by_cases hc:iab (d+b*m)<=R/\(d+b*m)∉ky ps
  ·obtain⟨c1,c2⟩:=hc;have k1:=Z9o.mp c1;have ep:putI ps (d+b*m) (.int mn)=ps++[(d+b*m,.int mn)]:=Z2f c2;have hplen:(putI ps (d+b*m) (.int mn)).length=ps.length+1:=by rw[ep];simp
   have lay:Lay b R mn [d] [m] ps fs (putI ps (d+b*m) (.int mn)) (fs++[d+b*m]):=by
    refine⟨Z3j n,fun z=>?_,fun z hz=>?_,fun z h1 h2=>?_,fun z=>?_,by rw[hplen];simp;lia,by lia⟩
    ·rw[Z23];constructor
     ·rintro(h|h)
      ·exact .inr ⟨m,by simp,d,by simp,h,by lia,by lia⟩
      ·exact .inl h
     ·rintro(h|⟨m',hm,d',hd,eq,_⟩)
      ·exact .inr h
      ·simp at hm hd;subst hm hd;exact .inl eq
    ·rw[Z3k,if_neg (fun e=>c2 (by rw[<-e];exact hz))]
    ·have:=Z23.mp h1
     rw[Z3k,if_pos (this.resolve_right h2)]
    ·rw[Z23];simp only[List.mem_append,List.mem_singleton];constructor
     ·rintro(h|h)
      ·exact .inl h
      ·exact .inr ⟨.inl h,by rw[h];exact c2⟩
     ·rintro(h|⟨h|h,h2⟩)
      ·exact .inl h
      ·exact .inr h
      ·exact absurd h h2
   obtain⟨ps',fs',y9',y10',e,L,l⟩:=Zem (mn:=mn) b2 b1 R0 R1 A W m L5 ω xs (putI ps (d+b*m) (.int mn)) (fs++[d+b*m]) (some (.int d)) (some (.int (d+b*m))) lay.nd (lay.bd h) (by rw[hplen];simp;lia);refine⟨ps',fs',y9',y10',?_,?_,l⟩
   ·rw[show Z0r (Z0c 9) Z1p (.int d) (evL b A R W ps L5 mn (some (.lst (fs.map U.int))) (some (.int m)) y9 y10) ω=.nx (evL b A R W (putI ps (d+b*m) (.int mn)) L5 mn (some (.lst ((fs++[d+b*m]).map U.int))) (some (.int m)) (some (.int d)) (some (.int (d+b*m)))) ω by
     rw[Z1p];unfold evL;walk_at "ev";rw[show(if d+b*m<0 then -(d+b*m)else d+b*m)=iab (d+b*m)from rfl,if_pos c1];walk_at "ev";rw[Z35.mpr c2,show(none:Option U).isSome=false from rfl];walk_at "ev";rw[show fs.map U.int++[U.int (d+b*m)]=(fs++[d+b*m]).map U.int by simp]]
    exact e
   ·refine⟨L.nd,fun z=>?_,fun z hz=>(L.old z ((lay.mem z).mpr (.inl hz))).trans (lay.old z hz),fun z h1 h2=>?_,fun z=>?_,by have:=L.len;have:=lay.len;have:=L.le;have:=lay.le;lia,by have:=L.le;have:=lay.le;lia⟩
    ·rw[L.mem z,lay.mem z];constructor
     ·rintro((h|⟨m',hm,d',hd,eq⟩)|⟨m',hm,d',hd,eq⟩)
      ·exact .inl h
      ·simp at hd;subst hd;exact .inr ⟨m',hm,d',by simp,eq⟩
      ·exact .inr ⟨m',hm,d',List.mem_cons_of_mem _ hd,eq⟩
     ·rintro(h|⟨m',hm,d',hd,eq⟩)
      ·exact .inl (.inl h)
      ·rcases List.mem_cons.mp hd with rfl|hd
       ·exact .inl (.inr ⟨m',hm,d',by simp,eq⟩)
       ·exact .inr ⟨m',hm,d',hd,eq⟩
    ·by_cases c:z∈ky (putI ps (d+b*m) (.int mn))
     ·rw[L.old z c];exact lay.new z c h2
     ·exact L.new z h1 c
    ·rw[L.fr z,lay.fr z];constructor
     ·rintro((h|⟨h1,h2⟩)|⟨h1,h2⟩)
      ·exact .inl h
      ·exact .inr ⟨(L.mem z).mpr (.inl h1),h2⟩
      ·exact .inr ⟨h1,fun w=>h2 ((lay.mem z).mpr (.inl w))⟩
     ·rintro(h|⟨h1,h2⟩)
      ·exact .inl (.inl h)
      ·by_cases c:z∈ky (putI ps (d+b*m) (.int mn))
       ·exact .inl (.inr ⟨c,h2⟩)
       ·exact .inr ⟨h1,c⟩
  ·obtain⟨ps',fs',y9',y10',e,L,l⟩:=Zem (mn:=mn) b2 b1 R0 R1 A W m L5 ω xs ps fs (some (.int d)) (some (.int (d+b*m))) n h hl;refine⟨ps',fs',y9',y10',?_,⟨L.nd,fun z=>?_,L.old,L.new,L.fr,L.len,L.le⟩,l⟩
   ·rw[show Z0r (Z0c 9) Z1p (.int d) (evL b A R W ps L5 mn (some (.lst (fs.map U.int))) (some (.int m)) y9 y10) ω=.nx (evL b A R W ps L5 mn (some (.lst (fs.map U.int))) (some (.int m)) (some (.int d)) (some (.int (d+b*m)))) ω by
     rw[Z1p];unfold evL;walk_at "ev";rw[show(if d+b*m<0 then -(d+b*m)else d+b*m)=iab (d+b*m)from rfl];by_cases c1:iab (d+b*m)<=R
     ·have c2:(d+b*m)∈ky ps:=by
       by_cases z:(d+b*m)∈ky ps
       ·exact z
       ·exact absurd ⟨c1,z⟩ hc
      rw[if_pos c1];walk_at "ev";rw[Z1o.mpr c2];walk_at "ev"
     ·rw[if_neg c1];walk_at "ev"]
    exact e
   ·rw[L.mem z];constructor
    ·rintro(h|⟨m',hm,d',hd,eq⟩)
     ·exact .inl h
     ·exact .inr ⟨m',hm,d',List.mem_cons_of_mem _ hd,eq⟩
    ·rintro(h'|⟨m',hm,d',hd,eq,h1,h2⟩)
     ·exact .inl h'
     ·rcases List.mem_cons.mp hd with rfl|hd
      ·simp at hm;subst hm;refine .inl ?_;by_cases zz:z∈ky ps
       ·exact zz
       ·rw[eq]at zz h1 h2;exact absurd ⟨Z9o.mpr ⟨h1,h2⟩,zz⟩ hc
      ·exact .inr ⟨m',hm,d',hd,eq,h1,h2⟩
theorem Zen {b R mn:Int}(b2:2<=b)(b1:b<1000)(R0:0<=R)(R1:R<=4000)(A W:List Int)(L5:Option U)(ω:Om):∀(ls:List Int)(ps:Ps)(fs:List Int)(y8 y9 y10:Option U),(ky ps).Nodup->(∀ z∈ky ps,-R<=z/\z<=R)->fs.length<=ps.length ->
  ∃(ps':Ps)(fs':List Int)(y8' y9' y10':Option U),forU (Z0r (Z0c 8) Z2x) (ls.map U.int) (evL b A R W ps L5 mn (some (.lst (fs.map U.int))) y8 y9 y10) ω=.nx (evL b A R W ps' L5 mn (some (.lst (fs'.map U.int))) y8' y9' y10') ω/\Lay b R mn A ls ps fs ps' fs'/\fs'.length<=ps'.length
 |[],ps,fs,y8,y9,y10,n,h,hl=>⟨ps,fs,y8,y9,y10,rfl,⟨n,fun z=>by simp,fun ψ ψ=>rfl,fun z h1 h2=>absurd h1 h2,fun z=>⟨.inl,fun h=>h.elim id fun w=>absurd w.1 w.2⟩,by lia,by lia⟩,hl⟩
 |m::ls,ps,fs,y8,y9,y10,n,h,hl=>by
  obtain⟨ps1,fs1,z9,z10,e1,L1,l1⟩:=Zem (mn:=mn) b2 b1 R0 R1 A W m L5 ω A ps fs y9 y10 n h hl;obtain⟨ps2,fs2,w8,w9,w10,e2,L2',l2⟩:=Zen (mn:=mn) b2 b1 R0 R1 A W L5 ω ls ps1 fs1 (some (.int m)) z9 z10 L1.nd (L1.bd h) l1;refine⟨ps2,fs2,w8,w9,w10,?_,L1.trans L2',l2⟩;rw[List.map_cons,forU,Z2x];unfold evL at e1 e2 ⊢;walk_at "ev";rw[e1];rw[<-Z2x];exact e2
theorem Z9p (W:List Int)(ps:Ps)(ω:Om):cmpU (cstU (Z0c 0) Z1m (eOp (uDIn false) (eVar 0) (eVar 1)) [none,some (dicI ps)]) (W.map U.int) ω=.ok ((W.map fun w=>(asc ps w).isSome).map U.bl) ω:=by
 refine(Z1h (f:=fun d=>some (U.bl (asc ps d).isSome)) fun x hx=>?_).trans (by rw[List.map_map,<-List.filterMap_eq_map];rfl);walk_at "ev"
theorem Ziu (W:List Int)(ps:Ps):uAny [.lst ((W.map fun w=>(asc ps w).isSome).map U.bl)]=some (.bl (W.any fun w=>(asc ps w).isSome)):=by
 unfold uAny;simp only;rw[Z6r,Option.map_some,List.any_map];rfl
section
variable (b R:Int)(A W:List Int)
structure Rls (j:Nat)(ps:Ps):Prop where
 nd:(ky ps).Nodup
 mem:∀ x,x∈ky ps↔RK b R A j x
 val:∀ x∈ky ps,∃ k:Nat,asc ps x=some (.int k)/\RK b R A k x/\∀ i<k,¬ RK b R A i x
 not:∀ i<j,∀ w∈W,¬ RK b R A i w
 le:j<=ps.length
def Ends (j:Nat):Prop:=(∃ w∈W,RK b R A j w)\/∀ x,RK b R A (j+1) x->RK b R A j x
end
theorem Ztm {b R:Int}(b2:2<=b)(b1:b<1000)(R0:0<=R)(R1:R<=4000){A W:List Int}(h0:(0:Int)∈A)(hW:W.length<=1000)(ω:Om):∃(ps:Ps) (L:Nat),Z5y [.int b,.lst (A.map U.int),.int R,.lst (W.map U.int)] ω=.ok (dicI ps) ω/\Rls b R A W L ps/\Ends b R A W L:=by
 unfold Z5y Zgq;walk_at "ev";have key:(fun f:Fl=>∃(ps:Ps) (L:Nat)(l5:Option U) (mn:Int)(y8 y9 y10:Option U),f=.nx (evL b A R W ps l5 mn none y8 y9 y10) ω/\Rls b R A W L ps/\Ends b R A W L) (sWh (Z2s (tfB (eOp uGt (eB uLen (Z01 (eVar 5) aNil)) (eC (.int 0)))) (Z6p (tfB (eB uAny (Z01 (Z3d (iOf (eVar 3)) 1 [4] (Z0c 0) Z1m (eOp (uDIn false) (eVar 0) (eVar 1))) aNil))))) Z4i (evL b A R W [(0,.int 0)] (some (.lst (([0]:List Int).map U.int))) 0 none none none none) ω):=by
  refine Zcj (K:=fun f:Fl=>∃(ps:Ps) (L:Nat)(l5:Option U) (mn:Int)(y8 y9 y10:Option U),f=.nx (evL b A R W ps l5 mn none y8 y9 y10) ω/\Rls b R A W L ps/\Ends b R A W L) (fun k ρ ω'=>ω'=ω/\∃(ps:Ps)(ls:List Int) (j:Nat)(y8 y9 y10:Option U),ρ=evL b A R W ps (some (.lst (ls.map U.int))) j none y8 y9 y10/\j+(if ls=[]then 0 else 1)<=ps.length/\Rls b R A W j ps/\(∀ x,x∈ls↔RK b R A j x/\∀ i<j,¬ RK b R A i x)/\(k:Int)=2*(2*R+1-ps.length)+(if ls=[]then 0 else 1)) ?_ (2*(2*R+1-1)+1).toNat _ _ ⟨rfl,[(0,.int 0)],[0],0,none,none,none,rfl,by simp,⟨by simp,fun x=>by simp[RK],fun x hx=>?_,fun i hi=>absurd hi (by lia),by simp⟩,fun x=>by simp[RK],by simp;lia⟩
  ·rintro k ρ ω' ⟨rfl,ps,ls,j,y8,y9,y10,rfl,hjl,g,hls,hk⟩;have hbd:∀ z∈ky ps,-R<=z/\z<=R:=fun z hz=>RK.bd R0 ((g.mem z).mp hz);have hlen:=Z4o R0 g.nd hbd;by_cases c:ls=[]
   ·subst c;refine .inl ⟨ω',?_,ps,j,_,_,y8,y9,y10,rfl,g,.inr fun x hx=>?_⟩
    ·unfold evL;walk_at "ev";rfl
    ·obtain⟨h1,h2,d,hd,y,hy,e⟩:=hx;by_cases cy:∃ i,i<j/\RK b R A i y
     ·obtain⟨i,hi,hr⟩:=cy;exact RK.mono h0 R0 (show i+1<=j from hi) ⟨h1,h2,d,hd,y,hr,e⟩
     ·exact absurd ((hls y).mpr ⟨hy,fun i hi hr=>cy ⟨i,hi,hr⟩⟩) (by simp)
   ·have lp:0<ls.length:=List.length_pos_iff.mpr c;by_cases ca:(W.any fun w=>(asc ps w).isSome)=true
    ·refine .inl ⟨ω',?_,ps,j,_,_,y8,y9,y10,rfl,g,.inl ?_⟩
     ·unfold evL;walk_at "ev";rw[if_pos (show(0:Int)<(ls.length:Int)by lia)];walk_at "ev";rw[Z9p];walk_at "ev";rw[Ziu,ca];walk_at "ev"
     ·obtain⟨w,hw,h⟩:=List.any_eq_true.mp ca;exact⟨w,hw,(g.mem w).mp (Z1o.mp h)⟩
    ·have cf:(W.any fun w=>(asc ps w).isSome)=false:=by simpa using ca
     refine .inr ⟨ω',?_,.inl ?_⟩
     ·unfold evL;walk_at "ev";rw[if_pos (show(0:Int)<(ls.length:Int)by lia)];walk_at "ev";rw[Z9p];walk_at "ev";rw[Ziu,cf];walk_at "ev"
     ·obtain⟨ps2,fs2,w8,w9,w10,e2,L,l2⟩:=Zen (mn:=(j:Int)+1) b2 b1 R0 R1 A W (some (.lst (ls.map U.int))) ω' ls ps [] y8 y9 y10 g.nd hbd (by simp);have hlen2:=Z4o R0 L.nd (L.bd hbd);have t5:=L.len;have t6:=L.le;simp at t5;rw[if_neg c]at hk;have hm:∀ x,x∈ky ps2↔RK b R A (j+1) x:=fun x=>by
       rw[L.mem x];constructor
       ·rintro(h|⟨m,hm,d,hd,e,h1,h2⟩)
        ·exact((g.mem x).mp h).up h0 R0
        ·exact⟨h1,h2,d,hd,m,((hls m).mp hm).1,e⟩
       ·rintro⟨h1,h2,d,hd,y,hy,e⟩;by_cases cy:∃ i,i<j/\RK b R A i y
        ·obtain⟨i,hi,hr⟩:=cy;exact .inl ((g.mem x).mpr (RK.mono h0 R0 (show i+1<=j from hi) ⟨h1,h2,d,hd,y,hr,e⟩))
        ·exact .inr ⟨y,(hls y).mpr ⟨hy,fun i hi hr=>cy ⟨i,hi,hr⟩⟩,d,hd,e,h1,h2⟩
      have lay:∀ x,x∈fs2↔RK b R A (j+1) x/\∀ i<j+1,¬ RK b R A i x:=fun x=>by
       rw[L.fr x];constructor
       ·rintro(h|⟨h1,h2⟩)
        ·exact absurd h (by simp)
        ·exact⟨(hm x).mp h1,fun i hi hr=>h2 ((g.mem x).mpr (hr.mono h0 R0 (by lia)))⟩
       ·exact fun⟨h1,h2⟩=>.inr ⟨(hm x).mpr h1,fun h=>h2 j (by lia) ((g.mem x).mp h)⟩
      refine⟨(2*(2*R+1-(ps2.length:Int))+(if fs2=[]then 0 else 1)).toNat,evL b A R W ps2 (some (.lst (fs2.map U.int))) ((j+1:Nat):Int) none w8 w9 w10,ω',?_,?_,rfl,ps2,fs2,j+1,w8,w9,w10,rfl,?_,⟨L.nd,hm,fun x hx=>?_,fun i hi w hw hr=>?_,by rw[if_neg c]at hjl;lia⟩,lay,?_⟩
      ·by_cases cf:fs2=[]
       ·subst cf;simp at t5;rw[if_pos rfl];lia
       ·have:0<fs2.length:=List.length_pos_iff.mpr cf
        rw[if_neg cf];lia
      ·rw[Z4i];unfold evL at e2 ⊢;simp only[List.map_nil]at e2;walk_at "ev";rw[e2];walk_at "ev";rfl
      ·rw[if_neg c]at hjl;by_cases cf:fs2=[]
       ·subst cf;simp at t5;rw[if_pos rfl];lia
       ·have:0<fs2.length:=List.length_pos_iff.mpr cf
        rw[if_neg cf];lia
      ·by_cases cx:x∈ky ps
       ·rw[L.old x cx];exact g.val x cx
       ·exact⟨j+1,L.new x hx cx,(hm x).mp hx,fun i hi hr=>cx ((g.mem x).mpr (hr.mono h0 R0 (by lia)))⟩
      ·rcases Nat.lt_or_ge i j with h|h
       ·exact g.not i h w hw hr
       ·have:i=j:=by lia
        subst this;have:=(g.mem w).mpr hr
        exact ca (List.any_eq_true.mpr ⟨w,hw,Z1o.mpr this⟩)
      ·split<;>lia
  ·simp at hx;subst hx;exact⟨0,by simp[asc],rfl,fun i hi=>absurd hi (by lia)⟩
 obtain⟨ps,L,l5,mn,y8,y9,y10,e,h⟩:=key;unfold evL at e;simp only[List.map_cons,List.map_nil]at e;rw[e];walk_at "ev";exact⟨ps,L,rfl,h⟩
structure Dg (b:Int)(ds:List Int):Prop where
 b2:2<=b
 b9:b<=10
 z:(0:Int)∈ds
 nd:ds.Nodup
 len:ds.length<=60
 bd:∀ d∈ds,-60<=d/\d<=60
 cov:∃ C:List Int,C.length<128/\∀ z,IsD ds ds z->z∈C
theorem Dg.ne {b:Int}{ds:List Int}(h:Dg b ds):ds≠[]:=fun e=>by have:=h.z;rw[e]at this;simp at this
theorem Zeo (ds:List Int)(ω:Om):Z4j [.lst (ds.map U.int)] ω=Z4j [.tup (ds.map U.int)] ω:=by
 unfold Z4j Zgs;walk_at "ev"
theorem Zrj {ds:List Int}(h:ds≠[])(hl:ds.length<=1000)(ω:Om):Z4j [.lst (ds.map U.int)] ω=.ok (.int (far ds)) ω:=(Zeo ds ω).trans (Zm0 h hl ω)
theorem Z9q {b:Int}(b2:2<=b)(b1:b<1000){ds:List Int}(h:ds≠[])(hl:ds.length<=1000)(ω:Om):Z4k [.int b,.lst (ds.map U.int)] ω=.ok (.int (far ds/(b-1))) ω:=by
 unfold Z4k Zgu;walk_at "ev";rw[Zrj h hl];walk_at "ev"
structure Ap (b:Int)(ds A:List Int) (R:Int):Prop where
 dg:Dg b ds
 df:Dif ds ds A
 len:A.length<128
 rr:R=far A/(b-1)
section
variable {b R:Int}{ds A:List Int}
theorem Ap.b2 (h:Ap b ds A R):2<=b:=h.dg.b2
theorem Ap.z (h:Ap b ds A R):(0:Int)∈A:=(h.df.mem 0).mpr ⟨0,h.dg.z,0,h.dg.z,by simp⟩
theorem Ap.ne (h:Ap b ds A R):A≠[]:=fun e=>by have:=h.z;rw[e]at this;simp at this
theorem Ap.bd (h:Ap b ds A R):∀ a∈A,-120<=a/\a<=120:=fun a ha=>by
 obtain⟨x,hx,y,hy,e⟩:=(h.df.mem a).mp ha;have:=h.dg.bd x hx;have:=h.dg.bd y hy;lia
theorem Ap.R0 (h:Ap b ds A R):0<=R:=by
 rw[h.rr];exact Int.ediv_nonneg (Z2m A) (by have:=h.b2;lia)
theorem Ap.R1 (h:Ap b ds A R):R<=120:=by
 have f:=far_le (B:=120) (by decide) h.bd;rw[h.rr];exact Int.le_trans (Int.ediv_le_self _ (Z2m A)) f
theorem Ap.sub (h:Ap b ds A R):∀ d∈ds,d∈A:=fun d hd=>(h.df.mem d).mpr ⟨0,h.dg.z,d,hd,by simp⟩
theorem Ap.rch (h:Ap b ds A R):Rch b R A:=Ze4 h.b2 (by rw[h.rr];exact Int.le_refl _) h.R0
theorem Ap.wr (h:Ap b ds A R){x:Int}(w:Wr b ds x): -R<=x->x<=R->∃ k,RK b R A k x:=by
 induction w with
 |zero=>exact fun ψ ψ=>⟨0,rfl⟩
 |step _ hd ih=>
  intro h1 h2;obtain⟨m1,m2⟩:=h.rch _ _ (h.sub _ hd) h1 h2;obtain⟨k,hk⟩:=ih m1 m2;exact⟨k+1,h1,h2,_,h.sub _ hd,_,hk,rfl⟩
theorem Zep (h:Dg b ds)(xs ys:List Int)(hx:∀ x∈xs,x∈ds)(hy:∀ y∈ys,y∈ds)(lx:xs.length<=60)(ly:ys.length<=60)(ω:Om):∃ A:List Int,F_q9 [.tup (xs.map U.int),.tup (ys.map U.int)] ω=.ok (.lst (A.map U.int)) ω/\Dif xs ys A/\A.length<128:=by
 obtain⟨C,hC,sub⟩:=h.cov;have sub':∀ z,IsD xs ys z->z∈C:=fun z ⟨x,hx',y,hy',e⟩=>sub z ⟨x,hx x hx',y,hy y hy',e⟩;obtain⟨A,e,d⟩:=Ztl lx ly hC sub' ω;exact⟨A,e,d,by have:=Z2n d.nd fun z hz=>sub' z ((d.mem z).mp hz);lia⟩
theorem Zrk (h:Dg b ds)(ω:Om):∃ A R,F_q9 [.tup (ds.map U.int),.tup (ds.map U.int)] ω=.ok (.lst (A.map U.int)) ω/\Ap b ds A R:=by
 obtain⟨A,e,d,l⟩:=Zep h ds ds (fun ψ h=>h) (fun ψ h=>h) h.len h.len ω;exact⟨A,_,e,⟨h,d,l,rfl⟩⟩
theorem Ap.eq {A':List Int}{R':Int}(h:Ap b ds A R)(h':Ap b ds A' R'):A'=A/\R'=R:=by
 have e:=Z9n h'.df.asc h.df.asc fun z=>(h'.df.mem z).trans (h.df.mem z).symm;subst e;exact⟨rfl,h'.rr.trans h.rr.symm⟩
theorem Ap.dif (h:Ap b ds A R)(ω:Om):F_q9 [.tup (ds.map U.int),.tup (ds.map U.int)] ω=.ok (.lst (A.map U.int)) ω:=by
 obtain⟨A',R',e,h'⟩:=Zrk h.dg ω;rw[(h.eq h').1]at e;exact e
def Cr (b:Int)(A:List Int) (w:Int):Prop:=w≠0/\b*w∈A
structure Mn (b R:Int)(A:List Int) (L:Nat):Prop where
 low:∀ i<L,∀ w,Cr b A w->¬ RK b R A i w
 ex:∃ w,Cr b A w/\RK b R A L w
theorem Mn.uniq {L L':Nat}(h:Mn b R A L)(h':Mn b R A L'):L=L':=by
 obtain⟨w,hw,r⟩:=h.ex;obtain⟨w',hw',r'⟩:=h'.ex;rcases Nat.lt_trichotomy L L' with c|c|c
 ·exact absurd r (h'.low L c w hw)
 ·exact c
 ·exact absurd r' (h.low L' c w' hw')
theorem Mn.pos {L:Nat}(h:Mn b R A L):0<L:=by
 obtain⟨w,hw,r⟩:=h.ex;rcases Nat.eq_zero_or_pos L with c|c
 ·subst c;exact absurd r hw.1
 ·exact c
def crs (b:Int)(A:List Int):List Int:=A.filterMap fun s=>if s≠0/\s%b=0 then some (s/b)else none
theorem Z8h (b2:2<=b){w:Int}:w∈crs b A↔Cr b A w:=by
 unfold crs Cr;rw[List.mem_filterMap];constructor
 ·rintro⟨s,hs,e⟩;split at e
  ·rename_i c
   cases e;have d:=Int.mul_ediv_add_emod s b;rw[c.2,Int.add_zero]at d;exact⟨fun z=>c.1 (by rw[<-d,z,Int.mul_zero]),by rw[d];exact hs⟩
  ·cases e
 ·rintro⟨h1,h2⟩;refine⟨b*w,h2,?_⟩;rw[if_pos ⟨Int.mul_ne_zero (by lia) h1,Int.mul_emod_right b w⟩,Int.mul_ediv_cancel_left w (by lia)]
theorem Zm3:(crs b A).length<=A.length:=List.length_filterMap_le _ _
theorem Zh5 (b2:2<=b)(b1:b<1000)(hA:∀ a∈A,-120<=a/\a<=120)(ω:Om):cmpU (cstU (Z0c 0) (Z2s (tfB (eOp uNe (eVar 0) (eC (.int 0)))) (tfB (eOp uEq (eOp uMod (eVar 0) (eVar 1)) (eC (.int 0))))) (eOp uDiv (eVar 0) (eVar 1)) [none,some (.int b)]) (A.map U.int) ω=.ok ((crs b A).map U.int) ω:=by
 refine(Z1h (f:=fun s=>if s≠0/\s%b=0 then some (.int (s/b))else none) fun x hx=>?_).trans ?_
 ·have:=hA x hx
  walk_at "ev";by_cases c:x=0
  ·subst c;walk_at "ev";rw[if_neg (by simp)]
  ·walk_at "ev";by_cases c2:x%b=0
   ·simp[c,c2,Res.bnd]
   ·simp[c,c2,Res.bnd]
 ·congr 1;unfold crs;rw[List.map_filterMap];congr 1;funext s
  split<;>rfl
theorem Z4p {n:Int}:∀(xs:List Int),(∀ x∈xs,x=n)->xs.foldl min n=n
 |[],_=>rfl
 |x::xs,h=>by
  have e:=h x (by simp);subst e;rw[List.foldl_cons,Int.min_self];exact Z4p xs fun y hy=>h y (List.mem_cons_of_mem _ hy)
theorem Zh6 {ps:Ps}{W:List Int}{L:Nat}(g:∀ w∈W,w∈ky ps->asc ps w=some (.int L))(ω:Om):cmpU (cstU (Z0c 0) (tfB (eOp (uDIn false) (eVar 0) (eVar 1))) (eOp Z4g (eVar 1) (eVar 0)) [none,some (dicI ps)]) (W.map U.int) ω=.ok ((W.filterMap fun w=>if w∈ky ps then some (L:Int)else none).map U.int) ω:=by
 refine(Z1h (f:=fun w=>if w∈ky ps then some (.int L)else none) fun x hx=>?_).trans ?_
 ·walk_at "ev";by_cases c:x∈ky ps
  ·rw[if_pos c,g x hx c];walk_at "ev";rfl
  ·rw[if_neg c,Z35.mpr c];walk_at "ev";rfl
 ·congr 1;rw[List.map_filterMap];congr 1;funext s
  split<;>rfl
theorem Zm4 (h:Ap b ds A R)(hex:∃ k w,Cr b A w/\RK b R A k w)(ω:Om):∃ L,F_q5 [.int b,.tup (ds.map U.int)] ω=.ok (.int (1+(L:Nat))) ω/\Mn b R A L/\L<1000:=by
 have b2:=h.b2;have b9:=h.dg.b9;have R0:=h.R0;have R1:=h.R1;have hl:=h.len;have lw:(crs b A).length<=A.length:=Zm3;obtain⟨ps,L,e,g,ends⟩:=Ztm (W:=crs b A) b2 (by lia) R0 (by lia) h.z (by lia) ω;have ex:∃ w,Cr b A w/\RK b R A L w:=by
  rcases ends with ⟨w,hw,r⟩|cl
  ·exact⟨w,(Z8h b2).mp hw,r⟩
  ·obtain⟨k,w,hw,r⟩:=hex;refine⟨w,hw,?_⟩;have down:∀(j:Nat) (x:Int),RK b R A (L+j) x->RK b R A L x:=by
    intro j;induction j with
    |zero=>exact fun x h=>h
    |succ j ih=>
     intro x h';obtain⟨q1,q2,d,hd,y,hy,e⟩:=h';exact cl x ⟨q1,q2,d,hd,y,ih y hy,e⟩
   rcases Nat.le_total k L with c|c
   ·exact r.mono h.z R0 c
   ·exact down (k-L) w (by rw[Nat.add_sub_cancel' c];exact r)
 have low:∀ i<L,∀ w,Cr b A w->¬ RK b R A i w:=fun i hi w hw=>g.not i hi w ((Z8h b2).mpr hw);have val:∀ w∈crs b A,w∈ky ps->asc ps w=some (.int L):=fun w hw hk=>by
  obtain⟨k,e,r,mn⟩:=g.val w hk;have:k=L:=by
   rcases Nat.lt_trichotomy k L with c|c|c
   ·exact absurd r (g.not k c w hw)
   ·exact c
   ·exact absurd ((g.mem w).mp hk) (mn L c)
  rw[e,this]
 have LB:L<1000:=by
  have:=g.le
  have:=Z4o R0 g.nd fun z hz=>RK.bd R0 ((g.mem z).mp hz)
  lia
 refine⟨L,?_,⟨low,ex⟩,LB⟩;unfold F_q5 g_q5;walk_at "ev";rw[h.dif];walk_at "ev";rw[Zh5 b2 (by lia) h.bd];walk_at "ev";rw[Z9q b2 (by lia) h.ne (by lia)];walk_at "ev";rw[<-h.rr,e];walk_at "ev";rw[Zh6 val];walk_at "ev";obtain⟨w,hw,r⟩:=ex;have hin:(L:Int)∈(crs b A).filterMap (fun w=>if w∈ky ps then some (L:Int)else none):=List.mem_filterMap.mpr ⟨w,(Z8h b2).mpr hw,if_pos ((g.mem w).mpr r)⟩;have hall:∀ x∈(crs b A).filterMap (fun w=>if w∈ky ps then some (L:Int)else none),x=(L:Int):=fun x hx=>by
  obtain⟨w,_,e⟩:=List.mem_filterMap.mp hx;split at e
  ·cases e;rfl
  ·cases e
 have hln:((crs b A).filterMap (fun w=>if w∈ky ps then some (L:Int)else none)).length<=(crs b A).length:=List.length_filterMap_le _ _;generalize (crs b A).filterMap (fun w=>if w∈ky ps then some (L:Int)else none)=V at hin hall hln ⊢;have mv:Zae [.lst (V.map U.int)]=some (.int L):=by
  unfold Zae Z2t;simp only;rw[Z14]
  cases V with
  |nil=>simp at hin
  |cons v V=>
   have ev:=hall v (by simp);subst ev;simp only;rw[Z4p V fun x hx=>hall x (List.mem_cons_of_mem _ hx)]
 walk_at "ev";rw[mv];walk_at "ev"
end
def CO (b d:Int)(ws:List Int)(c y z:Int):Prop:=(c≠0\/d≠y)/\c+d-y=b*z/\z∈ws
theorem Zeq {b d c y z:Int}{ws:List Int}(b2:2<=b):CO b d ws c y z↔((c≠0\/d≠y)/\(c+d-y)%b=0/\(c+d-y)/b∈ws)/\z=(c+d-y)/b:=by
 unfold CO;constructor
 ·rintro⟨h1,h2,h3⟩;rw[h2,Int.mul_ediv_cancel_left z (by lia)];exact⟨⟨h1,Int.mul_emod_right b z,h3⟩,rfl⟩
 ·rintro⟨⟨h1,h2,h3⟩,h4⟩;have e:=Int.mul_ediv_add_emod (c+d-y) b;rw[h2,Int.add_zero]at e;subst h4;exact⟨h1,e.symm,h3⟩
theorem Zrl {c d y:Int}{ω:Om}:(if ¬c=0 then Res.ok (U.bl true) ω else Res.ok (U.bl !decide (d=y)) ω)=Res.ok (U.bl (decide (¬c=0\/¬d=y))) ω:=by
 by_cases h:c=0
 ·simp[h]
 ·simp[h]
theorem Zm5 {b d c:Int}(b2:2<=b)(b1:b<1000)(hd: -60<=d/\d<=60)(hc: -200<=c/\c<=200){ws:Ps}(hw:ws.length<=1000)(A1 A3:Option U)(ω:Om):∀(l:List Int)(on:Ps)(y7 y8 y9:Option U),(∀ y∈l,-60<=y/\y<=60)->(ky on).Nodup->(∀ z∈ky on,z∈ky ws) ->
  ∃(on':Ps)(y7' y8' y9':Option U),forU (Z0r (Z0c 7) Z3n) (l.map U.int) [some (.int b),A1,some (.int d),A3,some (dicI ws),some (dicI on),some (.int c),y7,y8,y9] ω=.nx [some (.int b),A1,some (.int d),A3,some (dicI ws),some (dicI on'),some (.int c),y7',y8',y9'] ω/\(ky on').Nodup/\∀ z,z∈ky on'↔z∈ky on\/∃ y∈l,CO b d (ky ws) c y z
 |[],on,y7,y8,y9,_,n,_=>⟨on,y7,y8,y9,rfl,n,fun z=>by simp⟩
 |y::l,on,y7,y8,y9,hl,n,hs=>by
  have hy:=hl y (by simp);have lo:on.length<=1000:=by have:=Z2n n hs;simp at this;lia
  rw[List.map_cons,forU];by_cases cc:(c≠0\/d≠y)/\(c+d-y)%b=0/\(c+d-y)/b∈ky ws
  ·obtain⟨on',y7',y8',y9',e,n',m⟩:=Zm5 b2 b1 hd hc hw A1 A3 ω l (putI on ((c+d-y)/b) (.bl true)) (some (.int y)) (some (.int (c+d-y))) (some (.bl true)) (fun y hy=>hl y (List.mem_cons_of_mem _ hy)) (Z3j n) fun z hz=>by
    rcases Z23.mp hz with h|h
    ·rw[h];exact cc.2.2
    ·exact hs z h
   refine⟨on',y7',y8',y9',?_,n',fun z=>?_⟩
   ·rw[show Z0r (Z0c 7) Z3n (.int y) [some (.int b),A1,some (.int d),A3,some (dicI ws),some (dicI on),some (.int c),y7,y8,y9] ω=.nx [some (.int b),A1,some (.int d),A3,some (dicI ws),some (dicI (putI on ((c+d-y)/b) (.bl true))),some (.int c),some (.int y),some (.int (c+d-y)),some (.bl true)] ω by
     rw[Z3n];walk_at "ev";rw[Zrl,decide_eq_true (show ¬c=0\/¬d=y from cc.1)];walk_at "ev";rw[if_pos cc.2.1];walk_at "ev";rw[Z1o.mpr cc.2.2];walk_at "ev"]
    exact e
   ·rw[m z,Z23];constructor
    ·rintro((h|h)|⟨w,hw,h⟩)
     ·exact .inr ⟨y,by simp,(Zeq b2).mpr ⟨cc,h⟩⟩
     ·exact .inl h
     ·exact .inr ⟨w,List.mem_cons_of_mem _ hw,h⟩
    ·rintro(h|⟨w,hw,h⟩)
     ·exact .inl (.inr h)
     ·rcases List.mem_cons.mp hw with rfl|hw
      ·exact .inl (.inl ((Zeq b2).mp h).2)
      ·exact .inr ⟨w,hw,h⟩
  ·obtain⟨on',y7',y8',y9',e,n',m⟩:=Zm5 b2 b1 hd hc hw A1 A3 ω l on (some (.int y)) (some (.int (c+d-y))) (some (.bl (decide (c≠0\/d≠y)))) (fun y hy=>hl y (List.mem_cons_of_mem _ hy)) n hs;refine⟨on',y7',y8',y9',?_,n',fun z=>?_⟩
   ·rw[show Z0r (Z0c 7) Z3n (.int y) [some (.int b),A1,some (.int d),A3,some (dicI ws),some (dicI on),some (.int c),y7,y8,y9] ω=.nx [some (.int b),A1,some (.int d),A3,some (dicI ws),some (dicI on),some (.int c),some (.int y),some (.int (c+d-y)),some (.bl (decide (c≠0\/d≠y)))] ω by
     rw[Z3n];walk_at "ev";rw[Zrl];by_cases c1:¬c=0\/¬d=y
     ·rw[decide_eq_true c1];walk_at "ev";by_cases c2:(c+d-y)%b=0
      ·rw[if_pos c2];walk_at "ev";rw[Z35.mpr (fun h=>cc ⟨c1,c2,h⟩),show(none:Option U).isSome=false from rfl];walk_at "ev"
      ·rw[if_neg c2];walk_at "ev"
     ·rw[decide_eq_false c1];walk_at "ev"]
    exact e
   ·rw[m z];constructor
    ·rintro(h|⟨w,hw,h⟩)
     ·exact .inl h
     ·exact .inr ⟨w,List.mem_cons_of_mem _ hw,h⟩
    ·rintro(h|⟨w,hw,h⟩)
     ·exact .inl h
     ·rcases List.mem_cons.mp hw with rfl|hw
      ·exact absurd ((Zeq b2).mp h).1 cc
      ·exact .inr ⟨w,hw,h⟩
section
variable {b:Int}(b2:2<=b)(b1:b<1000)
include b2 b1
theorem Ziv {d:Int}(hd: -60<=d/\d<=60){ws:Ps}(hw:ws.length<=1000)(A1:Option U){ys:List Int}(hy:∀ y∈ys,-60<=y/\y<=60)(ω:Om):∀(l:List Int)(on:Ps)(y6 y7 y8 y9:Option U),(∀ c∈l,-200<=c/\c<=200)->(ky on).Nodup->(∀ z∈ky on,z∈ky ws) ->
  ∃(on':Ps)(y6' y7' y8' y9':Option U),forU (Z0r (Z0c 6) Z62) (l.map U.int) [some (.int b),A1,some (.int d),some (.tup (ys.map U.int)),some (dicI ws),some (dicI on),y6,y7,y8,y9] ω=.nx [some (.int b),A1,some (.int d),some (.tup (ys.map U.int)),some (dicI ws),some (dicI on'),y6',y7',y8',y9'] ω/\(ky on').Nodup/\∀ z,z∈ky on'↔z∈ky on\/∃ c∈l,∃ y∈ys,CO b d (ky ws) c y z
 |[],on,y6,y7,y8,y9,_,n,_=>⟨on,y6,y7,y8,y9,rfl,n,fun z=>by simp⟩
 |c::l,on,y6,y7,y8,y9,hl,n,hs=>by
  obtain⟨on1,z7,z8,z9,e1,n1,m1⟩:=Zm5 (c:=c) b2 b1 hd (hl c (by simp)) hw A1 (some (.tup (ys.map U.int))) ω ys on y7 y8 y9 hy n hs;have hs1:∀ z∈ky on1,z∈ky ws:=fun z hz=>by
   rcases(m1 z).mp hz with h|⟨y,_,h⟩
   ·exact hs z h
   ·exact h.2.2
  obtain⟨on2,w6,w7,w8,w9,e2,n2,m2⟩:=Ziv hd hw A1 hy ω l on1 (some (.int c)) z7 z8 z9 (fun y hy=>hl y (List.mem_cons_of_mem _ hy)) n1 hs1;refine⟨on2,w6,w7,w8,w9,?_,n2,fun z=>?_⟩
  ·rw[List.map_cons,forU,Z62];walk_at "ev";rw[e1];rw[<-Z62];exact e2
  ·rw[m2 z,m1 z];constructor
   ·rintro((h|⟨y,hy,h⟩)|⟨x,hx,h⟩)
    ·exact .inl h
    ·exact .inr ⟨c,by simp,y,hy,h⟩
    ·exact .inr ⟨x,List.mem_cons_of_mem _ hx,h⟩
   ·rintro(h|⟨x,hx,h⟩)
    ·exact .inl (.inl h)
    ·rcases List.mem_cons.mp hx with rfl|hx
     ·exact .inl (.inr h)
     ·exact .inr ⟨x,hx,h⟩
theorem F_co {d:Int}(hd: -60<=d/\d<=60){ws:Ps}(hw:ws.length<=1000){ys cs:List Int}(hy:∀ y∈ys,-60<=y/\y<=60)(hc:∀ c∈cs,-200<=c/\c<=200)(ω:Om):∃ os:List Int,Z7l [.int b,.lst (cs.map U.int),.int d,.tup (ys.map U.int),dicI ws] ω=.ok (.lst (os.map U.int)) ω/\(∀ z,z∈os↔∃ c∈cs,∃ y∈ys,CO b d (ky ws) c y z)/\os.length<=1000:=by
 obtain⟨on,y6,y7,y8,y9,e,n,m⟩:=Ziv b2 b1 hd hw (some (.lst (cs.map U.int))) hy ω cs [] none none none none hc (by simp) (by simp);have hs:∀ z∈ky on,z∈ky ws:=fun z hz=>by
  rcases(m z).mp hz with h|⟨c,_,y,_,h⟩
  ·simp at h
  ·exact h.2.2
 have lo:on.length<=1000:=by have:=Z2n n hs;simp at this;lia
 refine⟨ky on,?_,fun z=>by rw[m z];simp,by simpa using lo⟩;unfold Z7l Zls;walk_at "ev";rw[e];walk_at "ev"
theorem Zer {ws:Ps}(hw:ws.length<=1000){ys cs:List Int}(hy:∀ y∈ys,-60<=y/\y<=60)(hc:∀ c∈cs,-200<=c/\c<=200)(A2:Option U)(ω:Om):∀(l:List Int)(y5:Option U),(∀ d∈l,-60<=d/\d<=60)->(∃ d∈l,∃ z,∃ c∈cs,∃ y∈ys,CO b d (ky ws) c y z) ->
  ∃ d∈l,(∃ z,∃ c∈cs,∃ y∈ys,CO b d (ky ws) c y z)/\(∃ u v,l=u++d::v/\∀ x∈u,¬ ∃ z,∃ c∈cs,∃ y∈ys,CO b x (ky ws) c y z)/\forU (Z0r (Z0c 5) Z4l) (l.map U.int) [some (.int b),some (.lst (cs.map U.int)),A2,some (.tup (ys.map U.int)),some (dicI ws),y5] ω=.rt (.int d) ω
 |[],_,_,h=>by obtain⟨d,hd,_⟩:=h;simp at hd
 |d::l,y5,hl,h=>by
  obtain⟨os,e,m,lo⟩:=F_co b2 b1 (hl d (by simp)) hw hy hc ω;by_cases co:os=[]
  ·have no:¬ ∃ z,∃ c∈cs,∃ y∈ys,CO b d (ky ws) c y z:=fun⟨z,hz⟩=>by have:=(m z).mpr hz;rw[co]at this;simp at this
   obtain⟨d',hd',g,⟨u,v,el,hu⟩,e'⟩:=Zer hw hy hc A2 ω l (some (.int d)) (fun d hd=>hl d (List.mem_cons_of_mem _ hd)) (by
    obtain⟨d',hd',g⟩:=h;rcases List.mem_cons.mp hd' with rfl|hd'
    ·exact absurd g no
    ·exact⟨d',hd',g⟩)
   refine⟨d',List.mem_cons_of_mem _ hd',g,⟨d::u,v,by rw[el];rfl,fun x hx=>?_⟩,?_⟩
   ·rcases List.mem_cons.mp hx with rfl|hx
    ·exact no
    ·exact hu x hx
   rw[List.map_cons,forU,Z4l];walk_at "ev";rw[e,co];walk_at "ev";rw[<-Z4l];exact e'
  ·have lp:0<os.length:=List.length_pos_iff.mpr co;refine⟨d,by simp,?_,⟨[],l,rfl,by simp⟩,?_⟩
   ·obtain⟨z,hz⟩:=List.exists_mem_of_ne_nil os co;exact⟨z,(m z).mp hz⟩
   ·rw[List.map_cons,forU,Z4l];walk_at "ev";rw[e];walk_at "ev";rw[if_pos (show(0:Int)<(os.length:Int)by lia)]
theorem F_fd {ws:Ps}(hw:ws.length<=1000){ds ys cs:List Int}(hy:∀ y∈ys,-60<=y/\y<=60)(hc:∀ c∈cs,-200<=c/\c<=200)(hd:∀ d∈ds,-60<=d/\d<=60)(h:∃ d∈ds,∃ z,∃ c∈cs,∃ y∈ys,CO b d (ky ws) c y z)(ω:Om):∃ d∈ds,(∃ z,∃ c∈cs,∃ y∈ys,CO b d (ky ws) c y z)/\(∃ u v,ds=u++d::v/\∀ x∈u,¬ ∃ z,∃ c∈cs,∃ y∈ys,CO b x (ky ws) c y z)/\Zeb [.int b,.lst (cs.map U.int),.tup (ds.map U.int),.tup (ys.map U.int),dicI ws] ω=.ok (.int d) ω:=by
 obtain⟨d,hd,g,fi,e⟩:=Zer b2 b1 hw hy hc (some (.tup (ds.map U.int))) ω ds none hd h;refine⟨d,hd,g,fi,?_⟩;unfold Zeb Zlt;walk_at "ev";rw[e];walk_at "ev"
end
def BW (b R:Int)(X:List Int):List (List Int)->Int->Prop
 |[],c=>c=0
 |o::S,c=>(-R<=c/\c<=R)/\∃ x∈X,∃ y∈o,∃ c',BW b R X S c'/\c=b*c'+(y-x)
structure Ks (ps:Ps)(P:Int->Prop):Prop where
 nd:(ky ps).Nodup
 mem:∀ x,x∈ky ps↔P x
inductive WW (b R:Int)(X:List Int):List (List Int)->List Ps->Prop
 |nil {ps:Ps}:Ks ps (BW b R X [])->WW b R X [] [ps]
 |cons {o:List Int}{S:List (List Int)}{pss:List Ps}{ps:Ps}:WW b R X S pss->Ks ps (BW b R X (o::S))->WW b R X (o::S) (pss++[ps])
section
variable {b R:Int}{X:List Int}
theorem BW.bd (R0:0<=R):∀{S:List (List Int)}{c:Int},BW b R X S c -> -R<=c/\c<=R
 |[],c,h=>by have:c=0:=h;lia
 |_::_,c,h=>h.1
theorem Ks.len {S:List (List Int)}{ps:Ps}(R0:0<=R)(k:Ks ps (BW b R X S)):(ps.length:Int)<=2*R+1:=Z4o R0 k.nd fun z hz=>BW.bd R0 ((k.mem z).mp hz)
theorem WW.len {S:List (List Int)}{pss:List Ps}(h:WW b R X S pss):pss.length=S.length+1:=by
 induction h with
 |nil _=>rfl
 |cons _ _ ih=>simp[ih]
theorem WW.last {S:List (List Int)}{pss:List Ps}(h:WW b R X S pss):∃ ps,pss[S.length]?=some ps/\Ks ps (BW b R X S):=by
 cases h with
 |nil k=>exact⟨_,rfl,k⟩
 |cons h k=>
  refine⟨_,?_,k⟩;rw[List.length_cons,<-h.len,List.getElem?_append_right (Nat.le_refl _)];simp
theorem WW.end {S:List (List Int)}{pss:List Ps}(h:WW b R X S pss):∃ ps,atI (pss.map dicI) (-1)=some (dicI ps)/\Ks ps (BW b R X S):=by
 cases h with
 |nil k=>exact⟨_,atI_end [] _,k⟩
 |cons h k=>exact⟨_,by rw[List.map_append];exact atI_end _ _,k⟩
theorem WW.get {suf:List (List Int)}:∀{pre:List (List Int)}{pss:List Ps},WW b R X (pre++suf) pss->∃ ps,pss[suf.length]?=some ps/\Ks ps (BW b R X suf)
 |[],pss,h=>h.last
 |o::pre,pss,h=>by
  rw[List.cons_append]at h
  cases h with
  |cons h k=>
   obtain⟨ps,e,k'⟩:=WW.get h;refine⟨ps,?_,k'⟩;rw[List.getElem?_append_left]
   ·exact e
   ·rw[h.len];simp;lia
end
section
variable {b R:Int}(b2:2<=b)(b1:b<1000)(R0:0<=R)(R1:R<=400)
include b2 b1 R0 R1
theorem Zm6 {c:Int}(hc: -R<=c/\c<=R)(A1 A2 A4 A5 A6:Option U)(ω:Om):∀(l:List Int)(mu:Ps)(y9 y10:Option U),(ky mu).Nodup->(∀ z∈ky mu,-R<=z/\z<=R) ->
  ∃(mu':Ps)(y9' y10':Option U),forU (Z0r (Z0c 9) Z3m) (l.map U.int) [some (.int b),A1,A2,some (.int R),A4,A5,A6,some (dicI mu),some (.int c),y9,y10] ω=.nx [some (.int b),A1,A2,some (.int R),A4,A5,A6,some (dicI mu'),some (.int c),y9',y10'] ω/\(ky mu').Nodup/\∀ z,z∈ky mu'↔z∈ky mu\/((-R<=z/\z<=R)/\∃ s∈l,z=b*c+s)
 |[],mu,y9,y10,n,_=>⟨mu,y9,y10,rfl,n,fun z=>by simp⟩
 |s::l,mu,y9,y10,n,hb=>by
  have lo:=Z4o R0 n hb;rw[List.map_cons,forU];by_cases cc:iab (b*c+s)<=R
  ·have k1:=Z9o.mp cc;obtain⟨mu',y9',y10',e,n',m⟩:=Zm6 hc A1 A2 A4 A5 A6 ω l (putI mu (b*c+s) (.bl true)) (some (.int s)) (some (.int (b*c+s))) (Z3j n) fun z hz=>by
    rcases Z23.mp hz with h|h
    ·rw[h];exact k1
    ·exact hb z h
   refine⟨mu',y9',y10',?_,n',fun z=>?_⟩
   ·rw[Z3m];walk_at "ev";rw[show(if b*c+s<0 then -(b*c+s)else b*c+s)=iab (b*c+s)from rfl,if_pos cc];walk_at "ev";rw[<-Z3m];exact e
   ·rw[m z,Z23];constructor
    ·rintro((h|h)|⟨h1,w,hw,h⟩)
     ·exact .inr ⟨by rw[h];exact k1,s,by simp,h⟩
     ·exact .inl h
     ·exact .inr ⟨h1,w,List.mem_cons_of_mem _ hw,h⟩
    ·rintro(h|⟨h1,w,hw,h⟩)
     ·exact .inl (.inr h)
     ·rcases List.mem_cons.mp hw with rfl|hw
      ·exact .inl (.inl h)
      ·exact .inr ⟨h1,w,hw,h⟩
  ·obtain⟨mu',y9',y10',e,n',m⟩:=Zm6 hc A1 A2 A4 A5 A6 ω l mu (some (.int s)) (some (.int (b*c+s))) n hb;refine⟨mu',y9',y10',?_,n',fun z=>?_⟩
   ·rw[Z3m];walk_at "ev";rw[show(if b*c+s<0 then -(b*c+s)else b*c+s)=iab (b*c+s)from rfl,if_neg cc];rw[<-Z3m];exact e
   ·rw[m z];constructor
    ·rintro(h|⟨h1,w,hw,h⟩)
     ·exact .inl h
     ·exact .inr ⟨h1,w,List.mem_cons_of_mem _ hw,h⟩
    ·rintro(h|⟨h1,w,hw,h⟩)
     ·exact .inl h
     ·rcases List.mem_cons.mp hw with rfl|hw
      ·rw[h]at h1;exact absurd (Z9o.mpr h1) cc
      ·exact .inr ⟨h1,w,hw,h⟩
theorem Ziw (A1 A2 A4 A5:Option U)(A:List Int)(ω:Om):∀(l:List Int)(mu:Ps)(y8 y9 y10:Option U),(∀ c∈l,-R<=c/\c<=R)->(ky mu).Nodup->(∀ z∈ky mu,-R<=z/\z<=R) ->
  ∃(mu':Ps)(y8' y9' y10':Option U),forU (Z0r (Z0c 8) Z60) (l.map U.int) [some (.int b),A1,A2,some (.int R),A4,A5,some (.lst (A.map U.int)),some (dicI mu),y8,y9,y10] ω=.nx [some (.int b),A1,A2,some (.int R),A4,A5,some (.lst (A.map U.int)),some (dicI mu'),y8',y9',y10'] ω/\(ky mu').Nodup/\∀ z,z∈ky mu'↔z∈ky mu\/((-R<=z/\z<=R)/\∃ c∈l,∃ s∈A,z=b*c+s)
 |[],mu,y8,y9,y10,_,n,_=>⟨mu,y8,y9,y10,rfl,n,fun z=>by simp⟩
 |c::l,mu,y8,y9,y10,hl,n,hb=>by
  obtain⟨mu1,z9,z10,e1,n1,m1⟩:=Zm6 b2 b1 R0 R1 (hl c (by simp)) A1 A2 A4 A5 (some (.lst (A.map U.int))) ω A mu y9 y10 n hb;have hb1:∀ z∈ky mu1,-R<=z/\z<=R:=fun z hz=>by
   rcases(m1 z).mp hz with h|h
   ·exact hb z h
   ·exact h.1
  obtain⟨mu2,w8,w9,w10,e2,n2,m2⟩:=Ziw A1 A2 A4 A5 A ω l mu1 (some (.int c)) z9 z10 (fun y hy=>hl y (List.mem_cons_of_mem _ hy)) n1 hb1;refine⟨mu2,w8,w9,w10,?_,n2,fun z=>?_⟩
  ·rw[List.map_cons,forU,Z60];walk_at "ev";rw[e1];rw[<-Z60];exact e2
  ·rw[m2 z,m1 z];constructor
   ·rintro((h|⟨h1,y,hy,h⟩)|⟨h1,x,hx,h⟩)
    ·exact .inl h
    ·exact .inr ⟨h1,c,by simp,y,hy,h⟩
    ·exact .inr ⟨h1,x,List.mem_cons_of_mem _ hx,h⟩
   ·rintro(h|⟨h1,x,hx,h⟩)
    ·exact .inl (.inl h)
    ·rcases List.mem_cons.mp hx with rfl|hx
     ·exact .inl (.inr ⟨h1,h⟩)
     ·exact .inr ⟨h1,x,hx,h⟩
end
abbrev tups (Bs:List (List Int)):List U:=Bs.map fun o=>.tup (o.map U.int)
abbrev evW (b R:Int)(X:List Int)(A2:Option U)(pss:List Ps)(y5 y6 y8 y9 y10:Option U):En:=[some (.int b),some (.tup (X.map U.int)),A2,some (.int R),some (.lst (pss.map dicI)),y5,y6,none,y8,y9,y10]
theorem Zes (ps:Ps):Z75 ps=(ky ps).map U.int:=by
 unfold Z75 ky;rw[List.map_map];rfl
theorem Zix {b R:Int}{ds X:List Int}(h:Dg b ds)(R0:0<=R)(R1:R<=400)(hX:∀ x∈X,x∈ds)(lX:X.length<=60)(A2:Option U)(ω:Om):∀(l S:List (List Int))(pss:List Ps)(y5 y6 y8 y9 y10:Option U),(∀ o∈l,(∀ y∈o,y∈ds)/\o.length<=60)->l.length+S.length<=1000->WW b R X S pss ->
  ∃(pss':List Ps)(y5' y6' y8' y9' y10':Option U),forU (Z0r (Z0c 5) Z61) (tups l) (evW b R X A2 pss y5 y6 y8 y9 y10) ω=.nx (evW b R X A2 pss' y5' y6' y8' y9' y10') ω/\WW b R X (l.reverse++S) pss'
 |[],S,pss,y5,y6,y8,y9,y10,_,_,w=>⟨pss,y5,y6,y8,y9,y10,rfl,w⟩
 |o::l,S,pss,y5,y6,y8,y9,y10,hl,ln,w=>by
  have b2:=h.b2;have b9:=h.b9;rw[List.length_cons]at ln;obtain⟨ho,lo⟩:=hl o (by simp);obtain⟨A,eA,dA,lA⟩:=Zep h X o hX ho lX lo ω;obtain⟨ps,ep,kp⟩:=w.end;have wl:=w.len;obtain⟨mu,z8,z9,z10,e1,n1,m1⟩:=Ziw b2 (by lia) R0 R1 (some (.tup (X.map U.int))) A2 (some (.lst (pss.map dicI))) (some (.tup (o.map U.int))) A ω (ky ps) [] y8 y9 y10 (fun c hc=>BW.bd R0 ((kp.mem c).mp hc)) (by simp) (by simp);have kmu:Ks mu (BW b R X (o::S)):=⟨n1,fun z=>by
   rw[m1 z];unfold BW;constructor
   ·rintro(h|⟨h1,c,hc,s,hs,e⟩)
    ·simp at h
    ·obtain⟨x,hx,y,hy,es⟩:=(dA.mem s).mp hs;exact⟨h1,x,hx,y,hy,c,(kp.mem c).mp hc,by rw[<-es];exact e⟩
   ·rintro⟨h1,x,hx,y,hy,c,hc,e⟩;exact .inr ⟨h1,c,(kp.mem c).mpr hc,y-x,(dA.mem _).mpr ⟨x,hx,y,hy,rfl⟩,e⟩⟩
  obtain⟨pss',w5,w6,w8,w9,w10,e2,w2⟩:=Zix h R0 R1 hX lX A2 ω l (o::S) (pss++[mu]) (some (.tup (o.map U.int))) (some (.lst (A.map U.int))) z8 z9 z10 (fun x hx=>hl x (List.mem_cons_of_mem _ hx)) (by simp;lia) (.cons w kmu);refine⟨pss',w5,w6,w8,w9,w10,?_,by rw[List.reverse_cons,List.append_assoc];exact w2⟩;unfold tups;rw[List.map_cons,forU,Z61];unfold evW at e2 ⊢;walk_at "ev";rw[eA];walk_at "ev";rw[ep];walk_at "ev";rw[show Z75 ps=(ky ps).map U.int from Zes ps,e1];walk_at "ev";rw[<-Z61];rw[List.map_append]at e2;exact e2
theorem F_wb {b R:Int}{ds X:List Int}(h:Dg b ds)(R0:0<=R)(R1:R<=400)(hX:∀ x∈X,x∈ds)(lX:X.length<=60)(o:List Int)(l:List (List Int))(hl:∀ o∈l,(∀ y∈o,y∈ds)/\o.length<=60)(ln:l.length<=1000)(ω:Om):∃ pss:List Ps,Zaz [.int b,.tup (X.map U.int),.lst (tups (o::l)),.int R] ω=.ok (.lst (pss.map dicI)) ω/\WW b R X l pss:=by
 obtain⟨pss,y5,y6,y8,y9,y10,e,w⟩:=Zix h R0 R1 hX lX (some (.lst (tups (o::l)))) ω l.reverse [] [[(0,.bl true)]] none none none none none (fun o ho=>hl o (List.mem_reverse.mp ho)) (by simp;lia) (.nil ⟨by simp,fun x=>by simp[BW]⟩);rw[List.reverse_reverse,List.append_nil]at w;refine⟨pss,?_,w⟩;unfold Zaz Zlr;unfold evW tups at e;rw[List.map_reverse]at e;unfold tups;simp only[List.map_cons,List.map_nil]at e;walk_at "ev";rw[Zg2 (by decide),show(1:Int).toNat=1 from rfl,List.drop_succ_cons,List.drop_zero,e];walk_at "ev"
def PT (b R:Int)(A:List Int):Nat->Int->Prop
 |0,c=>Cr b A c
 |j+1,c'=>∃ c,PT b R A j c/\(-R<=c/\c<=R)/\∃ s∈A,c=s+b*c'
theorem PT.rk {b R:Int}{A:List Int}:∀{j k:Nat}{c:Int},PT b R A j c->RK b R A k c->∃ w,Cr b A w/\RK b R A (j+k) w
 |0,k,c,h,r=>⟨c,h,by rw[Nat.zero_add];exact r⟩
 |j+1,k,c',⟨c,h,hb,s,hs,e⟩,r=>by
  obtain⟨w,hw,q⟩:=PT.rk (k:=k+1) h ⟨hb.1,hb.2,s,hs,c',r,e⟩;exact⟨w,hw,by rw[show j+1+k=j+(k+1)by lia];exact q⟩
theorem PT.nz {b R:Int}{A:List Int}{L j:Nat}{c:Int}(m:Mn b R A L)(h:PT b R A j c)(hj:j<L):c≠0:=fun e=>by
 obtain⟨w,hw,q⟩:=h.rk (k:=0) e;exact m.low j hj w hw q
def CP (b R:Int)(A:List Int):Nat->Int->Prop
 |0,c=>c=0
 |p+1,c=>PT b R A p c
theorem CP.step {b R:Int}{ds A:List Int}(a:Ap b ds A R){p:Nat}{c d y z:Int}(h:CP b R A p c)(hc: -R<=c/\c<=R)(hd:d∈ds)(hy:y∈ds)(un:c≠0\/d≠y)(e:c+d-y=b*z):CP b R A (p+1) z:=by
 cases p with
 |zero=>
  have c0:c=0:=h;subst c0;have dy:d≠y:=un.resolve_left fun z=>z rfl;refine⟨fun z0=>?_,(a.df.mem _).mpr ⟨y,hy,d,hd,by lia⟩⟩;subst z0;rw[Int.mul_zero]at e;lia
 |succ p=>exact⟨c,h,hc,y-d,(a.df.mem _).mpr ⟨d,hd,y,hy,rfl⟩,by lia⟩
def PC (b R:Int):List Int->List (List Int)->Int->Prop
 |_,[],c=>c=0
 |r,o::S,c=>(-R<=c/\c<=R)/\∃ y∈o,∃ c',c+r.headD 0-y=b*c'/\PC b R r.tail S c'
def PU (b R:Int):List Int->List (List Int)->Int->Prop
 |_,[],c=>c=0
 |r,o::S,c=>(-R<=c/\c<=R)/\∃ y∈o,(c≠0\/r.headD 0≠y)/\∃ c',c+r.headD 0-y=b*c'/\PC b R r.tail S c'
theorem PU.pc {b R:Int}{r:List Int}{S:List (List Int)}{c:Int}(h:PU b R r S c):PC b R r S c:=by
 cases S with
 |nil=>exact h
 |cons o S=>obtain⟨h1,y,hy,_,c',h⟩:=h;exact⟨h1,y,hy,c',h⟩
theorem PC.of0 {b R:Int}:∀{S:List (List Int)}{c:Int},BW b R [0] S c->PC b R [] S c
 |[],c,h=>h
 |o::S,c,⟨hb,x,hx,y,hy,c',h,e⟩=>by
  simp at hx;subst hx;exact⟨hb,y,hy,c',by simp;lia,PC.of0 h⟩
def enP (p:Nat):List (List Int)->List U
 |[]=>[]
 |o::S=>.tup [.int p,.tup (o.map U.int)]::enP (p+1) S
theorem Ziy:∀(S:List (List Int)) (p:Nat),(tups S).mapIdx (fun i u=>U.tup [.int ((i+p:Nat):Int),u])=enP p S
 |[],_=>rfl
 |o::S,p=>by
  unfold tups;rw[List.map_cons,List.mapIdx_cons,enP];congr 1
  ·rw[Nat.zero_add]
  ·rw[<-Ziy S (p+1)];unfold tups;congr 1;funext i u
   rw[show i+1+p=i+(p+1)by lia]
abbrev evB (b:Int)(ds:List Int)(us:List U) (R:Int)(gs es:List Ps)(row cs:List Int)(y8 y9 y10 y11:Option U):En:=[some (.int b),some (.tup (ds.map U.int)),some (.lst us),some (.int R),some (.lst (gs.map dicI)),some (.lst (es.map dicI)),some (.lst (row.map U.int)),some (.lst (cs.map U.int)),y8,y9,y10,y11]
def Gn (b R:Int)(ds cs:List Int):List (List Int)->Prop
 |[]=>∃ c∈cs,c=0
 |o::S=>∃ d∈ds,∃ z,∃ c∈cs,∃ y∈o,(c≠0\/d≠y)/\c+d-y=b*z/\BW b R ds S z
def Gd1 (b R:Int)(X:List Int)(S:List (List Int))(o:List Int)(P:Int->Prop) (d:Int):Prop:=∃ z c,P c/\∃ y∈o,(c≠0\/d≠y)/\c+d-y=b*z/\BW b R X S z
def FR (b R:Int)(ds:List Int):List (List Int)->(Int->Prop)->List Int->Prop
 |[],_,r=>r=[]
 |o::S,P,r=>(Gd1 b R [0] S o P 0/\r=[])\/(¬ Gd1 b R [0] S o P 0/\∃ d r' u v,r=d::r'/\ds=u++d::v/\(∀ x∈u,¬ Gd1 b R ds S o P x)/\Gd1 b R ds S o P d/\FR b R ds S (fun z=>∃ c,P c/\∃ y∈o,(c≠0\/d≠y)/\c+d-y=b*z/\BW b R ds S z) r')
theorem Z5d {Q:Int->Prop}{d d':Int}:∀{u v u' v':List Int},u++d::v=u'++d'::v'->(∀ x∈u,¬ Q x)->Q d->(∀ x∈u',¬ Q x)->Q d'->d=d'
 |[],v,[],v',e,_,_,_,_=>(List.cons.inj e).1
 |[],v,x::u',v',e,_,q,h,_=>by
  have:=(List.cons.inj e).1
  subst this;exact absurd q (h d (by simp))
 |x::u,v,[],v',e,h,_,_,q=>by
  have:=(List.cons.inj e).1
  subst this;exact absurd q (h x (by simp))
 |x::u,v,x'::u',v',e,h,q,h',q'=>Z5d (List.cons.inj e).2 (fun y hy=>h y (List.mem_cons_of_mem _ hy)) q (fun y hy=>h' y (List.mem_cons_of_mem _ hy)) q'
theorem FR.uniq {b R:Int}{ds:List Int}:∀{S:List (List Int)}{P:Int->Prop}{r s:List Int},FR b R ds S P r->FR b R ds S P s->r=s
 |[],P,r,s,h,h'=>by
  have h:r=[]:=h;have h':s=[]:=h';rw[h,h']
 |o::S,P,r,s,h,h'=>by
  rcases h with ⟨g,rfl⟩|⟨n,d,r',u,v,rfl,e,f,q,h⟩
  ·rcases h' with ⟨g',rfl⟩|⟨n',_⟩
   ·rfl
   ·exact absurd g n'
  ·rcases h' with ⟨g',_⟩|⟨n',d2,r2,u2,v2,rfl,e2,f2,q2,h2⟩
   ·exact absurd g' n
   ·have ed:d=d2:=Z5d (e.symm.trans e2) f q f2 q2;subst ed;rw[FR.uniq h h2]
theorem FR.congr {b R:Int}{ds:List Int}{S:List (List Int)}{P Q:Int->Prop}{r:List Int}(h:FR b R ds S P r)(e:∀ z,P z↔Q z):FR b R ds S Q r:=by
 have:P=Q:=funext fun z=>propext (e z)
 subst this;exact h
theorem Zet {b R:Int}{ds A:List Int}(a:Ap b ds A R){L:Nat}(mn:Mn b R A L)(hL:L<1000){us:List U}(hus:us.length=L+1){T:List (List Int)}{gs es:List Ps}(wg:WW b R ds T gs)(we:WW b R [0] T es)(ω:Om) :
  ∀(suf:List (List Int)) (p:Nat)(row cs:List Int)(y8 y9 y10 y11:Option U),suf.tail <:+ T->(∀ o∈suf,∀ y∈o,y∈ds)->p+suf.length=L+1->row.length<=1000->row.length+suf.length<=L+1->(∀ c∈cs,CP b R A p c /\ -R<=c/\c<=R)->Gn b R ds cs suf ->
  ∃(r cs':List Int)(z8 z9 z10 z11:Option U),forU (Z0r (aTup 2 (Z25 (Z0c 8) (Z25 (Z0c 9) Z6s))) Z7m) (enP p suf) (evB b ds us R gs es row cs y8 y9 y10 y11) ω=.nx (evB b ds us R gs es (row++r) cs' z8 z9 z10 z11) ω/\(∀ d∈r,d∈ds)/\r.length<=suf.length/\FR b R ds suf (· ∈ cs) r/\∃ c∈cs,PU b R r suf c
 |[],p,row,cs,y8,y9,y10,y11,_,_,_,_,_,_,g=>⟨[],cs,y8,y9,y10,y11,by rw[List.append_nil];rfl,by simp,by simp,rfl,g⟩
 |o::S,p,row,cs,y8,y9,y10,y11,hT,hS,hp,hr,hr2,hc,g=>by
  have b2:=a.b2;have b9:=a.dg.b9;have R0:=a.R0;have R1:=a.R1;rw[List.length_cons]at hp hr2;obtain⟨q,hq⟩:=hT;rw[List.tail_cons]at hq;have ho:∀ y∈o,y∈ds:=hS o (by simp);have ho6:∀ y∈o,-60<=y/\y<=60:=fun y hy=>a.dg.bd y (ho y hy);have hc2:∀ c∈cs,-200<=c/\c<=200:=fun c h=>by have:=hc c h;lia
  obtain⟨gp,eg,kg⟩:=WW.get (suf:=S) (by rw[hq];exact wg);obtain⟨ep,ee,ke⟩:=WW.get (suf:=S) (by rw[hq];exact we);have lg:=kg.len R0;have le:=ke.len R0;have ig:atI (gs.map dicI) (S.length:Int)=some (dicI gp):=by rw[Z1r,List.getElem?_map,eg];rfl
  have ie:atI (es.map dicI) (S.length:Int)=some (dicI ep):=by rw[Z1r,List.getElem?_map,ee];rfl
  obtain⟨os,e1,m1,l1⟩:=F_co b2 (by lia) (d:=0) (by lia) (ws:=ep) (by lia) ho6 hc2 ω;have hbe:(us.length:Int)-p-1=S.length:=by lia
  have gb:Gd1 b R [0] S o (· ∈ cs) 0↔os≠[]:=by
   constructor
   ·rintro⟨z,c,hc,y,hy,un,e,w⟩ q;have:=(m1 z).mpr ⟨c,hc,y,hy,un,e,(ke.mem z).mpr w⟩
    rw[q]at this;simp at this
   ·intro q;obtain⟨z,hz⟩:=List.exists_mem_of_ne_nil os q;obtain⟨c,hcc,y,hy,un,e,w⟩:=(m1 z).mp hz;exact⟨z,c,hcc,y,hy,un,e,(ke.mem z).mp w⟩
  have gg:∀ x,Gd1 b R ds S o (· ∈ cs) x↔∃ z,∃ c∈cs,∃ y∈o,CO b x (ky gp) c y z:=fun x=>by
   constructor
   ·rintro⟨z,c,hc,y,hy,un,e,w⟩;exact⟨z,c,hc,y,hy,un,e,(kg.mem z).mpr w⟩
   ·rintro⟨z,c,hc,y,hy,un,e,w⟩;exact⟨z,c,hc,y,hy,un,e,(kg.mem z).mp w⟩
  by_cases co:os=[]
  ·obtain⟨d,hd,gd,⟨u,v,el,hu⟩,e2⟩:=F_fd b2 (by lia) (ws:=gp) (by lia) ho6 hc2 a.dg.bd (by
    obtain⟨d,hd,z,c,hc,y,hy,un,e,w⟩:=g;exact⟨d,hd,z,c,hc,y,hy,un,e,(kg.mem z).mpr w⟩) ω
   obtain⟨cs1,e3,m3,l3⟩:=F_co b2 (by lia) (a.dg.bd d hd) (ws:=gp) (by lia) ho6 hc2 ω;have hc3:∀ z∈cs1,CP b R A (p+1) z /\ -R<=z/\z<=R:=fun z hz=>by
    obtain⟨c,hcc,y,hy,un,e,w⟩:=(m3 z).mp hz;exact⟨CP.step a (hc c hcc).1 (hc c hcc).2 hd (ho y hy) un e,BW.bd R0 ((kg.mem z).mp w)⟩
   have g3:Gn b R ds cs1 S:=by
    obtain⟨z,hz⟩:=gd;have hz1:=(m3 z).mpr hz;obtain⟨c,hcc,y,hy,un,e,w⟩:=hz;have w:=(kg.mem z).mp w
    cases S with
    |nil=>exact⟨z,hz1,w⟩
    |cons o' S'=>
     obtain⟨_,x',hx',y',hy',c',w',e'⟩:=w;rw[List.length_cons]at hp;exact⟨x',hx',c',z,hz1,y',hy',.inl (PT.nz mn (hc3 z hz1).1 (by lia)),by lia,w'⟩
   obtain⟨r,cs',z8,z9,z10,z11,e4,hr4,lr4,fr4,c',hc',pu⟩:=Zet a mn hL hus wg we ω S (p+1) (row++[d]) cs1 (some (.int p)) (some (.tup (o.map U.int))) (some (.int S.length)) (some (.int d)) ((List.tail_suffix S).trans ⟨q,hq⟩) (fun o ho=>hS o (List.mem_cons_of_mem _ ho)) (by lia) (by simp;lia) (by simp;lia) hc3 g3;obtain⟨c,hcc,y,hy,un,e,w⟩:=(m3 c').mp hc';refine⟨d::r,cs',z8,z9,z10,z11,?_,fun x hx=>?_,by simp;lia,.inr ⟨fun q=>gb.mp q co,d,r,u,v,rfl,el,fun x hx q=>hu x hx ((gg x).mp q),(gg d).mpr gd,fr4.congr fun z=>(m3 z).trans ?_⟩,c,hcc,(hc c hcc).2,y,hy,un,c',e,pu.pc⟩
   ·rw[enP,forU,Z7m];unfold evB at e4 ⊢;walk_at "ev";rw[hbe,ie];walk_at "ev";rw[e1,co];walk_at "ev";rw[if_neg (show ¬ (0:Int)<((0:Nat):Int)by decide)];walk_at "ev";rw[ig];walk_at "ev";rw[e2];walk_at "ev";rw[ig];walk_at "ev";rw[e3];walk_at "ev";rw[<-Z7m];rw[List.map_append,List.append_assoc,List.cons_append,List.nil_append]at e4;exact e4
   ·rcases List.mem_cons.mp hx with rfl|hx
    ·exact hd
    ·exact hr4 x hx
   ·constructor
    ·rintro⟨c,hc,y,hy,un,e,w⟩;exact⟨c,hc,y,hy,un,e,(kg.mem z).mp w⟩
    ·rintro⟨c,hc,y,hy,un,e,w⟩;exact⟨c,hc,y,hy,un,e,(kg.mem z).mpr w⟩
  ·have lp:0<os.length:=List.length_pos_iff.mpr co;obtain⟨z,hz⟩:=List.exists_mem_of_ne_nil os co;obtain⟨c,hcc,y,hy,un,e,w⟩:=(m1 z).mp hz;refine⟨[],cs,some (.int p),some (.tup (o.map U.int)),some (.int S.length),y11,?_,by simp,by simp,.inl ⟨gb.mpr co,rfl⟩,c,hcc,(hc c hcc).2,y,hy,un,z,e,PC.of0 ((ke.mem z).mp w)⟩;rw[enP,forU,Z7m];unfold evB;walk_at "ev";rw[hbe,ie];walk_at "ev";rw[e1];walk_at "ev";rw[if_pos (show(0:Int)<(os.length:Int)by lia)];rw[List.append_nil];rfl
theorem F_fb {b R:Int}{ds A:List Int}(a:Ap b ds A R){L:Nat}(mn:Mn b R A L)(hL:L<1000)(o:List Int)(l:List (List Int))(hl:∀ x∈o::l,(∀ y∈x,y∈ds)/\x.length<=60)(ln:l.length=L)(g:Gn b R ds [0] (o::l))(ω:Om):∃ r:List Int,F_q7 [.int b,.tup (ds.map U.int),.lst (tups (o::l))] ω=.ok (.tup (r.map U.int)) ω/\(∀ d∈r,d∈ds)/\r.length<=L+1/\FR b R ds (o::l) (· ∈ [0]) r/\PU b R r (o::l) 0:=by
 have b2:=a.b2;have b9:=a.dg.b9;have R0:=a.R0;have R1:=a.R1;have la:=a.len;obtain⟨gs,eg,wg⟩:=F_wb (X:=ds) a.dg R0 (by lia) (fun ψ h=>h) a.dg.len o l (fun x hx=>hl x (List.mem_cons_of_mem _ hx)) (by lia) ω;obtain⟨es,ee,we⟩:=F_wb (X:=[0]) a.dg R0 (by lia) (fun x hx=>by simp at hx;subst hx;exact a.dg.z) (by decide) o l (fun x hx=>hl x (List.mem_cons_of_mem _ hx)) (by lia) ω;obtain⟨r,cs',z8,z9,z10,z11,e,hr,lr,fr,c,hc,pu⟩:=Zet a mn hL (us:=tups (o::l)) (by simp;lia) wg we ω (o::l) 0 [] [0] none none none none (List.suffix_refl l) (fun x hx=>(hl x hx).1) (by simp;lia) (by simp) (by simp;lia) (fun c hc=>by simp at hc;subst hc;exact⟨rfl,by lia,by lia⟩) g;simp at hc;subst hc;refine⟨r,?_,hr,by simpa[ln]using lr,fr,pu⟩;have en:Zab (tups (o::l))=enP 0 (o::l):=by
  rw[<-Ziy];rfl
 generalize tups (o::l)=us at eg ee e en ⊢;unfold F_q7 g_q7;walk_at "ev";rw[a.dif];walk_at "ev";rw[Z9q b2 (by lia) a.ne (by lia)];walk_at "ev";rw[<-a.rr,eg];walk_at "ev";rw[show([U.int 0]:List U)=([0]:List Int).map U.int from rfl,ee];walk_at "ev";rw[en];unfold evB at e;simp only[List.map_nil,List.map_cons,List.nil_append]at e;rw[e];walk_at "ev"
def pad:Nat->List Int->List (List Int)
 |0,_=>[]
 |k+1,r=>[r.headD 0]::pad k r.tail
theorem Z8i:∀(k:Nat)(r:List Int),(pad k r).length=k
 |0,_=>rfl
 |k+1,r=>by rw[pad,List.length_cons,Z8i]
theorem Zeu {ds r:List Int}(z:(0:Int)∈ds)(h:∀ d∈r,d∈ds):r.headD 0∈ds:=by
 cases r with
 |nil=>exact z
 |cons x r=>exact h x (by simp)
theorem Zev {ds r:List Int}(h:∀ d∈r,d∈ds):∀ d∈r.tail,d∈ds:=fun d hd=>h d (List.mem_of_mem_tail hd)
theorem Ziz {ds:List Int}(z:(0:Int)∈ds):∀{k:Nat}{r:List Int},(∀ d∈r,d∈ds)->∀ o∈pad k r,(∀ y∈o,y∈ds)/\o.length<=60
 |0,_,_,o,ho=>by simp[pad]at ho
 |k+1,r,h,o,ho=>by
  rw[pad]at ho;rcases List.mem_cons.mp ho with rfl|ho
  ·exact⟨fun y hy=>by simp at hy;subst hy;have:=Zeu z h;simpa using this,by simp⟩
  ·exact Ziz z (Zev h) o ho
theorem Zew:∀(k:Nat)(r:List Int),pad k r=(List.range k).map fun i=>[r.getD i 0]
 |0,_=>rfl
 |k+1,r=>by
  rw[pad,Zew k,List.range_succ_eq_map,List.map_cons,List.map_map];congr 1
  ·cases r<;>rfl
  ·apply List.map_congr_left;intro i ψ
   cases r<;>simp
theorem RK.bw {b R:Int}{ds A:List Int}(a:Ap b ds A R):∀{k:Nat}{x:Int},RK b R A k x->BW b R ds (List.replicate k ds) x
 |0,x,h=>h
 |k+1,x,⟨h1,h2,d,hd,y,hy,e⟩=>by
  obtain⟨u,hu,v,hv,ed⟩:=(a.df.mem d).mp hd;rw[List.replicate_succ];exact⟨⟨h1,h2⟩,u,hu,v,hv,y,hy.bw a,by lia⟩
theorem PC.bw {b R:Int}{ds:List Int}:∀{k:Nat}{r:List Int}{c:Int},PC b R r (List.replicate k ds) c->BW b R ds (pad k r) (-c)
 |0,r,c,h=>by have:c=0:=h;subst this;rfl
 |k+1,r,c,h=>by
  rw[List.replicate_succ]at h;obtain⟨hb,y,hy,c',e,h⟩:=h;rw[pad];exact⟨by lia,y,hy,_,List.mem_singleton.mpr rfl,-c',h.bw,by rw[Int.mul_neg];lia⟩
theorem PC.short {b R:Int}{ds A:List Int}(a:Ap b ds A R):∀{k:Nat}{r s:List Int}{c:Int},(∀ d∈r,d∈ds)->(∀ d∈s,d∈ds)->r.length<=k->s.length<=k->PC b R r (pad (k+1) s) c->RK b R A k c
 |0,r,s,c,_,_,lr,ls,h=>by
  have er:r=[]:=List.eq_nil_of_length_eq_zero (by lia);have es:s=[]:=List.eq_nil_of_length_eq_zero (by lia);subst er es;obtain⟨hb,y,hy,c',e,h⟩:=h;have c0:c'=0:=h;simp at hy;subst hy c0;simp at e;exact e
 |k+1,r,s,c,hr,hs,lr,ls,h=>by
  rw[pad]at h;obtain⟨hb,y,hy,c',e,h⟩:=h;have hy:=List.mem_singleton.mp hy;have:=PC.short a (Zev hr) (Zev hs) (by rw[List.length_tail];lia) (by rw[List.length_tail];lia) h
  exact⟨hb.1,hb.2,s.headD 0-r.headD 0,(a.df.mem _).mpr ⟨_,Zeu a.dg.z hr,_,Zeu a.dg.z hs,rfl⟩,c',this,by rw[<-hy];lia⟩
theorem Ztn (r:List Int) (p:Nat)(lr:r.length<=2000)(ω:Om):Zas [.tup (r.map U.int),.int p] ω=.ok (.int (r.getD p 0)) ω:=by
 unfold Zas Zlq;walk_at "ev";by_cases c:p<r.length
 ·rw[if_pos (show(p:Int)<(r.length:Int)by lia)];walk_at "ev";rw[Z1c (by lia) (by lia)];walk_at "ev";rfl
 ·rw[if_neg (show ¬ (p:Int)<(r.length:Int)by lia)];walk_at "ev";rw[List.getD_eq_getElem?_getD,List.getElem?_eq_none (by lia)];rfl
theorem Zh7 (r:List Int) (k:Nat)(lr:r.length<=2000)(ω:Om):cmpU (cstU (Z0c 0) Z1m (eTup (Z01 (Z0b Zas (Z01 (eVar 1) (Z01 (eVar 0) aNil))) aNil)) [none,some (.tup (r.map U.int))]) (rngU 0 k) ω=.ok (tups (pad k r)) ω:=by
 have er:rngU 0 k=((List.range k).map fun i:Nat=>(i:Int)).map U.int:=by
  unfold rngU;rw[List.map_map];apply List.map_congr_left;intro i ψ;show U.int (0+(i:Int))=U.int (i:Int);rw[Int.zero_add]
 rw[er];refine(Z1h (f:=fun x=>some (.tup [.int (r.getD x.toNat 0)])) fun x hx=>?_).trans ?_
 ·obtain⟨i,_,rfl⟩:=List.mem_map.mp hx;walk_at "ev";rw[Ztn r i lr];walk_at "ev";rfl
 ·congr 1;unfold tups;rw[Zew,List.map_map,List.filterMap_map,<-List.filterMap_eq_map];rfl
def Tw (b R:Int)(ds:List Int) (L:Nat)(one other:List Int):Prop:=FR b R ds (ds::List.replicate L ds) (· ∈ [0]) one/\FR b R ds ([one.headD 0]::pad L one.tail) (· ∈ [0]) other
theorem Tw.uniq {b R:Int}{ds:List Int}{L:Nat}{one other one' other':List Int}(h:Tw b R ds L one other)(h':Tw b R ds L one' other'):one=one'/\other=other':=by
 have e:=h.1.uniq h'.1;subst e;exact⟨rfl,h.2.uniq h'.2⟩
theorem Zrm {b R:Int}{ds A:List Int}(a:Ap b ds A R)(hex:∃ k w,Cr b A w/\RK b R A k w)(ω:Om):∃(one other:List Int) (L:Nat),Zee [.int b,.tup (ds.map U.int)] ω=.ok (.tup [.tup (one.map U.int),.tup (other.map U.int)]) ω/\Mn b R A L/\max one.length other.length=L+1/\L<1000/\Tw b R ds L one other:=by
 have b2:=a.b2;have b9:=a.dg.b9;have z:=a.dg.z;obtain⟨L,e1,mn,hL⟩:=Zm4 a hex ω;have g1:Gn b R ds [0] (ds::List.replicate L ds):=by
  obtain⟨w,⟨w0,hw⟩,r⟩:=mn.ex;obtain⟨x,hx,y,hy,e⟩:=(a.df.mem _).mp hw;refine⟨y,hy,w,0,by simp,x,hx,.inr fun q=>?_,by lia,r.bw a⟩;subst q;rw[Int.sub_self]at e;exact absurd e (Int.mul_ne_zero (by lia) w0)
 obtain⟨one,e2,h2,l2,f2,p2⟩:=F_fb a mn hL ds (List.replicate L ds) (fun x hx=>by
  have:x=ds:=(List.mem_cons.mp hx).elim id List.eq_of_mem_replicate
  subst this;exact⟨fun ψ h=>h,a.dg.len⟩) (by simp) g1 ω
 have g2:Gn b R ds [0] ([one.headD 0]::pad L one.tail):=by
  obtain⟨_,y,hy,un,c',e,pc⟩:=p2;exact⟨y,hy,-c',0,by simp,one.headD 0,by simp,.inr fun q=>(un.resolve_left fun z=>z rfl) q.symm,by rw[Int.mul_neg];lia,pc.bw⟩
 obtain⟨other,e3,h3,l3,f3,p3⟩:=F_fb a mn hL [one.headD 0] (pad L one.tail) (Ziz z h2 (k:=L+1)) (Z8i _ _) g2 ω;refine⟨one,other,L,?_,mn,?_,hL,f2,f3⟩
 ·unfold Zee Zlu;walk_at "ev";rw[e1];walk_at "ev";have tn:(1+(L:Int)).toNat=L+1:=by lia
  rw[tn,show List.replicate (L+1) (U.tup (ds.map U.int))=tups (ds::List.replicate L ds)by unfold tups;rw[List.map_cons,List.map_replicate,List.replicate_succ],e2];walk_at "ev";rw[tn,Zh7 one (L+1) (by lia)];walk_at "ev";rw[pad];have lt:(tups ([one.headD 0]::pad L one.tail)).length=L+1:=by simp[Z8i]
  generalize tups ([one.headD 0]::pad L one.tail)=us at e3 lt ⊢;walk_at "ev";rw[e3];walk_at "ev"
 ·have Lp:=mn.pos;rcases Nat.lt_or_ge L one.length with c|c
  ·lia
  ·rcases Nat.lt_or_ge L other.length with c2|c2
   ·lia
   ·exfalso;obtain⟨k,rfl⟩: ∃ k,L=k+1:=⟨L-1,by lia⟩
    obtain⟨_,y,hy,un,c',e,pc⟩:=p3;have hy:=List.mem_singleton.mp hy;subst hy;have un:=un.resolve_left fun z=>z rfl;have rk:=PC.short a (Zev h3) (Zev h2) (by rw[List.length_tail];lia) (by rw[List.length_tail];lia) pc;refine mn.low k (by lia) c' ⟨fun q=>?_,(a.df.mem _).mpr ⟨_,Zeu z h2,_,Zeu z h3,by lia⟩⟩ rk;subst q;rw[Int.mul_zero]at e;lia
abbrev rea (b:Int)(ds:List Int):Int:=max b (far ds/(b-1))
theorem Zm7 {b:Int}(b2:2<=b)(b1:b<1000){ds:List Int}(h:ds≠[])(hl:ds.length<=1000)(hf:far ds<=4000)(ω:Om):∃ o:Option Int,F_q3 [.int b,.tup (ds.map U.int)] ω=.ok (oU o) ω/\Lk b (rea b ds) ds o:=by
 have f0:=Z2m ds;have q0:0<=far ds/(b-1):=Int.ediv_nonneg f0 (by lia);have q1:far ds/(b-1)<=far ds:=Int.ediv_le_self _ f0;obtain⟨ps,e,c⟩:=F_rl (b:=b) (R:=max b (far ds/(b-1))) b2 b1 (by lia) (by lia) (ds:=ds) ω;have r:Rch b (max b (far ds/(b-1))) ds:=Ze4 b2 (by lia) (by lia);obtain⟨o,lk,k⟩:=Zel c r (some (.tup (ds.map U.int))) ω (max b (far ds/(b-1))).toNat 1 none none (by lia) (by lia) fun m hm=>by
  have:m=0:=by unfold iab at hm;split at hm<;>lia
  subst this;exact .zero
 refine⟨o,?_,lk⟩;unfold F_q3 g_q3;walk_at "ev";rw[Zm1 b2 b1 h hl];walk_at "ev";rw[e];walk_at "ev";rw[show(max b (far ds/(b-1))+1-1).toNat=(max b (far ds/(b-1))).toNat by lia];rcases k with ⟨rfl,z4,z5,ek⟩|⟨k,rfl,ek⟩
 ·rw[ek];walk_at "ev";rfl
 ·rw[ek];walk_at "ev";rfl
structure Ful (b:Int)(es:List Int):Prop where
 all:∀ n,Wr b es n
 res:∀ r,0<=r->r<b->∃ d∈es,d%b=r
theorem Zrn {b:Int}{es:List Int}(z:(0:Int)∈es){n:Int}(w:Wr b es n):∃ d∈es,d%b=n%b:=by
 cases w with
 |zero=>exact⟨0,z,rfl⟩
 |step _ hd=>exact⟨_,hd,by rw[Int.add_mul_emod_self_left]⟩
theorem Zro {b d n:Int}(e:d%b=n%b):n=d+b*((n-d)/b):=by
 have:b ∣ n-d:=Int.dvd_of_emod_eq_zero (by rw[Int.sub_emod,e,Int.sub_self,Int.zero_emod])
 have:=Int.mul_ediv_cancel' this
 lia
theorem Z9r {b R d n q:Int}{es:List Int}(b2:2<=b)(hR:far es/(b-1)<=R)(R0:0<=R)(hd:d∈es)(e:n=d+b*q)(hn:R<n\/n < -R):q.natAbs<n.natAbs:=by
 have fd:=Z7i hd;have hf:far es<(b-1)*(R+1):=by
  have h:=Int.lt_mul_ediv_self_add (x:=far es) (k:=b-1) (by lia);have hm:(b-1)*(far es/(b-1))<=(b-1)*R:=Int.mul_le_mul_of_nonneg_left hR (by lia);have e:(b-1)*(R+1)=(b-1)*R+(b-1):=by rw[Int.mul_add,Int.mul_one]
  lia
 have key:∀ N:Int,R<N->d<=far es -> -far es<=d->((n=N\/n = -N) -> -N<q/\q<N):=fun N hN h1 h2 hn=>by
  have m1:(b-1)*(R+1)<=(b-1)*N:=Int.mul_le_mul_of_nonneg_left (by lia) (by lia);have m2:(b-1)*N=b*N-N:=by rw[Int.sub_mul,Int.one_mul]
  have up:b*q<b*N:=by rcases hn with h|h<;>lia
  have lo:b*(-N)<b*q:=by rw[Int.mul_neg];rcases hn with h|h<;>lia
  have:=Int.lt_of_mul_lt_mul_left up (by lia)
  have:=Int.lt_of_mul_lt_mul_left lo (by lia)
  lia
 rcases hn with h|h
 ·have:=key n h fd.2 fd.1 (.inl rfl);lia
 ·have:=key (-n) (by lia) fd.2 fd.1 (.inr (by lia));lia
theorem Zrp {b:Int}{es:List Int}(b2:2<=b)(z:(0:Int)∈es)(k:Lk b (rea b es) es none):Ful b es:=by
 have q0:0<=far es/(b-1):=Int.ediv_nonneg (Z2m es) (by lia);have res:∀ r,0<=r->r<b->∃ d∈es,d%b=r:=fun r r0 r1=>by
  obtain⟨d,hd,e⟩:=Zrn z (k r (by lia) (by lia));exact⟨d,hd,by rw[e,Int.emod_eq_of_lt r0 r1]⟩
 refine⟨fun n=>?_,res⟩;have:∀(m:Nat) (n:Int),n.natAbs<=m->Wr b es n:=by
  intro m;induction m with
  |zero=>
   intro n hn;have:n=0:=by lia
   subst this;exact .zero
  |succ m ih=>
   intro n hn;by_cases c: -rea b es<=n/\n<=rea b es
   ·exact k n c.1 c.2
   ·obtain⟨d,hd,e⟩:=res (n%b) (Int.emod_nonneg _ (by lia)) (Int.emod_lt_of_pos _ (by lia));have hq:=Zro e;have:=Z9r (R:=rea b es) b2 (by lia) (by lia) hd hq (by lia)
    rw[hq];exact .step (ih _ (by lia)) hd
 exact this _ n (Nat.le_refl _)
theorem Z4q {b:Int}(b2:2<=b):((List.range b.toNat).map fun i:Nat=>(i:Int)).length=b.toNat:=by simp
theorem Ful.inj {b:Int}{es:List Int}(b2:2<=b)(f:Ful b es)(n:es.Nodup)(l:(es.length:Int)=b){x y:Int}(hx:x∈es)(hy:y∈es)(e:x%b=y%b):x=y:=by
 by_cases c:x=y
 ·exact c
 ·have nr:((List.range b.toNat).map fun i:Nat=>(i:Int)).Nodup:=List.Pairwise.map _ (fun i j h=>by lia) List.nodup_range;have:=Z2n (ys:=(es.erase x).map (· % b)) nr fun r hr=>by
   obtain⟨i,hi,rfl⟩:=List.mem_map.mp hr;have hi:=List.mem_range.mp hi;obtain⟨d,hd,ed⟩:=f.res i (by lia) (by lia);by_cases cd:d=x
   ·exact List.mem_map.mpr ⟨y,(List.mem_erase_of_ne fun z=>c z.symm).mpr hy,by rw[<-ed,cd,e]⟩
   ·exact List.mem_map.mpr ⟨d,(List.mem_erase_of_ne cd).mpr hd,ed⟩
  rw[Z4q b2,List.length_map,List.length_erase_of_mem hx]at this;have:=List.length_pos_of_mem hx
  lia
theorem Ful.two {b:Int}{es:List Int}(b2:2<=b)(f:Ful b es)(n:es.Nodup)(l:(es.length:Int)≠b):∃ x∈es,∃ y∈es,x≠y/\x%b=y%b:=by
 have nr:((List.range b.toNat).map fun i:Nat=>(i:Int)).Nodup:=List.Pairwise.map _ (fun i j h=>by lia) List.nodup_range;have l1:=Z2n (ys:=es.map (· % b)) nr fun r hr=>by
  obtain⟨i,hi,rfl⟩:=List.mem_map.mp hr;have hi:=List.mem_range.mp hi;obtain⟨d,hd,ed⟩:=f.res i (by lia) (by lia);exact List.mem_map.mpr ⟨d,hd,ed⟩
 rw[Z4q b2,List.length_map]at l1;by_cases c:∃ x∈es,∃ y∈es,x≠y/\x%b=y%b
 ·exact c
 ·exfalso;have n2:(es.map (· % b)).Nodup:=by
   rw[List.nodup_iff_pairwise_ne,List.pairwise_map];refine List.Pairwise.imp_of_mem (fun{x y} hx hy h e=>c ⟨x,hx,y,hy,h,e⟩) n
  have:=Z2n (ys:=(List.range b.toNat).map fun i:Nat=>(i:Int)) n2 fun r hr=>by
   obtain⟨d,hd,rfl⟩:=List.mem_map.mp hr;have h0:=Int.emod_nonneg d (show b≠0 by lia);have h1:=Int.emod_lt_of_pos d (show 0<b by lia);exact List.mem_map.mpr ⟨(d%b).toNat,List.mem_range.mpr (by lia),by simp;lia⟩
  rw[Z4q b2,List.length_map]at this;lia
theorem Ful.hex {b R:Int}{es A:List Int}(a:Ap b es A R)(f:Ful b es)(l:(es.length:Int)≠b):∃ k w,Cr b A w/\RK b R A k w:=by
 have b2:=a.b2;obtain⟨x,hx,y,hy,ne,e⟩:=f.two b2 a.dg.nd l;have hq:=Zro e;have hA:y-x∈A:=(a.df.mem _).mpr ⟨x,hx,y,hy,rfl⟩;have hw:b*((y-x)/b)=y-x:=by lia
 have fA:=Z7i hA;generalize (y-x)/b=w at hq hw;have Rb: -R<=w/\w<=R:=by
  have h:=Int.lt_mul_ediv_self_add (x:=far A) (k:=b-1) (by lia);rw[<-a.rr]at h;have R0:=a.R0;have e1:(b-1)*(R+1)=b*(R+1)-(R+1):=by rw[Int.sub_mul,Int.one_mul]
  have e2:(b-1)*(R+1)=(b-1)*R+(b-1):=by rw[Int.mul_add,Int.mul_one]
  have up:b*w<b*(R+1):=by lia
  have lo:b*(-(R+1))<b*w:=by rw[Int.mul_neg];lia
  have:=Int.lt_of_mul_lt_mul_left up (by lia)
  have:=Int.lt_of_mul_lt_mul_left lo (by lia)
  lia
 obtain⟨k,hk⟩:=a.wr (f.all w) Rb.1 Rb.2;exact⟨k,w,⟨fun z=>by subst z;rw[Int.mul_zero]at hw;lia,by rw[hw];exact hA⟩,hk⟩
inductive OR (b:Int)(es:List Int):Int->List Int->Prop
 |nil:OR b es 0 []
 |cons {x d q:Int}{r:List Int}(hx:x≠0)(hd:d∈es)(e:x=d+b*q)(h:OR b es q r):OR b es x (d::r)
theorem Zto {b:Int}{es:List Int}{n:Int}(w:Wr b es n):∃ r,OR b es n r:=by
 induction w with
 |zero=>exact⟨[],.nil⟩
 |@step n d h hd ih=>
  obtain⟨r,hr⟩:=ih;by_cases c:d+b*n=0
  ·rw[c];exact⟨[],.nil⟩
  ·exact⟨d::r,.cons c hd rfl hr⟩
def Inj (b:Int)(es:List Int):Prop:=∀ x∈es,∀ y∈es,x%b=y%b->x=y
theorem Z8j {b:Int}{es:List Int}(b2:2<=b)(i:Inj b es){n:Int}{r s:List Int}(h:OR b es n r):OR b es n s->r=s:=by
 induction h generalizing s with
 |nil=>intro h';cases h' with
  |nil=>rfl
  |cons hx _ _ _=>exact absurd rfl hx
 |@cons x d q r hx hd e h ih=>
  intro h'
  cases h' with
  |nil=>exact absurd rfl hx
  |@cons _ d' q' r' _ hd' e' h'=>
   have ed:d=d':=i d hd d' hd' (by
    have h1:x%b=d%b:=by rw[e,Int.add_mul_emod_self_left]
    have h2:x%b=d'%b:=by rw[e',Int.add_mul_emod_self_left]
    rw[<- h1,h2])
   subst ed;have eq:q=q':=Int.eq_of_mul_eq_mul_left (a:=b) (by lia) (by lia);subst eq;rw[ih h']
theorem Zrq {b R M:Int}{es:List Int}(b2:2<=b)(i:Inj b es)(hR:far es/(b-1)<=R)(R0:0<=R)(RM:R<=M){n:Int}{r:List Int}(h:OR b es n r): -M<=n->n<=M->∃ vs:List Int,vs.length=r.length/\vs.Nodup/\(∀ v∈vs,-M<=v/\v<=M)/\∀ v∈vs,∃ s,OR b es v s/\s.length<=r.length:=by
 induction h with
 |nil=>exact fun ψ ψ=>⟨[],rfl,by simp,by simp,by simp⟩
 |@cons x d q r hx hd e h ih=>
  intro h1 h2;have hq: -M<=q/\q<=M:=by
   by_cases c: -R<=x/\x<=R
   ·have:=Ze4 b2 hR R0 q d hd (by rw[<-e];exact c.1) (by rw[<-e];exact c.2)
    lia
   ·have:=Z9r b2 hR R0 hd e (by lia)
    lia
  obtain⟨vs,l,nd,bd,al⟩:=ih hq.1 hq.2;refine⟨x::vs,by simp[l],List.nodup_cons.mpr ⟨fun hv=>?_,nd⟩,fun v hv=>?_,fun v hv=>?_⟩
  ·obtain⟨s,hs,ls⟩:=al x hv;have:=Z8j b2 i hs (.cons hx hd e h)
   rw[this]at ls;rw[List.length_cons]at ls;lia
  ·rcases List.mem_cons.mp hv with rfl|hv
   ·exact⟨h1,h2⟩
   ·exact bd v hv
  ·rcases List.mem_cons.mp hv with rfl|hv
   ·exact⟨d::r,.cons hx hd e h,Nat.le_refl _⟩
   ·obtain⟨s,hs,ls⟩:=al v hv;exact⟨s,hs,by simp;lia⟩
theorem Zh8 {b M:Int}{es:List Int}(b2:2<=b)(i:Inj b es)(hM:far es<=M){n:Int}{r:List Int}(h:OR b es n r)(h1: -M<=n)(h2:n<=M):(r.length:Int)<=2*M+1:=by
 have f0:=Z2m es;have q0:0<=far es/(b-1):=Int.ediv_nonneg f0 (by lia);have q1:far es/(b-1)<=far es:=Int.ediv_le_self _ f0;obtain⟨vs,l,nd,bd,_⟩:=Zrq b2 i (Int.le_refl _) q0 (by lia) h h1 h2;have:=Z7j nd bd
 lia
theorem Zj0 {b:Int}{es fs:List Int}(h:∀ d∈es,-d∈fs){n:Int}(w:Wr b es n):Wr b fs (-n):=by
 induction w with
 |zero=>exact .zero
 |step _ hd ih=>rw[Int.neg_add,<-Int.mul_neg];exact .step ih (h _ hd)
theorem Zrr {b:Int}{es fs:List Int}(h:∀ d∈es,-d∈fs){n:Int}{r:List Int}(w:OR b es n r):OR b fs (-n) (r.map (0 - ·)):=by
 induction w with
 |nil=>exact .nil
 |@cons x d q r hx hd e _ ih=>
  rw[List.map_cons];exact .cons (q := -q) (by lia) (by rw[Int.zero_sub];exact h d hd) (by rw[Int.mul_neg];lia) ih
def Byr2 (b:Int)(es:List Int)(ps:Ps):Prop:=∀ d∈es,asc ps (d%b)=some (.int d)
theorem Zh9 {b:Int}{es:List Int}(b2:2<=b)(b1:b<1000){ps:Ps}(hp:Byr2 b es ps)(N:Option U)(ω:Om){n:Int}{r:List Int}(h:OR b es n r):∀(ls:List Int)(y:Option U),ls.length+r.length<=100000 ->
  ∃ y':Option U,sWh (tfB (eOp uNe (eVar 4) (eC (.int 0)))) Z63 [some (.int b),some (dicI ps),N,some (.lst (ls.map U.int)),some (.int n),y] ω=.nx [some (.int b),some (dicI ps),N,some (.lst ((ls++r).map U.int)),some (.int 0),y'] ω:=by
 induction h with
 |nil=>
  intro ls y ψ;rw[List.append_nil];refine⟨y,Z7z ?_⟩;walk_at "ev"
 |@cons x d q r hx hd e h ih=>
  intro ls y hl;rw[List.length_cons]at hl;obtain⟨y',ek⟩:=ih (ls++[d]) (some (.int d)) (by simp;lia);refine⟨y',?_⟩;have hm:x%b=d%b:=by rw[e,Int.add_mul_emod_self_left]
  have hq:(x-d)/b=q:=by rw[e,show d+b*q-d=b*q by lia,Int.mul_ediv_cancel_left q (by lia)]
  have tst:(tfB (eOp uNe (eVar 4) (eC (.int 0)))) [some (.int b),some (dicI ps),N,some (.lst (ls.map U.int)),some (.int x),y] ω=.ok true ω:=by
   walk_at "ev";simp[hx]
  have stp:Z63 [some (.int b),some (dicI ps),N,some (.lst (ls.map U.int)),some (.int x),y] ω=.nx [some (.int b),some (dicI ps),N,some (.lst ((ls++[d]).map U.int)),some (.int q),some (.int d)] ω:=by
   rw[Z63];walk_at "ev";rw[hm,hp d hd];walk_at "ev";rw[hq,List.map_append];rfl
  rw[Z5n tst stp,ek,List.append_assoc];rfl
theorem Zm8 {b:Int}{es:List Int}(b2:2<=b)(b1:b<1000){ps:Ps}(hp:Byr2 b es ps){n:Int}{r:List Int}(h:OR b es n r)(hr:r.length<=100000)(ω:Om):Zeh [.int b,dicI ps,.int n] ω=.ok (.tup (r.map U.int)) ω:=by
 obtain⟨y,e⟩:=Zh9 b2 b1 hp (some (.int n)) ω h [] none (by simpa using hr);simp only[List.map_nil,List.nil_append]at e;unfold Zeh Zlv;walk_at "ev";rw[e];walk_at "ev"
theorem Z9s {b:Int}{es:List Int}(b2:2<=b)(b1:b<1000)(i:Inj b es)(D A4 A5 A6:Option U)(ω:Om):∀(xs:List Int)(ps:Ps)(y:Option U),xs.length+ps.length<=1000->(∀ d∈xs,d∈es) ->
  ∃(ps':Ps)(y':Option U),forU (Z0r (Z0c 3) Z9k) (xs.map U.int) [some (.int b),D,some (dicI ps),y,A4,A5,A6] ω=.nx [some (.int b),D,some (dicI ps'),y',A4,A5,A6] ω/\(∀ d∈xs,asc ps' (d%b)=some (.int d))/\(∀ d∈es,asc ps (d%b)=some (.int d)->asc ps' (d%b)=some (.int d))
 |[],ps,y,_,_=>⟨ps,y,rfl,fun ψ h=>absurd h (by simp),fun ψ ψ h=>h⟩
 |d::xs,ps,y,hl,hx=>by
  simp at hl;have pl:=Z98 (ps:=ps) (k:=d%b) (u:=.int d);obtain⟨ps',y',e,k1,k2⟩:=Z9s b2 b1 i D A4 A5 A6 ω xs (putI ps (d%b) (.int d)) (some (.int d)) (by lia) (fun q hq=>hx q (List.mem_cons_of_mem _ hq));refine⟨ps',y',?_,fun q hq=>?_,fun q hq h=>k2 q hq ?_⟩
  ·rw[List.map_cons,forU,Z9k];walk_at "ev";rw[<-Z9k];exact e
  ·rcases List.mem_cons.mp hq with rfl|hq
   ·exact k2 q (hx q (by simp)) (by rw[Z3k,if_pos rfl])
   ·exact k1 q hq
  ·rw[Z3k];split
   ·next z=>rw[i q hq d (hx d (by simp)) z]
   ·exact h
structure Ppr (b B:Int)(es:List Int)(qs:Ps):Prop where
 nd:(ky qs).Nodup
 mem:∀ k,k∈ky qs ↔ -B<=k/\k<=B
 row:∀ k u,asc qs k=some u->∃ r:List Int,u=.tup (r.map U.int)/\OR b es k r/\r.length<=1000
theorem Z9t {b B:Int}{es:List Int}(b2:2<=b)(b1:b<1000)(i:Inj b es)(all:∀ n,Wr b es n)(hB:far es<=B)(B1:B<=100){ps:Ps}(hp:Byr2 b es ps)(D A3 A4:Option U)(ω:Om):∀(n:Nat) (s:Int)(qs:Ps)(y:Option U),-B<=s->s+n=B+1->(ky qs).Nodup->(∀ k,k∈ky qs ↔ -B<=k/\k<s)->(∀ k u,asc qs k=some u->∃ r:List Int,u=.tup (r.map U.int)/\OR b es k r/\r.length<=1000) ->
  ∃(qs':Ps)(y':Option U),forU (Z0r (Z0c 6) Z9l) (rngU s n) [some (.int b),D,some (dicI ps),A3,A4,some (dicI qs),y] ω=.nx [some (.int b),D,some (dicI ps),A3,A4,some (dicI qs'),y'] ω/\Ppr b B es qs'
 |0,s,qs,y,s0,s1,nd,m,rw'=>⟨qs,y,rfl,nd,fun k=>by rw[m k];lia,rw'⟩
 |n+1,s,qs,y,s0,s1,nd,m,rw'=>by
  obtain⟨r,hr⟩:=Zto (all s);have rl:=Zh8 b2 i hB hr s0 (by lia);have e1:=Zm8 b2 b1 hp hr (by lia) ω;have ql:qs.length<=1000:=by
   have:=Z7j nd (a := -B) (b:=B) fun z hz=>by have:=(m z).mp hz;lia
   rw[List.length_map]at this;lia
  obtain⟨qs',y',e,h⟩:=Z9t b2 b1 i all hB B1 hp D A3 A4 ω n (s+1) (putI qs s (.tup (r.map U.int))) (some (.int s)) (by lia) (by lia) (Z3j nd) (fun k=>by rw[Z23,m k];lia) (fun k u hu=>by
   rw[Z3k]at hu;split at hu
   ·next z=>subst z;exact⟨r,(Option.some.inj hu).symm,hr,by lia⟩
   ·exact rw' k u hu)
  refine⟨qs',y',?_,h⟩;rw[Z2a,forU,Z9l];walk_at "ev";rw[e1];walk_at "ev";rw[<-Z9l];exact e
theorem Ztp {b:Int}{es:List Int}(h:Dg b es)(i:Inj b es)(all:∀ n,Wr b es n)(ω:Om):∃ qs:Ps,F_q6 [.int b,.tup (es.map U.int)] ω=.ok (dicI qs) ω/\Ppr b (far es) es qs:=by
 have b2:=h.b2;have b9:=h.b9;have hl:=h.len;have f0:=Z2m es;have f1:far es<=60:=far_le (by lia) h.bd;obtain⟨ps,y,e,k1,k2⟩:=Z9s (b:=b) b2 (by lia) i (some (.tup (es.map U.int))) none none none ω es [] none (by simp;lia) (fun d hd=>hd);obtain⟨qs,z,eq,hq⟩:=Z9t b2 (by lia) i all (Int.le_refl (far es)) (by lia) k1 (some (.tup (es.map U.int))) y (some (.int (far es))) ω (2*far es+1).toNat (-far es) [] none (by lia) (by lia) (by simp) (fun k=>by constructor<;>intro h<;>first|(simp at h;done)|lia) (fun k u hu=>by simp[asc]at hu);refine⟨qs,?_,hq⟩;unfold F_q6 g_q6;walk_at "ev";rw[e];walk_at "ev";rw[Zm0 h.ne (by lia)];walk_at "ev";rw[show(far es+1 - -far es).toNat=(2*far es+1).toNat by lia,eq];walk_at "ev"
theorem dep0:∀ ns:List Int,L2.D.depths (ns.map L2.D.int)=0
 |[]=>by rw[List.map_nil,L2.D.depths]
 |n::ns=>by rw[List.map_cons,L2.D.depths,dep0 ns,L2.D.depth];rfl;all_goals simp
theorem eqs0:∀ ns:List Int,L2.D.eqs (ns.map L2.D.int) (ns.map L2.D.int)=true
 |[]=>by rw[List.map_nil,L2.D.eqs]
 |n::ns=>by rw[List.map_cons,L2.D.eqs,eqs0 ns,L2.D.eq];simp
def dRow (u:U):L2.D:=(U.toD u).getD .non
def Zbb (u:U):Prop:=∃ row:List Int,u=.tup (row.map U.int)
theorem Zex {u:U}(h:Zbb u):L2.D.eq (dRow u) (dRow u)=true:=by
 obtain⟨row,rfl⟩:=h;unfold dRow;rw[U.toD,Z1y];show L2.D.eq (.tup (row.map L2.D.int)) (.tup (row.map L2.D.int))=true;rw[L2.D.eq,eqs0]
theorem Z37:∀{us:List U},(∀ u∈us,Zbb u)->U.toDs us=some (us.map dRow)/\L2.D.depths (us.map dRow)<=3
 |[],_=>⟨by rw[U.toDs];rfl,by rw[List.map_nil,L2.D.depths];decide⟩
 |u::us,h=>by
  obtain⟨row,e⟩:=h u (by simp);obtain⟨e1,e3⟩:=Z37 fun v hv=>h v (List.mem_cons_of_mem _ hv);subst e;have ed:dRow (.tup (row.map U.int))=.tup (row.map L2.D.int):=by unfold dRow;rw[U.toD,Z1y];rfl
  refine⟨?_,?_⟩
  ·rw[U.toDs,U.toD,Z1y,e1,List.map_cons,ed];rfl
  ·rw[List.map_cons,ed,L2.D.depths,L2.D.depth,dep0];lia
theorem Zha {ps qs:Ps}(n:(ky ps).Nodup)(n':(ky qs).Nodup)(hk:∀ k,k∈ky ps↔k∈ky qs)(hv:∀ k,k∈ky ps->asc ps k=asc qs k)(hr:∀ p∈ps,Zbb p.2):Z2u (ps.map (·.1)) ((ps.map (·.2)).map dRow) (qs.map (·.1)) ((qs.map (·.2)).map dRow)=true:=by
 have l1:=Z2n n fun z hz=>(hk z).mp hz;have l2:=Z2n n' fun z hz=>(hk z).mpr hz;unfold Z2u;rw[decide_eq_true (by unfold ky at l1 l2;lia),Bool.true_and,List.all_eq_true];intro i hi;have hi:=List.mem_range.mp hi;rw[List.length_map]at hi;have ek:(ps.map (·.1)).getD i 0=(ps[i]).1:=by rw[List.getD_eq_getElem?_getD,List.getElem?_map,List.getElem?_eq_getElem hi];rfl
 rw[ek];have hin:(ps[i]).1∈ky ps:=List.mem_map.mpr ⟨_,List.getElem_mem hi,rfl⟩;have ha:asc ps (ps[i]).1=some (ps[i]).2:=Z59 n (List.getElem_mem hi);have hq:=(hk _).mp hin
 cases hf:(qs.map (·.1)).findIdx? (fun k=>decide (k=(ps[i]).1))with
 |none=>
  have:=List.findIdx?_eq_none_iff.mp hf _ hq
  simp at this
 |some j=>
  simp only;obtain⟨hj,hp,_⟩:=List.findIdx?_eq_some_iff_getElem.mp hf;rw[List.length_map]at hj;have ej:(qs[j]).1=(ps[i]).1:=by simpa using hp
  have hb:asc qs (ps[i]).1=some (qs[j]).2:=by rw[<-ej];exact Z59 n' (List.getElem_mem hj)
  have ev:(ps[i]).2=(qs[j]).2:=by
   have:=hv _ hin
   rw[ha,hb]at this;exact Option.some.inj this
  rw[List.getD_eq_getElem?_getD,List.getD_eq_getElem?_getD,List.getElem?_map,List.getElem?_map,List.getElem?_map,List.getElem?_map,List.getElem?_eq_getElem hi,List.getElem?_eq_getElem hj];show L2.D.eq (dRow (ps[i]).2) (dRow (qs[j]).2)=true;rw[<-ev];exact Zex (hr _ (List.getElem_mem hi))
theorem Zj1 {ps qs:Ps}(n:(ky ps).Nodup)(n':(ky qs).Nodup)(hk:∀ k,k∈ky ps↔k∈ky qs)(hv:∀ k,k∈ky ps->asc ps k=asc qs k)(hr:∀ p∈ps,Zbb p.2)(hr':∀ p∈qs,Zbb p.2):uEqD false (dicI ps) (dicI qs)=some (.bl true):=by
 obtain⟨e1,d1⟩:=Z37 (us:=ps.map (·.2)) fun u hu=>by obtain⟨p,hp,rfl⟩:=List.mem_map.mp hu;exact hr p hp
 obtain⟨e2,d2⟩:=Z37 (us:=qs.map (·.2)) fun u hu=>by obtain⟨p,hp,rfl⟩:=List.mem_map.mp hu;exact hr' p hp
 unfold uEqD;rw[asD_I,asD_I];simp only[Option.bind_some];rw[e1,e2];simp only[Option.bind_some];rw[if_pos (by lia),Zha n n' hk hv hr];rfl
theorem Ppr.rows {b B:Int}{es:List Int}{qs:Ps}(h:Ppr b B es qs):∀ p∈qs,Zbb p.2:=fun p hp=>by
 obtain⟨r,e,_⟩:=h.row p.1 p.2 (Z59 h.nd hp);exact⟨r,e⟩
theorem Ppr.get {b B:Int}{es:List Int}{qs:Ps}(h:Ppr b B es qs){k:Int}(hk:k∈ky qs):∃ r:List Int,asc qs k=some (.tup (r.map U.int))/\OR b es k r/\r.length<=1000:=by
 obtain⟨u,hu⟩:=Option.isSome_iff_exists.mp (Z1o.mpr hk);obtain⟨r,rfl,h⟩:=h.row k u hu;exact⟨r,hu,h⟩
inductive Jd (b:Int)(es:List Int):U->Prop
 |lk {k:Int}:Lk b (rea b es) es (some k)->Jd b es (.tup [.str "lacks",.int k])
 |ea {qs:Ps}:Ful b es->(es.length:Int)=b->Ppr b (far es) es qs->Jd b es (.tup [.str "each",dicI qs])
 |tw {one other A:List Int}{L:Nat}{R:Int}:Ful b es->(es.length:Int)≠b->Ap b es A R->Mn b R A L->max one.length other.length=L+1->L<1000->Tw b R es L one other->Jd b es (.tup [.str "twice",.tup (one.map U.int),.tup (other.map U.int)])
theorem F_jd {b:Int}{ds:List Int}(h:Dg b (srt ds))(hl:ds.length<64)(ω:Om):∃ u,F_q4 [.int b,.tup (ds.map U.int)] ω=.ok u ω/\Jd b (srt ds) u:=by
 have b2:=h.b2;have b9:=h.b9;have hln:=Z4h ds;obtain⟨o,e,k⟩:=Zm7 (b:=b) b2 (by lia) h.ne (by have:=h.len;lia) (Int.le_trans (far_le (B:=60) (by decide) h.bd) (by decide)) ω
 cases o with
 |some k'=>
  refine⟨_,?_,.lk k⟩;unfold F_q4 g_q4;walk_at "ev";rw[e];simp only[oU];walk_at "ev"
 |none=>
  have f:=Zrp b2 h.z k;by_cases c:((srt ds).length:Int)=b
  ·obtain⟨qs,eq,hq⟩:=Ztp h (fun x hx y hy e=>f.inj b2 h.nd c hx hy e) f.all ω;refine⟨_,?_,.ea f c hq⟩;unfold F_q4 g_q4;walk_at "ev";rw[e];simp only[oU];walk_at "ev";rw[if_pos c];walk_at "ev";rw[eq];walk_at "ev"
  ·obtain⟨A,R,_,a⟩:=Zrk h ω;obtain⟨one,other,L,ep,mn,mx,hL,tw⟩:=Zrm a (f.hex a c) ω;refine⟨_,?_,.tw f c a mn mx hL tw⟩;unfold F_q4 g_q4;walk_at "ev";rw[e];simp only[oU];walk_at "ev";rw[if_neg c];walk_at "ev";rw[ep];walk_at "ev"
theorem Z5e (x:Int):(iab x=x/\0<=x)\/(iab x = -x/\x<0):=by unfold iab;split<;>lia
theorem Zm9 {b R:Int}{es:List Int}{k k':Int}(h:Lk b R es (some k))(h':Lk b R es (some k')):k=k':=by
 obtain⟨a1,a2,a3,a4,a5⟩:=h;obtain⟨c1,c2,c3,c4,c5⟩:=h';by_cases x:iab k<iab k'
 ·exact absurd (c4 k x) a1
 ·by_cases y:iab k'<iab k
  ·exact absurd (a4 k' y) c1
  ·by_cases e:k=k'
   ·exact e
   ·have e2:k = -k':=by rcases Z5e k with p|p<;>rcases Z5e k' with q|q<;>lia
    by_cases n:k<0
    ·exact absurd (a5 n) (by rw[e2,Int.neg_neg];exact c1)
    ·by_cases n':k'<0
     ·exact absurd (c5 n') (by rw[<-e2];exact a1)
     ·lia
theorem Zma {us:List U}{ds:List L2.D}(e:U.toDs us=some ds)(dp:L2.D.depths ds<=40)(h:∀ d∈ds,L2.D.eq d d=true):uNe (.tup us) (.tup us)=some (.bl false):=by
 unfold uNe;show Option.map _ (uEqs us us)=_;unfold uEqs;rw[e];simp only[Option.bind_some];rw[if_pos dp,Z9g ds h];rfl
theorem Z9u {us:List U}{ds:List L2.D}(e:U.toDs us=some ds)(dp:L2.D.depths ds<=40)(h:∀ d∈ds,L2.D.eq d d=true):uNeJ (.tup us) (.tup us)=some (.bl false):=by
 unfold uNeJ;rw[Zma e dp h]
theorem Zmb {s:Str}{ps qs:Ps}(e:uEqD false (dicI ps) (dicI qs)=some (.bl true)):uNeJ (.tup [.str s,dicI ps]) (.tup [.str s,dicI qs])=some (.bl false):=by
 have n:uNe (.tup [.str s,dicI ps]) (.tup [.str s,dicI qs])=none:=by
  unfold uNe;show Option.map (fun k=>U.bl !k) (uEqs [.str s,dicI ps] [.str s,dicI qs])=_;unfold uEqs dicI;rw[U.toDs,U.toD,U.toDs,U.toD];rfl;all_goals simp
 unfold uNeJ;rw[n];unfold Zgn;simp only;rw[e];simp
theorem Zmc {b:Int}{es:List Int}{u v:U}(b2:2<=b)(nd:es.Nodup)(h:Jd b es u)(h':Jd b es v):uNeJ v u=some (.bl false):=by
 cases h with
 |lk k=>
  cases h' with
  |lk k'=>
   rw[Zm9 k' k];refine Z9u (ds:=[.str "lacks",.int _]) (by rw[U.toDs,U.toDs,U.toDs,U.toD,U.toD];rfl) ?_ fun d hd=>?_
   ·rw[L2.D.depths,L2.D.depths,L2.D.depths,L2.D.depth,L2.D.depth];decide;all_goals simp
   ·simp at hd;rcases hd with rfl|rfl
    ·rw[L2.D.eq];simp
    ·rw[L2.D.eq];simp
  |ea f _ _=>exact absurd (f.all _) k.1
  |tw f _ _ _ _ _ _=>exact absurd (f.all _) k.1
 |ea f l q=>
  cases h' with
  |lk k=>exact absurd (f.all _) k.1
  |ea f' l' q'=>
   refine Zmb (Zj1 q'.nd q.nd (fun k=>(q'.mem k).trans (q.mem k).symm) (fun k hk=>?_) q'.rows q.rows);obtain⟨r',e',o',_⟩:=q'.get hk;obtain⟨r,e,o,_⟩:=q.get ((q.mem k).mpr ((q'.mem k).mp hk));rw[e,e',Z8j b2 (fun x hx y hy e=>f.inj b2 nd l hx hy e) o o']
  |tw _ l' _ _ _ _ _=>exact absurd l l'
 |@tw one other A L R f l a mn mx hL t=>
  cases h' with
  |lk k=>exact absurd (f.all _) k.1
  |ea _ l' _=>exact absurd l' l
  |@tw one' other' A' L' R' f' _ a' mn' mx' hL' t'=>
   obtain⟨rfl,rfl⟩:=a.eq a';have:=mn.uniq mn'
   subst this;obtain⟨rfl,rfl⟩:=t.uniq t';obtain⟨e1,d1⟩:=Z37 (us:=[U.tup (one.map U.int),U.tup (other.map U.int)]) (fun u hu=>by
    simp at hu;rcases hu with rfl|rfl
    ·exact⟨_,rfl⟩
    ·exact⟨_,rfl⟩)
   refine Z9u (ds:=.str "twice" :: [U.tup (one.map U.int),U.tup (other.map U.int)].map dRow) (by rw[U.toDs,U.toD,e1];rfl) ?_ fun d hd=>?_
   ·rw[L2.D.depths,L2.D.depth]
    ·lia
    all_goals simp
   ·rcases List.mem_cons.mp hd with rfl|hd
    ·rw[L2.D.eq];simp
    ·obtain⟨u,hu,rfl⟩:=List.mem_map.mp hd;refine Zex ?_;simp at hu;rcases hu with rfl|rfl
     ·exact⟨_,rfl⟩
     ·exact⟨_,rfl⟩
theorem Z9v:∀(ps acc:Ps),(ky (acc++ps)).Nodup->ps.foldl (fun a q=>putI a q.1 q.2) acc=acc++ps
 |[],acc,_=>by simp
 |q::ps,acc,h=>by
  have hq:q.1∉ky acc:=fun z=>by
   unfold ky at h z;rw[List.map_append,List.nodup_append]at h;exact h.2.2 q.1 z q.1 (by simp) rfl
  rw[List.foldl_cons,Z2f hq,Z9v ps (acc++[(q.1,q.2)]) (by simpa using h)];simp
theorem Zrs {ps:Ps}(h:(ky ps).Nodup):ofI ps=ps:=by
 unfold ofI;rw[Z9v ps [] (by simpa using h)];simp
theorem Zj2 (f:Int->Int)(g:Int->U):∀ ns:List Int,asPs (ns.map fun n=>U.tup [.int (f n),g n])=some (ns.map fun n=>(f n,g n))
 |[]=>rfl
 |n::ns=>by
  rw[List.map_cons,asPs];simp only[asPr,Option.bind_some];rw[Zj2 f g ns];rfl
theorem Zj3 {r:List Int}(hl:r.length<=1000)(ω:Om):Z64 [.tup (r.map U.int)] ω=.ok (.tup ((r.map (0 - ·)).map U.int)) ω:=by
 unfold Z64 Zly;walk_at "ev";have e:cmpU (cstU (Z0c 0) Z1m (eOp uSub (eC (.int 0)) (eVar 0)) [none]) (r.map U.int) ω=.ok ((r.map (0 - ·)).map U.int) ω:=by
  refine(Z1h (f:=fun d=>some (U.int (0-d))) fun x hx=>?_).trans (by rw[List.map_map,<-List.filterMap_eq_map];rfl);walk_at "ev"
 rw[e];walk_at "ev"
theorem Z9w {s:Str}{one other:List Int}(h1:one.length<=2000)(h2:other.length<=2000)(ω:Om):F_q8 [.tup [.str s,.tup (one.map U.int),.tup (other.map U.int)]] ω=.ok (.int (max one.length other.length:Nat)) ω:=by
 unfold F_q8 g_q8;walk_at "ev";rw[show(2:Int)=((2:Nat):Int)from rfl,Z1r];walk_at "ev";congr 2;lia
structure Trn (es fs:List Int):Prop where
 mem:∀ x,x∈fs ↔ -x∈es
 len:fs.length=es.length
theorem Trn.symm {es fs:List Int}(t:Trn es fs):Trn fs es:=⟨fun x=>by rw[t.mem];simp,t.len.symm⟩
theorem Trn.wr {b:Int}{es fs:List Int}(t:Trn es fs){n:Int}:Wr b fs n↔Wr b es (-n):=by
 constructor
 ·exact Zj0 fun d hd=>(t.mem d).mp hd
 ·intro w;have:=Zj0 (fs:=fs) (fun d hd=>(t.mem _).mpr (by rw[Int.neg_neg];exact hd)) w
  rw[Int.neg_neg]at this;exact this
theorem Trn.far_le {es fs:List Int}(t:Trn es fs):far fs<=far es:=L2.far_le (Z2m es) fun d hd=>by
 have:=Z7i ((t.mem d).mp hd);lia
theorem Trn.far {es fs:List Int}(t:Trn es fs):far fs=far es:=by
 have:=t.far_le;have:=t.symm.far_le;lia
theorem Trn.dif {es fs A A':List Int}(t:Trn es fs)(h:Dif es es A)(h':Dif fs fs A'):A'=A:=by
 refine Z9n h'.asc h.asc fun z=>(h'.mem z).trans (Iff.trans ?_ (h.mem z).symm);constructor
 ·rintro⟨x,hx,y,hy,e⟩;exact⟨-y,(t.mem y).mp hy,-x,(t.mem x).mp hx,by lia⟩
 ·rintro⟨x,hx,y,hy,e⟩;exact⟨-y,(t.mem _).mpr (by rw[Int.neg_neg];exact hy),-x,(t.mem _).mpr (by rw[Int.neg_neg];exact hx),by lia⟩
theorem Trn.lk {b:Int}{es fs:List Int}(t:Trn es fs){R R' k k':Int}(h:Lk b R es (some k))(h':Lk b R' fs (some k')):iab k=iab k'/\(0<k\/0<k'):=by
 obtain⟨a1,a2,a3,a4,a5⟩:=h;obtain⟨c1,c2,c3,c4,c5⟩:=h';have k0:k≠0:=fun e=>a1 (by rw[e];exact .zero);have k0':k'≠0:=fun e=>c1 (by rw[e];exact .zero);have ng:∀ x,iab (-x)=iab x:=fun x=>by rcases Z5e x with p|p<;>rcases Z5e (-x)with q|q<;>lia
 have e:iab k=iab k':=by
  by_cases x:iab k<iab k'
  ·have:=t.wr.mp (c4 (-k) (by rw[ng];exact x))
   rw[Int.neg_neg]at this;exact absurd this a1
  ·by_cases y:iab k'<iab k
   ·exact absurd (t.wr.mpr (a4 (-k') (by rw[ng];exact y))) c1
   ·lia
 refine⟨e,?_⟩;by_cases n:0<k
 ·exact .inl n
 ·by_cases n':0<k'
  ·exact .inr n'
  ·have ek:k=k':=by rcases Z5e k with p|p<;>rcases Z5e k' with q|q<;>lia
   have:=a5 (by lia)
   exact absurd (t.wr.mpr (by rw[<-ek];exact this)) c1
def rowF (qs:Ps) (k:Int):List Int:=match asc qs k with
 |some (.tup us)=>(Z13 us).getD []
 |_=>[]
theorem Zey {qs:Ps}{k:Int}{r:List Int}(h:asc qs k=some (.tup (r.map U.int))):rowF qs k=r:=by
 unfold rowF;rw[h];simp only;rw[Z14];rfl
theorem Zez {b B:Int}{es:List Int}{qs:Ps}(h:Ppr b B es qs)(B0:0<=B)(B1:B<=60):qs.length<=1000:=by
 have:=Z4o B0 h.nd fun z hz=>(h.mem z).mp hz
 lia
theorem Zrt {α β:Type}(f:α->β)(l:List α):l.filterMap (fun x=>some (f x))=l.map f:=by
 rw[<-List.filterMap_eq_map];rfl
theorem Zf0 {b B:Int}{es:List Int}{qs:Ps}{s:Str}(h:Ppr b B es qs)(ω:Om):cmpU (cstU (Z0c 0) Z1m (eTup (Z01 (eOp uSub (eC (.int 0)) (eVar 0)) (Z01 (Z0b Z64 (Z01 (eOp Z4g (eOp uIx (eVar 1) (eC (.int 1))) (eVar 0)) aNil)) aNil))) [none,some (.tup [.str s,dicI qs])]) ((ky qs).map U.int) ω=.ok ((ky qs).map fun k=>U.tup [.int (0-k),.tup (((rowF qs k).map (0 - ·)).map U.int)]) ω:=by
 refine(Z1h (f:=fun k=>some (U.tup [.int (0-k),.tup (((rowF qs k).map (0 - ·)).map U.int)])) fun k hk=>?_).trans (congrArg (fun l=>Res.ok l ω) (Zrt _ _));obtain⟨r,e,o,lr⟩:=h.get hk;walk_at "ev";rw[e];walk_at "ev";rw[Zj3 lr];walk_at "ev";rw[Zey e]
theorem Zf1 {b B:Int}{es fs:List Int}(t:Trn es fs)(b2:2<=b)(i:Inj b es){qs qs':Ps}(h:Ppr b B es qs)(h':Ppr b B fs qs')(B0:0<=B)(B1:B<=60):uEqD false (dicI qs') (dicI (ofI ((ky qs).map fun k=>(0-k,U.tup (((rowF qs k).map (0 - ·)).map U.int)))))=some (.bl true):=by
 have ek:ky ((ky qs).map fun k=>(0-k,U.tup (((rowF qs k).map (0 - ·)).map U.int)))=(ky qs).map (0 - ·):=by
  unfold ky;rw[List.map_map];rfl
 have nd:(ky ((ky qs).map fun k=>(0-k,U.tup (((rowF qs k).map (0 - ·)).map U.int)))).Nodup:=by
  rw[ek];exact List.Pairwise.map _ (fun i j h=>by lia) h.nd
 rw[Zrs nd];have mem:∀ k,k∈ky ((ky qs).map fun k=>(0-k,U.tup (((rowF qs k).map (0 - ·)).map U.int))) ↔ -B<=k/\k<=B:=fun k=>by
  rw[ek,List.mem_map];constructor
  ·rintro⟨x,hx,rfl⟩;have:=(h.mem x).mp hx;lia
  ·intro hk;exact⟨-k,(h.mem _).mpr (by lia),by lia⟩
 refine Zj1 h'.nd nd (fun k=>(h'.mem k).trans (mem k).symm) (fun k hk=>?_) h'.rows fun p hp=>?_
 ·obtain⟨r',e',o',_⟩:=h'.get hk;have hk2: -k∈ky qs:=(h.mem _).mpr (by have:=(h'.mem k).mp hk;lia);obtain⟨r,e,o,_⟩:=h.get hk2;have:=Zrr (fs:=es) (fun d hd=>(t.mem d).mp hd) o'
  have er:=Z8j b2 i o this;have:asc ((ky qs).map fun k=>(0-k,U.tup (((rowF qs k).map (0 - ·)).map U.int))) k=some (U.tup (((rowF qs (-k)).map (0 - ·)).map U.int)):=Z59 nd (List.mem_map.mpr ⟨-k,hk2,by rw[show(0:Int) - -k=k by lia]⟩)
  have em:(r'.map (0 - ·)).map (0 - ·)=r':=by
   rw[List.map_map];have:((fun x:Int=>0-x)∘fun x:Int=>0-x)=id:=by funext x;simp
   rw[this,List.map_id]
  rw[this,e',Zey e,er,em]
 ·obtain⟨k,_,rfl⟩:=List.mem_map.mp hp;exact⟨_,rfl⟩
theorem eq_s {a:Str}:uEq (.str a) (.str a)=some (.bl true):=by
 show some (U.bl (decide (a=a)))=_;rw[decide_eq_true rfl]
theorem ne_s {a:Str}:uNe (.str a) (.str a)=some (.bl false):=by
 show some (U.bl (!decide (a=a)))=_;rw[decide_eq_true rfl];rfl
theorem s_el:uEq (.str "each") (.str "lacks")=some (.bl false):=by rfl
theorem s_et:uEq (.str "each") (.str "twice")=some (.bl false):=by rfl
theorem s_tl:uEq (.str "twice") (.str "lacks")=some (.bl false):=by rfl
theorem Zmd {b:Int}{es fs:List Int}(t:Trn es fs)(de:Dg b es)(df:Dg b fs){u v:U}(h:Jd b es u)(h':Jd b fs v)(ω:Om):F_q1 [u,v] ω=.ok (.bl true) ω:=by
 have b2:=de.b2
 cases h with
 |@lk k k1=>
  cases h' with
  |@lk k' k2=>
   obtain⟨e1,e2⟩:=t.lk k1 k2;unfold F_q1 g_q1;walk_at "ev";rw[ne_s];walk_at "ev";rw[eq_s];walk_at "ev";rw[show(if k<0 then -k else k)=iab k from rfl,show(if k'<0 then -k' else k')=iab k' from rfl,e1];walk_at "ev";have hh:(if 0<k then Res.ok (U.bl true) ω else Res.ok (U.bl (decide (0<k'))) ω)=.ok (.bl true) ω:=by
    by_cases c:0<k
    ·rw[if_pos c]
    ·rw[if_neg c,decide_eq_true (e2.resolve_left c)]
   rw[hh];walk_at "ev"
  |ea f _ _=>exact absurd (t.wr.mp (f.all (-k))) (by rw[Int.neg_neg];exact k1.1)
  |tw f _ _ _ _ _ _=>exact absurd (t.wr.mp (f.all (-k))) (by rw[Int.neg_neg];exact k1.1)
 |@ea qs f l q=>
  cases h' with
  |@lk k' k2=>exact absurd (t.wr.mpr (f.all (-k'))) k2.1
  |@ea qs' f' l' q'=>
   rw[t.far]at q';have lq:=Zez q (Z2m es) (far_le (by decide) de.bd);have te:=Zf1 t b2 (fun x hx y hy e=>f.inj b2 de.nd l hx hy e) q q' (Z2m es) (far_le (by decide) de.bd);unfold F_q1 g_q1;walk_at "ev";rw[ne_s];walk_at "ev";rw[s_el];walk_at "ev";rw[s_et];walk_at "ev";rw[Zes,Zf0 q];walk_at "ev";rw[Zqp (Zj2 (0 - ·) _ _) (by simp;lia)];walk_at "ev";rw[te];walk_at "ev"
  |tw _ l' _ _ _ _ _=>exact absurd (by rw[t.len];exact l) l'
 |@tw one other A L R f l a mn mx hL tw=>
  cases h' with
  |@lk k' k2=>exact absurd (t.wr.mpr (f.all (-k'))) k2.1
  |ea _ l' _=>exact absurd (by rw[<-t.len];exact l') l
  |@tw one' other' A' L' R' f' _ a' mn' mx' hL' tw'=>
   have eA:=t.dif a.df a'.df;subst eA;have eR:R'=R:=a'.rr.trans a.rr.symm;subst eR;have:=mn.uniq mn'
   subst this;unfold F_q1 g_q1;walk_at "ev";rw[ne_s];walk_at "ev";rw[s_tl];walk_at "ev";rw[eq_s];walk_at "ev";rw[Z9w (by lia) (by lia)];walk_at "ev";rw[Z9w (by lia) (by lia),mx,mx'];walk_at "ev"
structure Gd (ω:Om):Prop where
 ex:∃ p1 p2 p3 p4,ω.rs=[p1,p2,p3,p4]/\0<=p1/\0<=p3/\p3<2147483629
theorem Z12 {ω:Om}(h:Gd ω){most:Int}(h0:0<most)(h1:most<2 ^ 200):∃(r:Int)(ω':Om),Z16 [.pile,.int most] ω=.ok (.int r) ω'/\Gd ω'/\0<=r/\r<most:=by
 obtain⟨cs,rs⟩:=ω;obtain⟨p1,p2,p3,p4,e,a1,a2,a3⟩:=h.ex;simp only at e;subst e;have md:∀ x:Int,0<=x%most/\x%most<most:=fun x=>⟨Int.emod_nonneg _ (by lia),Int.emod_lt_of_pos _ h0⟩
 unfold Z16 Zlx;by_cases c1:p2 > 0
 ·refine⟨p2%most,⟨cs,[p1,p2/most,p3,p4]⟩,?_,⟨p1,p2/most,p3,p4,rfl,a1,a2,a3⟩,(md p2).1,(md p2).2⟩;walk_at "ev";rw[if_pos c1];walk_at "ev";rw[Zhu 200 (by decide) h0 h1];walk_at "ev";try rfl
 ·by_cases c2:p1<(cs.length:Int)
  ·obtain⟨c,hc⟩: ∃ c,atI cs p1=some c:=⟨cs[p1.toNat]'(by lia),by rw[Zpn a1 c2]⟩
   have b1:=Int.emod_nonneg (p3*69069+c) (show(2147483629:Int)≠0 by decide);have b2:=Int.emod_lt_of_pos (p3*69069+c) (show(0:Int)<2147483629 by decide);by_cases c3:1000000000000000000<=(if c<0 then -c else c)
   ·refine⟨(if c<0 then -c else c)%most,⟨cs,[p1+1,(if c<0 then -c else c)/most,(p3*69069+c)%2147483629,p4]⟩,?_,⟨_,_,_,_,rfl,by lia,b1,b2⟩,(md _).1,(md _).2⟩;walk_at "ev";rw[if_neg c1];walk_at "ev";rw[if_pos c2];walk_at "ev";rw[hc];walk_at "ev";rw[if_pos c3];walk_at "ev";rw[Zhu 200 (by decide) h0 h1];walk_at "ev";try rfl
   ·refine⟨c%most,⟨cs,[p1+1,p2,(p3*69069+c)%2147483629,p4]⟩,?_,⟨_,_,_,_,rfl,by lia,b1,b2⟩,(md _).1,(md _).2⟩;walk_at "ev";rw[if_neg c1];walk_at "ev";rw[if_pos c2];walk_at "ev";rw[hc];walk_at "ev";rw[if_neg c3];walk_at "ev";try rfl
  ·have b1:=Int.emod_nonneg (p3*p3+40014*(p4+1)+977) (show(2147483629:Int)≠0 by decide);have b2:=Int.emod_lt_of_pos (p3*p3+40014*(p4+1)+977) (show(0:Int)<2147483629 by decide);refine⟨(p3*p3+40014*(p4+1)+977)%2147483629/16%most,⟨cs,[p1,p2,(p3*p3+40014*(p4+1)+977)%2147483629,p4+1]⟩,?_,⟨_,_,_,_,rfl,a1,b1,b2⟩,(md _).1,(md _).2⟩;walk_at "ev";rw[if_neg c1];walk_at "ev";rw[if_neg c2];walk_at "ev";try rfl
theorem Zme (ns:List Int)(ω:Om):Zb6 [.scr ns] ω=.ok (.lst (.scr ns::Z4n.map U.int)) ω:=by
 unfold Zb6 Zlw;walk_at "ev"
theorem Z7o {α β:Type}(f:α->β):∀(xs:List α) (n:Nat),(xs.eraseIdx n).map f=(xs.map f).eraseIdx n
 |[],_=>by simp
 |x::xs,0=>rfl
 |x::xs,n+1=>by simp[Z7o f xs n]
theorem erase_perm:∀{ls:List Int}{i:Nat}(h:i<ls.length),(ls[i]::ls.eraseIdx i).Perm ls
 |x::t,0,_=>.refl _
 |x::t,i+1,h=>by
  have h':i<t.length:=by simpa using h
  have ih:=erase_perm h';rw[List.eraseIdx_cons_succ,List.getElem_cons_succ];exact(List.Perm.swap _ _ _).trans (ih.cons x)
theorem Z8k (B:Option U):∀(n:Nat)(ls fs:List Int)(ω:Om),ls.length=n->ls.length+fs.length<=1000->Gd ω->∃(fs':List Int)(ω':Om),sWh (tfB (eOp uNe (eVar 2) (eLst aNil))) Z9m [some .pile,B,some (.lst (ls.map U.int)),some (.lst (fs.map U.int))] ω=.nx [some .pile,B,some (.lst []),some (.lst (fs'.map U.int))] ω'/\Gd ω'/\fs'.Perm (ls++fs)
 |0,ls,fs,ω,hn,hl,g=>by
  have e:ls=[]:=List.length_eq_zero_iff.mp hn;subst e;refine⟨fs,ω,Z7z ?_,g,.refl _⟩;walk_at "ev";rfl
 |n+1,ls,fs,ω,hn,hl,g=>by
  obtain⟨r,ω1,e1,g1,r0,r1⟩:=Z12 g (most:=ls.length) (by lia) (by lia);have hr:r.toNat<ls.length:=by lia
  obtain⟨fs',ω',e,g',h'⟩:=Z8k B n (ls.eraseIdx r.toNat) (fs++[ls[r.toNat]]) ω1 (by rw[List.length_eraseIdx_of_lt hr];lia) (by rw[List.length_eraseIdx_of_lt hr];simp;lia) g1;refine⟨fs',ω',?_,g',h'.trans ?_⟩
  ·have tst:(tfB (eOp uNe (eVar 2) (eLst aNil))) [some .pile,B,some (.lst (ls.map U.int)),some (.lst (fs.map U.int))] ω=.ok true ω:=by
    walk_at "ev";rw[Zpq];walk_at "ev";rw[decide_eq_false (fun z=>by rw[z]at hn;simp at hn)];rfl
   have stp:Z9m [some .pile,B,some (.lst (ls.map U.int)),some (.lst (fs.map U.int))] ω=.nx [some .pile,B,some (.lst ((ls.eraseIdx r.toNat).map U.int)),some (.lst ((fs++[ls[r.toNat]]).map U.int))] ω1:=by
    rw[Z9m];unfold Z4d;walk_at "ev";rw[e1];walk_at "ev";rw[show(ls.map U.int)[r.toNat]?=some (.int ls[r.toNat])by rw[List.getElem?_map,List.getElem?_eq_getElem hr];rfl];simp only;have sl:sizeLine=16777216:=sizeLine_eq;rw[if_pos ⟨r0,by lia,by lia⟩];walk_at "ev";rw[List.map_append,Z7o];rfl
   rw[Z5n tst stp];exact e
  ·have p1:(ls[r.toNat]::ls.eraseIdx r.toNat).Perm ls:=erase_perm hr;have p2:(ls.eraseIdx r.toNat++(fs++[ls[r.toNat]])).Perm (ls[r.toNat]::(ls.eraseIdx r.toNat++fs)):=by
    rw[<-List.append_assoc];exact List.perm_append_singleton _ _
   exact p2.trans (by simpa using p1.append_right fs)
theorem Zru {ls:List Int}(hl:ls.length<=1000){ω:Om}(g:Gd ω):∃(fs:List Int)(ω':Om),F_q2 [.pile,.lst (ls.map U.int)] ω=.ok (.tup (fs.map U.int)) ω'/\Gd ω'/\fs.Perm ls:=by
 obtain⟨fs,ω',e,g',p⟩:=Z8k (some (.lst (ls.map U.int))) ls.length ls [] ω rfl (by simpa using hl) g;simp only[List.map_nil]at e;rw[List.append_nil]at p;have:=p.length_eq
 refine⟨fs,ω',?_,g',p⟩;unfold F_q2 g_q2;walk_at "ev";rw[e];walk_at "ev"
theorem Zmf {ls:List Int}(hl:ls.length<=1000){ω:Om}(g:Gd ω):∃(fs:List Int)(ω':Om),F_q2 [.pile,.tup (ls.map U.int)] ω=.ok (.tup (fs.map U.int)) ω'/\Gd ω'/\fs.Perm ls:=by
 obtain⟨fs,ω',e,g',p⟩:=Z8k (some (.tup (ls.map U.int))) ls.length ls [] ω rfl (by simpa using hl) g;simp only[List.map_nil]at e;rw[List.append_nil]at p;have:=p.length_eq
 refine⟨fs,ω',?_,g',p⟩;unfold F_q2 g_q2;walk_at "ev";rw[e];walk_at "ev"
structure Dw (b:Int)(ds:List Int):Prop where
 b2:2<=b
 b9:b<=10
 z:(0:Int)∈ds
 nd:ds.Nodup
 len:ds.length<=13
 bd:∀ d∈ds,-40<=d/\d<=40
 cv:ds.length<=11\/∀ d∈ds,-30<=d/\d<=30
theorem Zrv {es:List Int}(h:es.length<=11\/∀ d∈es,-30<=d/\d<=30):∃ C:List Int,C.length<128/\∀ z,IsD es es z->z∈C:=by
 rcases h with h|h
 ·refine⟨es.flatMap fun x=>es.map fun y=>y-x,?_,fun z ⟨x,hx,y,hy,e⟩=>List.mem_flatMap.mpr ⟨x,hx,List.mem_map.mpr ⟨y,hy,e.symm⟩⟩⟩;have:∀ l:List Int,(l.flatMap fun x=>es.map fun y=>y-x).length=l.length*es.length:=fun l=>by
   induction l with
   |nil=>simp
   |cons x l ih=>rw[List.flatMap_cons,List.length_append,ih,List.length_map,List.length_cons,Nat.succ_mul,Nat.add_comm]
  rw[this];have:es.length*es.length<=11*11:=Nat.mul_le_mul h h
  lia
 ·refine⟨(List.range 121).map fun i:Nat=>(i:Int)-60,by simp,fun z ⟨x,hx,y,hy,e⟩=>List.mem_map.mpr ⟨(z+60).toNat,List.mem_range.mpr ?_,?_⟩⟩
  ·have:=h x hx;have:=h y hy;lia
  ·have:=h x hx;have:=h y hy;lia
theorem Dw.dg {b:Int}{ds:List Int}(h:Dw b ds):Dg b (srt ds):=by
 have hln:=Z4h ds;have:=h.len
 refine⟨h.b2,h.b9,Z11.mpr h.z,(Z1s ds).nodup_iff.mpr h.nd,by lia,fun d hd=>by have:=h.bd d (Z11.mp hd);lia,Zrv ?_⟩;rcases h.cv with c|c
 ·exact .inl (by lia)
 ·exact .inr fun d hd=>c d (Z11.mp hd)
theorem Dw.perm {b:Int}{ds es:List Int}(h:Dw b ds)(p:es.Perm ds):Dw b es:=by
 have:=p.length_eq
 have:=h.len
 refine⟨h.b2,h.b9,p.mem_iff.mpr h.z,p.nodup_iff.mpr h.nd,by lia,fun d hd=>h.bd d (p.mem_iff.mp hd),?_⟩;rcases h.cv with c|c
 ·exact .inl (by lia)
 ·exact .inr fun d hd=>c d (p.mem_iff.mp hd)
theorem Z8l {ds es:List Int}(n:ds.Nodup)(p:es.Perm ds):srt es=srt ds:=Z9n (Z9f (p.nodup_iff.mpr n)) (Z9f n) fun z=>by rw[Z11,Z11];exact p.mem_iff
theorem Dw.over {b:Int}{ds:List Int}(h:Dw b ds):Dw b (ds.map (0 - ·)):=by
 refine⟨h.b2,h.b9,List.mem_map.mpr ⟨0,h.z,rfl⟩,List.Pairwise.map _ (fun i j h=>by lia) h.nd,by simpa using h.len,fun d hd=>?_,?_⟩
 ·obtain⟨x,hx,rfl⟩:=List.mem_map.mp hd;have:=h.bd x hx;lia
 ·rcases h.cv with c|c
  ·exact .inl (by simpa using c)
  ·refine .inr fun d hd=>?_;obtain⟨x,hx,rfl⟩:=List.mem_map.mp hd;have:=c x hx;lia
theorem Zhb (ds:List Int):Trn (srt ds) (srt (ds.map (0 - ·))):=⟨fun x=>by
 rw[Z11,Z11,List.mem_map];constructor
 ·rintro⟨y,hy,rfl⟩;rw[show -(0-y)=y by lia];exact hy
 ·exact fun h=>⟨-x,h,by lia⟩,by rw[Z4h,Z4h,List.length_map]⟩
theorem Z2y {ns:List Int}{k:Int}{lo hi:Int}(h:∀ n∈ns,lo<=n/\n<=hi)(h0:0<=k)(h1:k<ns.length):lo<=ns.getD k.toNat 0/\ns.getD k.toNat 0<=hi:=by
 have hk:k.toNat<ns.length:=by lia
 rw[List.getD_eq_getElem?_getD,List.getElem?_eq_getElem hk];exact h _ (List.getElem_mem hk)
structure Rs (b s:Int)(fs:List Int):Prop where
 z:(0:Int)∈fs
 nd:fs.Nodup
 len:(fs.length:Int)=s
 bd:∀ d∈fs,-19<=d/\d<=19
 rs:∀ d∈fs,d%b<s
 hd:fs[0]?=some 0
theorem Rs.at {b s:Int}{fs:List Int}(r:Rs b s fs)(e:s=b):Rs b b fs:=by
 have r':=r;rw[e]at r';exact r'
theorem way1 {b way:Int}(b2:2<=b)(b9:b<=10)(w0:0<=way)(w1:way<6)(y5 y6 y7 y8:Option U):∀(n:Nat) (s:Int)(fs:List Int)(y4:Option U)(ω:Om),1<=s->s+n=b->Rs b s fs->Gd ω ->
  ∃(fs':List Int)(y4':Option U)(ω':Om),forU (Z0r (Z0c 4) Z7n) (rngU s n) [some .pile,some (.int b),some (.int way),some (.lst (fs.map U.int)),y4,y5,y6,y7,y8] ω=.nx [some .pile,some (.int b),some (.int way),some (.lst (fs'.map U.int)),y4',y5,y6,y7,y8] ω'/\Gd ω'/\Rs b b fs'
 |0,s,fs,y4,ω,s1,hs,r,g=>⟨fs,y4,ω,rfl,g,Rs.at r (by lia)⟩
 |n+1,s,fs,y4,ω,s1,hs,r,g=>by
  have lf:=r.len;obtain⟨q,ω1,e1,g1,q0,q1⟩:=Z12 g (most:=(if 0<way then 6 else 4)) (by split<;>lia) (by split<;>lia);have q6:q<6:=by split at q1<;>lia
  have hm:=Z2y (ns:=[0,-1,-1,0,1,-2]) (k:=q) (lo := -2) (hi:=1) (by decide) q0 q6;generalize hv:([0,-1,-1,0,1,-2]:List Int).getD q.toNat 0=v at hm;have bv1:b*(-2)<=b*v:=Int.mul_le_mul_of_nonneg_left hm.1 (by lia);have bv2:b*v<=b*1:=Int.mul_le_mul_of_nonneg_left hm.2 (by lia);have rm:(s+b*v)%b=s:=by rw[Int.add_mul_emod_self_left,Int.emod_eq_of_lt (by lia) (by lia)]
  have hn:(s+b*v)∉fs:=fun h=>by have:=r.rs _ h;rw[rm]at this;lia
  obtain⟨fs',y4',ω',e,g',r'⟩:=way1 b2 b9 w0 w1 y5 y6 y7 y8 n (s+1) (fs++[s+b*v]) (some (.int s)) ω1 (by lia) (by lia) ⟨List.mem_append_left _ r.z,List.nodup_append.mpr ⟨r.nd,by simp,fun x hx y hy e=>by simp at hy;subst hy;subst e;exact hn hx⟩,by simp;lia,fun d hd=>by
    rcases List.mem_append.mp hd with h|h
    ·exact r.bd d h
    ·simp at h;subst h;lia,fun d hd=>by
    rcases List.mem_append.mp hd with h|h
    ·have:=r.rs d h;lia
    ·simp at h;subst h;rw[rm];lia,by rw[List.getElem?_append_left (List.length_pos_of_mem r.z)];exact r.hd⟩ g1
  refine⟨fs',y4',ω',?_,g',r'⟩;rw[Z2a,forU,Z7n];walk_at "ev";rw[show([4,6]:List Int).getD (if 0<way then (1:Int)else 0).toNat 0=(if 0<way then 6 else 4)by split<;>rfl,e1];walk_at "ev";rw[hv];rw[<-Z7n];rw[List.map_append]at e;exact e
structure Fs (N:Nat)(fs:List Int):Prop where
 z:(0:Int)∈fs
 nd:fs.Nodup
 len:fs.length<=N
 bd:∀ d∈fs,-40<=d/\d<=40
theorem Fs.app {N:Nat}{fs:List Int}(h:Fs N fs){x:Int}(hx:x∉fs)(b0: -40<=x)(b1:x<=40):Fs (N+1) (fs++[x]):=⟨List.mem_append_left _ h.z,List.nodup_append.mpr ⟨h.nd,by simp,fun a ha y hy e=>by simp at hy;subst hy;subst e;exact hx ha⟩,by have:=h.len;simp;lia,fun d hd=>by
  rcases List.mem_append.mp hd with w|w
  ·exact h.bd d w
  ·simp at w;subst w;exact⟨b0,b1⟩⟩
theorem way4 (A1 A2 y4 y5 y7:Option U):∀(n:Nat) (s:Int) (N:Nat)(fs:List Int)(y6 y8:Option U)(ω:Om),N+n<=1000->Fs N fs->Gd ω ->
  ∃(fs':List Int)(y6' y8':Option U)(ω':Om),forU (Z0r (Z0c 8) Z4m) (rngU s n) [some .pile,A1,A2,some (.lst (fs.map U.int)),y4,y5,y6,y7,y8] ω=.nx [some .pile,A1,A2,some (.lst (fs'.map U.int)),y4,y5,y6',y7,y8'] ω'/\Gd ω'/\Fs (N+n) fs'
 |0,s,N,fs,y6,y8,ω,_,h,g=>⟨fs,y6,y8,ω,rfl,g,h⟩
 |n+1,s,N,fs,y6,y8,ω,hN,h,g=>by
  have lf:=h.len;obtain⟨q,ω1,e1,g1,q0,q1⟩:=Z12 g (most:=2) (by lia) (by lia);have hm:=Z2y (ns:=[7,41]) (k:=q) (lo:=7) (hi:=41) (by decide) q0 q1;generalize hv:([7,41]:List Int).getD q.toNat 0=v at hm;obtain⟨r,ω2,e2,g2,r0,r1⟩:=Z12 g1 (most:=v) (by lia) (by lia);obtain⟨t,ω3,e3,g3,t0,t1⟩:=Z12 g2 (most:=2) (by lia) (by lia);have hm2:=Z2y (ns:=[3,20]) (k:=t) (lo:=3) (hi:=20) (by decide) t0 t1;generalize hw:([3,20]:List Int).getD t.toNat 0=v2 at hm2;by_cases c:(r-v2)∈fs
  ·obtain⟨fs',y6',y8',ω',e,g',h'⟩:=way4 A1 A2 y4 y5 y7 n (s+1) N fs (some (.int (r-v2))) (some (.int s)) ω3 (by lia) h g3;refine⟨fs',y6',y8',ω',?_,g',h'.z,h'.nd,by have:=h'.len;lia,h'.bd⟩;rw[Z2a,forU,Z4m];walk_at "ev";rw[e1];walk_at "ev";rw[hv,e2];walk_at "ev";rw[e3];walk_at "ev";rw[hw];walk_at "ev";rw[Zg0];simp only[if_true];rw[decide_eq_true c];walk_at "ev";rw[<-Z4m];exact e
  ·obtain⟨fs',y6',y8',ω',e,g',h'⟩:=way4 A1 A2 y4 y5 y7 n (s+1) (N+1) (fs++[r-v2]) (some (.int (r-v2))) (some (.int s)) ω3 (by lia) (h.app c (by lia) (by lia)) g3;refine⟨fs',y6',y8',ω',?_,g',h'.z,h'.nd,by have:=h'.len;lia,h'.bd⟩;rw[Z2a,forU,Z4m];walk_at "ev";rw[e1];walk_at "ev";rw[hv,e2];walk_at "ev";rw[e3];walk_at "ev";rw[hw];walk_at "ev";rw[Zg0];simp only[if_true];rw[decide_eq_false c];walk_at "ev";rw[<-Z4m];rw[List.map_append]at e;exact e
def P1:Sf:=(sSet 1 (eOp uIx (eLst (Z01 (eC (.int 2)) (Z01 (eC (.int 3)) (Z01 (eOp uAdd (eC (.int 2)) (Z0b Z16 (Z01 (eVar 0) (Z01 (eC (.int 5)) aNil)))) (Z01 (eOp uAdd (eC (.int 2)) (Z0b Z16 (Z01 (eVar 0) (Z01 (eC (.int 9)) aNil)))) aNil))))) (Z0b Z16 (Z01 (eVar 0) (Z01 (eC (.int 4)) aNil)))))
def P2:Sf:=(sSet 2 (Z0b Z16 (Z01 (eVar 0) (Z01 (eC (.int 6)) aNil))))
def P3:Sf:=(sSet 3 (eLst (Z01 (eC (.int 0)) aNil)))
def S1:Sf:=(sIf (tfB (eOp uLt (eVar 2) (eC (.int 3)))) (sFor (Z1z uR2 (Z01 (eC (.int 1)) (Z01 (eVar 1) aNil))) (Z0c 4) Z7n) Z0q)
def S2:Sf:=(sIf (tfB (eOp uEq (eVar 2) (eC (.int 2)))) (sSeq (sSet 5 (Z0b Z16 (Z01 (eVar 0) (Z01 (eB uLen (Z01 (eVar 3) aNil)) aNil)))) (sSeq (sSet 6 (eOp uSub (eOp uAdd (eOp uIx (eVar 3) (eVar 5)) (Z0b Z16 (Z01 (eVar 0) (Z01 (eC (.int 5)) aNil)))) (eC (.int 2)))) (sIf (Z2s (tfB (eOp uGt (eVar 5) (eC (.int 0)))) (tfB (eOp (uIn true) (eVar 6) (eVar 3)))) (sPut 3 (eVar 5) (eVar 6)) Z0q))) Z0q)
def S3:Sf:=(sIf (tfB (eOp uEq (eVar 2) (eC (.int 3)))) (sSeq (sSet 7 (Z0b Z16 (Z01 (eVar 0) (Z01 (eVar 1) aNil)))) (sSet 3 (eB Z4w (Z01 (eOp uSub (eC (.int 0)) (eVar 7)) (Z01 (eOp uAdd (eOp uSub (eVar 1) (eVar 7)) (Z0b Z16 (Z01 (eVar 0) (Z01 (eC (.int 3)) aNil)))) aNil))))) Z0q)
def S4:Sf:=(sIf (tfB (eOp uGt (eVar 2) (eC (.int 3)))) (sFor (Z1z uR1 (Z01 (eOp uAdd (eC (.int 1)) (Z0b Z16 (Z01 (eVar 0) (Z01 (eOp uIx (eLst (Z01 (eC (.int 3)) (Z01 (eC (.int 8)) aNil))) (eOp uSub (eVar 2) (eC (.int 4)))) aNil)))) aNil)) (Z0c 8) Z4m) Z0q)
def S5:Sf:=(sIf (tfB (eOp uLt (eB uLen (Z01 (eVar 3) aNil)) (eC (.int 2)))) (sApp 3 (eOp uIx (eLst (Z01 (eC (.int 1)) (Z01 (eUn uNeg (eC (.int 1))) aNil))) (Z0b Z16 (Z01 (eVar 0) (Z01 (eC (.int 2)) aNil))))) Z0q)
def S6:Sf:=(sRet (eLst (Z01 (eVar 1) (Z01 (Z0b F_q2 (Z01 (eVar 0) (Z01 (eVar 3) aNil))) aNil))))
theorem Ztq:g_q0=sSeq P1 (sSeq P2 (sSeq P3 (sSeq S1 (sSeq S2 (sSeq S3 (sSeq S4 (sSeq S5 S6))))))):=rfl
structure Dd (b:Int)(ds:List Int):Prop where
 b2:2<=b
 b9:b<=10
 z:(0:Int)∈ds
 nd:ds.Nodup
 bd:∀ d∈ds,-40<=d/\d<=40
 cv:ds.length<=10\/(ds.length<=12/\∀ d∈ds,-11<=d/\d<=11)
theorem Dd.dw {b:Int}{ds:List Int}(h:Dd b ds):Dw b ds:=⟨h.b2,h.b9,h.z,h.nd,by rcases h.cv with c | c<;>lia,h.bd,by
 rcases h.cv with c|c
 ·exact .inl (by lia)
 ·exact .inr fun d hd=>by have:=c.2 d hd;lia⟩
theorem Dd.perm {b:Int}{ds es:List Int}(h:Dd b ds)(p:es.Perm ds):Dd b es:=by
 have:=p.length_eq
 refine⟨h.b2,h.b9,p.mem_iff.mpr h.z,p.nodup_iff.mpr h.nd,fun d hd=>h.bd d (p.mem_iff.mp hd),?_⟩;rcases h.cv with c|c
 ·exact .inl (by lia)
 ·exact .inr ⟨by lia,fun d hd=>c.2 d (p.mem_iff.mp hd)⟩
theorem s56 {b:Int}{fs:List Int}(h:Dd b fs)(y2 y4 y5 y6 y7 y8:Option U){ω:Om}(g:Gd ω):∃(ds:List Int)(ω':Om),endF ((sSeq S5 S6) [some .pile,some (.int b),y2,some (.lst (fs.map U.int)),y4,y5,y6,y7,y8] ω)=.ok (.lst [.int b,.tup (ds.map U.int)]) ω'/\Gd ω'/\Dd b ds:=by
 have key:∃(gs:List Int)(ω1:Om),S5 [some .pile,some (.int b),y2,some (.lst (fs.map U.int)),y4,y5,y6,y7,y8] ω=.nx [some .pile,some (.int b),y2,some (.lst (gs.map U.int)),y4,y5,y6,y7,y8] ω1/\Gd ω1/\Dd b gs:=by
  unfold S5;have hl:fs.length<=12:=by rcases h.cv with c|c<;>lia
  by_cases c:(fs.length:Int)<2
  ·obtain⟨q,ω1,e1,g1,q0,q1⟩:=Z12 g (most:=2) (by lia) (by lia);have ef:fs=[0]:=by
    have hz:=h.z;match fs,c,hz with
    |[x],_,hz=>simp at hz;rw[hz]
    |_::_::_,c,_=>simp at c;lia
   have hm:=Z2y (ns:=[1,-1]) (k:=q) (lo := -1) (hi:=1) (by decide) q0 q1;have hn:([1,-1]:List Int).getD q.toNat 0≠0:=by
    have:q.toNat=0\/q.toNat=1:=by lia
    rcases this with w|w<;>rw[w]<;>decide
   generalize hv:([1,-1]:List Int).getD q.toNat 0=v at hm hn;refine⟨[0,v],ω1,?_,g1,⟨h.b2,h.b9,by simp,by simp;exact fun e=>hn e.symm,fun d hd=>?_,.inl (by simp)⟩⟩
   ·subst ef;walk_at "ev";rw[if_pos (by decide)];walk_at "ev";rw[e1];walk_at "ev";rw[hv]
   ·simp at hd;rcases hd with rfl|rfl<;>lia
  ·refine⟨fs,ω,?_,g,h⟩;walk_at "ev";rw[if_neg c]
 obtain⟨gs,ω1,e1,g1,h1⟩:=key;have hl:gs.length<=12:=by rcases h1.cv with c|c<;>lia
 obtain⟨ds,ω2,e2,g2,p2⟩:=Zru (ls:=gs) (by lia) g1;refine⟨ds,ω2,?_,g2,h1.perm p2⟩;rw[sSeq_then,e1];unfold S6;walk_at "ev";rw[e2];walk_at "ev"
theorem Zj4 {x:Int}:∀{l:List Int}{i:Nat},l.Nodup->x∉l->(l.set i x).Nodup
 |[],_,_,_=>by simp
 |a::l,0,n,h=>by
  rw[List.set_cons_zero];exact List.nodup_cons.mpr ⟨fun z=>h (List.mem_cons_of_mem _ z),(List.nodup_cons.mp n).2⟩
 |a::l,i+1,n,h=>by
  rw[List.set_cons_succ];refine List.nodup_cons.mpr ⟨fun z=>?_,Zj4 (List.nodup_cons.mp n).2 fun z=>h (List.mem_cons_of_mem _ z)⟩;rcases List.mem_or_eq_of_mem_set z with w|w
  ·exact(List.nodup_cons.mp n).1 w
  ·exact h (by simp[w])
theorem Ztr {b way:Int}(b2:2<=b)(b9:b<=10){fs:List Int}(r:Rs b b fs)(y4 y7 y8:Option U){ω:Om}(g:Gd ω):∃(fs':List Int)(y5 y6:Option U)(ω':Om),S2 [some .pile,some (.int b),some (.int way),some (.lst (fs.map U.int)),y4,none,none,y7,y8] ω=.nx [some .pile,some (.int b),some (.int way),some (.lst (fs'.map U.int)),y4,y5,y6,y7,y8] ω'/\Gd ω'/\Dd b fs':=by
 have lf:=r.len;have base:Dd b fs:=⟨b2,b9,r.z,r.nd,fun d hd=>by have:=r.bd d hd;lia,.inl (by lia)⟩
 unfold S2;by_cases c:way=2
 ·subst c;obtain⟨p,ω1,e1,g1,p0,p1⟩:=Z12 g (most:=fs.length) (by lia) (by lia);obtain⟨q,ω2,e2,g2,q0,q1⟩:=Z12 g1 (most:=5) (by lia) (by lia);have hp:p.toNat<fs.length:=by lia
  have hv:atI (fs.map U.int) p=some (.int (fs.getD p.toNat 0)):=Z1c p0 p1;have hb:=Z2y (fun n hn=>r.bd n hn) p0 p1;generalize hw:fs.getD p.toNat 0=v at hv hb;by_cases c2:0<p/\(v+q-2)∉fs
  ·refine⟨fs.set p.toNat (v+q-2),some (.int p),some (.int (v+q-2)),ω2,?_,g2,b2,b9,?_,Zj4 r.nd c2.2,fun d hd=>?_,.inl (by simp;lia)⟩
   ·walk_at "ev";rw[e1];walk_at "ev";rw[hv];walk_at "ev";rw[e2];walk_at "ev";rw[if_pos c2.1];walk_at "ev";rw[Zg0];simp only[if_true];rw[decide_eq_false c2.2];walk_at "ev";rw[show ixN fs.length p=some p.toNat from Zt3 p0 p1];simp only[List.map_set]
   ·refine List.mem_iff_getElem?.mpr ⟨0,?_⟩;rw[List.getElem?_set_ne (by lia)];exact r.hd
   ·rcases List.mem_or_eq_of_mem_set hd with w|w
    ·have:=r.bd d w;lia
    ·lia
  ·refine⟨fs,some (.int p),some (.int (v+q-2)),ω2,?_,g2,base⟩;walk_at "ev";rw[e1];walk_at "ev";rw[hv];walk_at "ev";rw[e2];walk_at "ev";by_cases c3:0<p
   ·rw[if_pos c3];walk_at "ev";rw[Zg0];simp only[if_true];rw[decide_eq_true (by by_cases z:(v+q-2)∈fs;exact z;exact absurd ⟨c3,z⟩ c2)];walk_at "ev"
   ·rw[if_neg c3];walk_at "ev"
 ·refine⟨fs,none,none,ω,?_,g,base⟩;walk_at "ev";rw[if_neg c]
theorem Zhc (lo:Int) (n:Nat):rngU lo n=((List.range n).map fun i:Nat=>lo+(i:Int)).map U.int:=by
 unfold rngU;rw[List.map_map];rfl
theorem Zrw {ω:Om}(g:Gd ω):∃(b:Int)(ds:List Int)(ω':Om),F_q0 [.pile] ω=.ok (.lst [.int b,.tup (ds.map U.int)]) ω'/\Gd ω'/\Dd b ds:=by
 obtain⟨q5,ω1,e1,g1,q50,q51⟩:=Z12 g (most:=5) (by lia) (by lia);obtain⟨q9,ω2,e2,g2,q90,q91⟩:=Z12 g1 (most:=9) (by lia) (by lia);obtain⟨q4,ω3,e3,g3,q40,q41⟩:=Z12 g2 (most:=4) (by lia) (by lia);obtain⟨way,ω4,e4,g4,w0,w1⟩:=Z12 g3 (most:=6) (by lia) (by lia);have hb:=Z2y (ns:=[2,3,2+q5,2+q9]) (k:=q4) (lo:=2) (hi:=10) (fun n hn=>by simp at hn;rcases hn with rfl|rfl|rfl|rfl<;>lia) q40 q41;generalize hv:([2,3,2+q5,2+q9]:List Int).getD q4.toNat 0=b at hb;obtain⟨b2,b9⟩:=hb;have h1:P1 [some .pile,none,none,none,none,none,none,none,none] ω=.nx [some .pile,some (.int b),none,none,none,none,none,none,none] ω3:=by
  unfold P1;walk_at "ev";rw[e1];walk_at "ev";rw[e2];walk_at "ev";rw[e3];walk_at "ev";rw[hv]
 have h2:P2 [some .pile,some (.int b),none,none,none,none,none,none,none] ω3=.nx [some .pile,some (.int b),some (.int way),none,none,none,none,none,none] ω4:=by
  unfold P2;walk_at "ev";rw[e4];walk_at "ev"
 have h3:P3 [some .pile,some (.int b),some (.int way),none,none,none,none,none,none] ω4=.nx [some .pile,some (.int b),some (.int way),some (.lst (([0]:List Int).map U.int)),none,none,none,none,none] ω4:=by
  unfold P3;walk_at "ev"
 have start:F_q0 [.pile] ω=endF ((sSeq S1 (sSeq S2 (sSeq S3 (sSeq S4 (sSeq S5 S6))))) [some .pile,some (.int b),some (.int way),some (.lst (([0]:List Int).map U.int)),none,none,none,none,none] ω4):=by
  unfold F_q0;rw[runU_end,Ztq];show endF (sSeq P1 _ [some .pile,none,none,none,none,none,none,none,none] ω)=_;rw[sSeq_then,h1,thenF_nx,sSeq_then,h2,thenF_nx,sSeq_then,h3,thenF_nx]
 rw[start];by_cases c3:way<3
 ·obtain⟨fs,y4,ω5,e5,g5,r5⟩:=way1 b2 b9 w0 w1 none none none none (b-1).toNat 1 [0] none ω4 (by lia) (by lia) ⟨by simp,by simp,rfl,by simp,by simp,rfl⟩ g4;have s1:S1 [some .pile,some (.int b),some (.int way),some (.lst (([0]:List Int).map U.int)),none,none,none,none,none] ω4=.nx [some .pile,some (.int b),some (.int way),some (.lst (fs.map U.int)),y4,none,none,none,none] ω5:=by
   unfold S1;simp only[List.map_cons,List.map_nil]at e5 ⊢;walk_at "ev";rw[if_pos c3,e5]
  obtain⟨fs2,y5,y6,ω6,s2,g6,d6⟩:=Ztr (way:=way) b2 b9 r5 y4 none none g5;have s3:S3 [some .pile,some (.int b),some (.int way),some (.lst (fs2.map U.int)),y4,y5,y6,none,none] ω6=.nx [some .pile,some (.int b),some (.int way),some (.lst (fs2.map U.int)),y4,y5,y6,none,none] ω6:=by
   unfold S3;walk_at "ev";rw[if_neg (by lia)]
  have s4:S4 [some .pile,some (.int b),some (.int way),some (.lst (fs2.map U.int)),y4,y5,y6,none,none] ω6=.nx [some .pile,some (.int b),some (.int way),some (.lst (fs2.map U.int)),y4,y5,y6,none,none] ω6:=by
   unfold S4;walk_at "ev";rw[if_neg (by lia)]
  rw[sSeq_then,s1,thenF_nx,sSeq_then,s2,thenF_nx,sSeq_then,s3,thenF_nx,sSeq_then,s4,thenF_nx];obtain⟨ds,ω7,e7,g7,d7⟩:=s56 d6 (some (.int way)) y4 y5 y6 none none g6;exact⟨b,ds,ω7,e7,g7,d7⟩
 ·have s1:S1 [some .pile,some (.int b),some (.int way),some (.lst (([0]:List Int).map U.int)),none,none,none,none,none] ω4=.nx [some .pile,some (.int b),some (.int way),some (.lst (([0]:List Int).map U.int)),none,none,none,none,none] ω4:=by
   unfold S1;walk_at "ev";rw[if_neg c3]
  have s2:S2 [some .pile,some (.int b),some (.int way),some (.lst (([0]:List Int).map U.int)),none,none,none,none,none] ω4=.nx [some .pile,some (.int b),some (.int way),some (.lst (([0]:List Int).map U.int)),none,none,none,none,none] ω4:=by
   unfold S2;walk_at "ev";rw[if_neg (by lia)]
  rw[sSeq_then,s1,thenF_nx,sSeq_then,s2,thenF_nx];by_cases c4:way=3
  ·obtain⟨low,ω5,e5,g5,l0,l1⟩:=Z12 g4 (most:=b) (by lia) (by lia);obtain⟨t,ω6,e6,g6,t0,t1⟩:=Z12 g5 (most:=3) (by lia) (by lia);have s3:S3 [some .pile,some (.int b),some (.int way),some (.lst (([0]:List Int).map U.int)),none,none,none,none,none] ω4=.nx [some .pile,some (.int b),some (.int way),some (.lst (((List.range (b+t).toNat).map fun i:Nat=>0-low+(i:Int)).map U.int)),none,none,none,some (.int low),none] ω6:=by
    unfold S3;walk_at "ev";rw[if_pos c4,e5];walk_at "ev";rw[e6];walk_at "ev";rw[<-Zhc,show(b-low+t-(0-low)).toNat=(b+t).toNat by lia]
   have s4:S4 [some .pile,some (.int b),some (.int way),some (.lst (((List.range (b+t).toNat).map fun i:Nat=>0-low+(i:Int)).map U.int)),none,none,none,some (.int low),none] ω6=.nx [some .pile,some (.int b),some (.int way),some (.lst (((List.range (b+t).toNat).map fun i:Nat=>0-low+(i:Int)).map U.int)),none,none,none,some (.int low),none] ω6:=by
    unfold S4;walk_at "ev";rw[if_neg (by lia)]
   rw[sSeq_then,s3,thenF_nx,sSeq_then,s4,thenF_nx];obtain⟨ds,ω7,e7,g7,d7⟩:=s56 (b:=b) (fs:=(List.range (b+t).toNat).map fun i:Nat=>0-low+(i:Int)) ⟨b2,b9,List.mem_map.mpr ⟨low.toNat,List.mem_range.mpr (by lia),by lia⟩,List.Pairwise.map _ (fun i j h=>by lia) List.nodup_range,fun d hd=>by
     obtain⟨i,hi,rfl⟩:=List.mem_map.mp hd;have:=List.mem_range.mp hi
     lia,.inr ⟨by simp;lia,fun d hd=>by
     obtain⟨i,hi,rfl⟩:=List.mem_map.mp hd;have:=List.mem_range.mp hi
     lia⟩⟩ (some (.int way)) none none none (some (.int low)) none g6
   exact⟨b,ds,ω7,e7,g7,d7⟩
  ·have s3:S3 [some .pile,some (.int b),some (.int way),some (.lst (([0]:List Int).map U.int)),none,none,none,none,none] ω4=.nx [some .pile,some (.int b),some (.int way),some (.lst (([0]:List Int).map U.int)),none,none,none,none,none] ω4:=by
    unfold S3;walk_at "ev";rw[if_neg c4]
   have hm:=Z2y (ns:=[3,8]) (k:=way-4) (lo:=3) (hi:=8) (by decide) (by lia) (by simp;lia);generalize hw:([3,8]:List Int).getD (way-4).toNat 0=v at hm;obtain⟨q,ω5,e5,g5,q0,q1⟩:=Z12 g4 (most:=v) (by lia) (by lia);obtain⟨fs,y6,y8,ω6,e6,g6,f6⟩:=way4 (some (.int b)) (some (.int way)) none none none (1+q).toNat 0 1 [0] none none ω5 (by lia) ⟨by simp,by simp,by simp,by simp⟩ g5;have s4:S4 [some .pile,some (.int b),some (.int way),some (.lst (([0]:List Int).map U.int)),none,none,none,none,none] ω4=.nx [some .pile,some (.int b),some (.int way),some (.lst (fs.map U.int)),none,none,y6,none,y8] ω6:=by
    unfold S4;simp only[List.map_cons,List.map_nil]at e6 ⊢;walk_at "ev";rw[if_pos (by lia),hw,e5];walk_at "ev";rw[e6]
   rw[sSeq_then,s3,thenF_nx,sSeq_then,s4,thenF_nx];obtain⟨ds,ω7,e7,g7,d7⟩:=s56 (b:=b) (fs:=fs) ⟨b2,b9,f6.z,f6.nd,f6.bd,.inl (by have:=f6.len;lia)⟩ (some (.int way)) none none y6 none y8 g6;exact⟨b,ds,ω7,e7,g7,d7⟩
theorem Jd.lk_of {b:Int}{es:List Int}{u:U}(h:Jd b es u):(∃ k,u=.tup [.str "lacks",.int k]/\Lk b (rea b es) es (some k))\/(∃ v,u=.tup [.str "each",v])\/∃ v w,u=.tup [.str "twice",v,w]:=by
 cases h with
 |lk k=>exact .inl ⟨_,rfl,k⟩
 |ea _ _ _=>exact .inr (.inl ⟨_,rfl⟩)
 |tw _ _ _ _ _ _ _=>exact .inr (.inr ⟨_,_,rfl⟩)
theorem Zj5 {b B:Int}{es:List Int}(b2:2<=b)(bB:b<=B)(h:∀ d∈es,-B<=d/\d<=B):rea b es<=B:=by
 have f0:=Z2m es;have q1:far es/(b-1)<=far es:=Int.ediv_le_self _ f0;have:=far_le (by lia) h
 lia
theorem Dd.more {b:Int}{ds:List Int}(h:Dd b ds){k:Int}(lk:Lk b (rea b (srt ds)) (srt ds) (some k)):Dw b (ds++[k]):=by
 obtain⟨n,k1,k2,_,_⟩:=lk;have b9:=h.b9;have hk:k∉ds:=fun z=>n (by have:=Wr.step (b:=b) .zero (Z11.mpr z);rw[Int.mul_zero,Int.add_zero]at this;exact this);have r4:=Zj5 (B:=40) h.b2 (by lia) fun d hd=>h.bd d (Z11.mp hd);refine⟨h.b2,b9,List.mem_append_left _ h.z,List.nodup_append.mpr ⟨h.nd,by simp,fun a ha y hy e=>by simp at hy;subst hy;subst e;exact hk ha⟩,?_,fun d hd=>?_,?_⟩
 ·rw[List.length_append];rcases h.cv with c|c<;>simp<;>lia
 ·rcases List.mem_append.mp hd with w|w
  ·exact h.bd d w
  ·simp at w;subst w;lia
 ·rcases h.cv with c|c
  ·exact .inl (by rw[List.length_append];simp;lia)
  ·have r11:=Zj5 (B:=11) h.b2 (by lia) fun d hd=>c.2 d (Z11.mp hd);refine .inr fun d hd=>?_;rcases List.mem_append.mp hd with w|w
   ·have:=c.2 d w;lia
   ·simp at w;subst w;lia
theorem Zmg {b R R':Int}{ds:List Int}{k m:Int}(h:Lk b R (srt ds) (some k))(h':Lk b R' (srt (ds++[k])) (some m)):¬ (iab m<iab k)/\m≠k:=by
 obtain⟨a1,_,_,a4,_⟩:=h;obtain⟨c1,_,_,_,_⟩:=h';constructor
 ·intro c;exact c1 ((a4 m c).perm fun d hd=>Z11.mpr (List.mem_append_left _ (Z11.mp hd)))
 ·intro e;subst e;have:=Wr.step (b:=b) (ds:=srt (ds++[m])) .zero (Z11.mpr (List.mem_append_right _ (List.mem_singleton.mpr rfl)))
  rw[Int.mul_zero,Int.add_zero]at this;exact c1 this
theorem Zmh {y0 y2 y3 y4 y5 y6:Option U}{ω:Om}(g:Gd ω):∃(z3 z4 z5 z6:Option U)(ω':Om),Z3o [y0,some .pile,y2,y3,y4,y5,y6] ω=.nx [y0,some .pile,y2,z3,z4,z5,z6] ω'/\Gd ω':=by
 obtain⟨b,ds,ω1,e1,g1,d1⟩:=Zrw g;have w1:=d1.dw;have hl:=w1.len;obtain⟨u,e2,j2⟩:=F_jd w1.dg (by lia) ω1;obtain⟨fs,ω2,e3,g2,p3⟩:=Zmf (ls:=ds) (by lia) g1;have w3:=w1.perm p3;have hl3:=w3.len;obtain⟨v,e4,j4⟩:=F_jd w3.dg (by lia) ω2;rw[Z8l w1.nd p3]at j4;have ne:=Zmc w1.b2 w1.dg.nd j2 j4;have eo:=Zj3 (r:=ds) (by lia) ω2;have wo:=w1.over;obtain⟨x,e5,j5⟩:=F_jd wo.dg (by have:=wo.len;lia) ω2;have er:=Zmd (Zhb ds) w1.dg wo.dg j2 j5 ω2;have head:∀ Z:Fl,(sIf (tfB (eOp uEq (eOp uIx (eVar 3) (eC (.int 0))) (eC (.str "lacks")))) (sSeq (sSet 6 (Z0b F_q4 (Z01 (eVar 4) (Z01 (eOp uAdd (eVar 5) (eTup (Z01 (eOp uIx (eVar 3) (eC (.int 1))) aNil))) aNil)))) (sIf (Z2s (tfB (eOp uEq (eOp uIx (eVar 6) (eC (.int 0))) (eC (.str "lacks")))) (tfOr (tfB (eOp uLt (eB uAbs (Z01 (eOp uIx (eVar 6) (eC (.int 1))) aNil)) (eB uAbs (Z01 (eOp uIx (eVar 3) (eC (.int 1))) aNil)))) (tfB (eOp uEq (eOp uIx (eVar 6) (eC (.int 1))) (eOp uIx (eVar 3) (eC (.int 1))))))) (sRet (eC (.bl false))) Z0q)) Z0q) [y0,some .pile,y2,some u,some (.int b),some (.tup (ds.map U.int)),y6] ω2=Z->Z3o [y0,some .pile,y2,y3,y4,y5,y6] ω=Z:=fun Z h=>by
  rw[<-h];unfold Z3o;rw[sSeq_then];rw[show(sAsg (aLst 2 (Z25 (Z0c 4) (Z25 (Z0c 5) Z6s))) (Z0b F_q0 (Z01 (eVar 1) aNil))) [y0,some .pile,y2,y3,y4,y5,y6] ω=.nx [y0,some .pile,y2,y3,some (.int b),some (.tup (ds.map U.int)),y6] ω1 by
   walk_at "ev";rw[e1];walk_at "ev",thenF_nx,sSeq_then]
  rw[show(sSet 3 (Z0b F_q4 (Z01 (eVar 4) (Z01 (eVar 5) aNil)))) [y0,some .pile,y2,y3,some (.int b),some (.tup (ds.map U.int)),y6] ω1=.nx [y0,some .pile,y2,some u,some (.int b),some (.tup (ds.map U.int)),y6] ω1 by
   walk_at "ev";rw[e2];walk_at "ev",thenF_nx,sSeq_then]
  rw[show(sIf (tfB (eOp uNeJ (Z0b F_q4 (Z01 (eVar 4) (Z01 (Z0b F_q2 (Z01 (eVar 1) (Z01 (eVar 5) aNil))) aNil))) (eVar 3))) (sRet (eC (.bl false))) Z0q) [y0,some .pile,y2,some u,some (.int b),some (.tup (ds.map U.int)),y6] ω1=.nx [y0,some .pile,y2,some u,some (.int b),some (.tup (ds.map U.int)),y6] ω2 by
   walk_at "ev";rw[e3];walk_at "ev";rw[e4];walk_at "ev";rw[ne];walk_at "ev",thenF_nx,sSeq_then]
  rw[show(sIf (Z6p (tfB (Z0b F_q1 (Z01 (eVar 3) (Z01 (Z0b F_q4 (Z01 (eVar 4) (Z01 (Z0b Z64 (Z01 (eVar 5) aNil)) aNil))) aNil))))) (sRet (eC (.bl false))) Z0q) [y0,some .pile,y2,some u,some (.int b),some (.tup (ds.map U.int)),y6] ω2=.nx [y0,some .pile,y2,some u,some (.int b),some (.tup (ds.map U.int)),y6] ω2 by
   walk_at "ev";rw[eo];walk_at "ev";rw[e5];walk_at "ev";rw[er];walk_at "ev",thenF_nx]
 rcases j2.lk_of with ⟨k,rfl,lk⟩|⟨v',rfl⟩|⟨v',w',rfl⟩
 ·have wm:=d1.more lk;obtain⟨m,e6,j6⟩:=F_jd wm.dg (by have:=wm.len;lia) ω2;refine⟨some (.tup [.str "lacks",.int k]),some (.int b),some (.tup (ds.map U.int)),some m,ω2,head _ ?_,g2⟩;walk_at "ev";rw[eq_s];walk_at "ev";rw[show(ds.map U.int++[U.int k])=(ds++[k]).map U.int by simp,e6];walk_at "ev";rcases j6.lk_of with ⟨k',rfl,lk'⟩|⟨v',rfl⟩|⟨v',w',rfl⟩
  ·obtain⟨n1,n2⟩:=Zmg lk lk';walk_at "ev";rw[eq_s];walk_at "ev";rw[show(if k'<0 then -k' else k')=iab k' from rfl,show(if k<0 then -k else k)=iab k from rfl,if_neg n1];walk_at "ev";rw[if_neg n2]
  ·walk_at "ev";rw[s_el];walk_at "ev"
  ·walk_at "ev";rw[s_tl];walk_at "ev"
 ·refine⟨some (.tup [.str "each",v']),some (.int b),some (.tup (ds.map U.int)),y6,ω2,head _ ?_,g2⟩;walk_at "ev";rw[s_el];walk_at "ev"
 ·refine⟨some (.tup [.str "twice",v',w']),some (.int b),some (.tup (ds.map U.int)),y6,ω2,head _ ?_,g2⟩;walk_at "ev";rw[s_tl];walk_at "ev"
theorem Z9x {y0:Option U}:∀(xs:List U)(y2 y3 y4 y5 y6:Option U)(ω:Om),Gd ω->∃(z2 z3 z4 z5 z6:Option U)(ω':Om),forU (Z0r (Z0c 2) Z3o) xs [y0,some .pile,y2,y3,y4,y5,y6] ω=.nx [y0,some .pile,z2,z3,z4,z5,z6] ω'
 |[],y2,y3,y4,y5,y6,ω,_=>⟨y2,y3,y4,y5,y6,ω,rfl⟩
 |x::xs,y2,y3,y4,y5,y6,ω,g=>by
  obtain⟨z3,z4,z5,z6,ω1,e,g1⟩:=Zmh (y0:=y0) (y2:=some x) (y3:=y3) (y4:=y4) (y5:=y5) (y6:=y6) g;obtain⟨w2,w3,w4,w5,w6,ω2,e2⟩:=Z9x xs (some x) z3 z4 z5 z6 ω1 g1;refine⟨w2,w3,w4,w5,w6,ω2,?_⟩;rw[forU,show Z0r (Z0c 2) Z3o x [y0,some .pile,y2,y3,y4,y5,y6] ω=.nx [y0,some .pile,some x,z3,z4,z5,z6] ω1 from e];exact e2
theorem Zhd (ns:List Int) (_:ns.length<=63):∃ ω',endF (Zh3 (none::some .pile::List.replicate (Z8g.length-2) none) ⟨ns,Z4n⟩)=.ok (.bl true) ω':=by
 have g0:Gd ⟨ns,Z4n⟩:=⟨0,0,40213,0,rfl,by decide,by decide,by decide⟩
 obtain⟨z2,z3,z4,z5,z6,ω',e⟩:=Z9x (y0:=none) (rngU 0 3) none none none none none ⟨ns,Z4n⟩ g0;refine⟨ω',?_⟩;unfold Zh3;rw[show(none::some U.pile::List.replicate (Z8g.length-2) none:En)=[none,some .pile,none,none,none,none,none]from rfl];walk_at "ev";rw[e];walk_at "ev"
end EvBlock
end My
set_option maxHeartbeats 0
open PySem PySem.W PyProof.Rows
namespace PySem.W.Fast
def tw16864618592142003386:=()
def tw11898673842065290130:=()
def tw4077048163395320219:=()
def tw6128106870883400570:=()
def tw16053306600634468012:=()
def tw8060666987683057360:=()
def tw2187251505897268136:=()
def tw6953138203311097117:=()
def tw8739830900816887780:=()
def tw11401859456886640639:=()
def tw10294118229990073760:=()
def tw18101783494082082527:=()
def tw15621415185263527259:=()
def tw3919386906821981792:=()
def tw7217548393331319763:=()
def tw8047209995159408440:=()
def tw11564986514327137767:=()
def tw13769103115541136327:=()
def tw4562827626845409882:=()
def tw2135409205425526673:=()
def tw10338398162516547025:=()
def tw4075453323654395381:=()
def tw2295934692909999376:=()
def tw3985964047577975286:=()
def tw8297923619242306668:=()
def tw15042883488752021643:=()
def tw12459912946257978736:=()
def tw10258873121960336067:=()
def tw10510056951384868246:=()
def tw12330612334027959195:=()
def tw13812277999558781770:=()
def tw3235425350174046738:=()
def tw2107523057676978006:=()
def tw14424681132571578402:=()
def tw14243238205550065757:=()
def tw2483420100392427323:=()
def tw14935467056822913822:=()
def tw16409965706819354750:=()
def tw8733291241859026926:=()
def tw10016166984437732892:=()
def tw16723463757517087524:=()
def tw4635989785427082552:=()
def tw11823594873375168262:=()
def tw16279288168775177219:=()
def tw17187875760726034783:=()
def tw2400638427578300857:=()
def tw13135312941875745310:=()
def tw2144661209622563809:=()
def tw9176024353136599441:=()
def tw11161164713144168021:=()
def tw17464319187374939960:=()
def tw7086961617601330827:=()
def tw861502493610598483:=()
def tw17062427158221528723:=()
def tw13757698761724263525:=()
def tw9536688357841153863:=()
def tw7164969610272591079:=()
def tw1717767836212652739:=()
def tw16140922888777852060:=()
def tw896239598344801917:=()
def tw2261719852989239553:=()
def tw3042748168174471775:=()
def tw140001813534094272:=()
def tw14226173905949225808:=()
def tw5444512763150141072:=()
def tw13622603851894308203:=()
def tw5498123283257192965:=()
def tw15861351967447197489:=()
def tw10374632558016547081:=()
def tw17351735930882485243:=()
def tw4490611911172417597:=()
def tw17292613610259460706:=()
def tw5217270863462422736:=()
def tw3300454383303005205:=()
def tw11421057715548341654:=()
def tw6469784823511061222:=()
def tw2585532686572414404:=()
def tw3543459598558145280:=()
def tw14703100239697439463:=()
def tw3641951560692057861:=()
def tw8760152093665844161:=()
def tw9796564346219866840:=()
def tw18157406047293677543:=()
def tw5101696844757716304:=()
def tw13810262117814702294:=()
def tw11766667032028208565:=()
def tw2403389108928632939:=()
def tw1725486776273817318:=()
def tw8480184845173159842:=()
def tw9848817304349107530:=()
def tw5994696166404524948:=()
def tw87601786513091389:=()
def tw9116068151291705539:=()
def tw14842496431369740429:=()
def tw5169815424762739871:=()
def tw12727641955093265886:=()
def tw1495895850433845275:=()
def tw8899516883271353254:=()
def tw17963105932079019327:=()
def tw2353497105660221152:=()
def tw17760279517084355780:=()
def tw9919008367099125623:=()
def tw2646887283097553488:=()
def tw3419001889969749887:=()
def tw643336161829623379:=()
def tw4953865588907285216:=()
def tw10519837036962490867:=()
def tw3382625519597670723:=()
def tw8912161614967838395:=()
def tw938635154573522699:=()
def tw9495317472360511255:=()
def tw15539815450414544023:=()
def tw17013487888433625170:=()
def tw7774113678449685934:=()
def tw5362036446546632119:=()
def tw8285278889055680438:=()
def tw6229817132586351632:=()
def tw12903330217458380548:=()
def tw523537741815420091:=()
def tw10876078143196172821:=()
def tw2455152089536381482:=()
def tw11266997524610791606:=()
def tw9977182230042388008:=()
def tw5438652380644606353:=()
def tw4039707410889071942:=()
def tw5449601097390414333:=()
def tw15779231459743154856:=()
def tw10295913840692754127:=()
def tw9456574344343218679:=()
def tw2692750590507578028:=()
def tw8949853181751564097:=()
def tw209982475168477708:=()
def tw10792498714594961201:=()
def tw8972062959192195235:=()
def tw4547051000311932777:=()
def tw16670775579421159206:=()
def tw6549852094080907030:=()
def tw9860861378791804195:=()
def tw8997383693586321770:=()
def tw12772213712371865176:=()
def tw3270257207059953099:=()
end PySem.W.Fast
open_top hd for PySem.Challenge.rw_mixedscales_k30_whole_digits_turned
set_option maxHeartbeats 8000000
namespace My
open PySem L2 PyProof.Rows
theorem us_1 {fd:FuncData}{ps:List Str}(h:∀ a0,bindArgs fd ⟨[a0],[]⟩=pure (ps.zip [a0])):∀ us:List Value,us.length=1->bindArgs fd ⟨us,[]⟩=pure (ps.zip us)
 |[a0],_=>h a0
theorem us_2 {fd:FuncData}{ps:List Str}(h:∀ a0 a1,bindArgs fd ⟨[a0,a1],[]⟩=pure (ps.zip [a0,a1])):∀ us:List Value,us.length=2->bindArgs fd ⟨us,[]⟩=pure (ps.zip us)
 |[a0,a1],_=>h a0 a1
theorem us_3 {fd:FuncData}{ps:List Str}(h:∀ a0 a1 a2,bindArgs fd ⟨[a0,a1,a2],[]⟩=pure (ps.zip [a0,a1,a2])):∀ us:List Value,us.length=3->bindArgs fd ⟨us,[]⟩=pure (ps.zip us)
 |[a0,a1,a2],_=>h a0 a1 a2
theorem us_4 {fd:FuncData}{ps:List Str}(h:∀ a0 a1 a2 a3,bindArgs fd ⟨[a0,a1,a2,a3],[]⟩=pure (ps.zip [a0,a1,a2,a3])):∀ us:List Value,us.length=4->bindArgs fd ⟨us,[]⟩=pure (ps.zip us)
 |[a0,a1,a2,a3],_=>h a0 a1 a2 a3
theorem us_5 {fd:FuncData}{ps:List Str}(h:∀ a0 a1 a2 a3 a4,bindArgs fd ⟨[a0,a1,a2,a3,a4],[]⟩=pure (ps.zip [a0,a1,a2,a3,a4])):∀ us:List Value,us.length=5->bindArgs fd ⟨us,[]⟩=pure (ps.zip us)
 |[a0,a1,a2,a3,a4],_=>h a0 a1 a2 a3 a4
theorem Zrx {l:PySem.W.OpenLaw}{w:World}{K:L2.Fg}{h:Heap}{mg:L2.SV}{fa  f_q19 f_q12 f_q10 f_q21 f_q3 f_q9 f_q5 f_q18 f_q13 f_q11 f_q7 f_q14 f_q20 f_q6 f_q4 f_q17 f_q15 f_q2 f_q0 f_q16 f_q8 f_q1 f_law  : Addr}(X:K.In h)(G:h.Ns mainGlobals mg)(hfa:mg "law" = some (.ref fa))
  {od_q19 an_q19 od_q12 an_q12 od_q10 an_q10 od_q21 an_q21 od_q3 an_q3 od_q9 an_q9 od_q5 an_q5 od_q18 an_q18 od_q13 an_q13 od_q11 an_q11 od_q7 an_q7 od_q14 an_q14 od_q20 an_q20 od_q6 an_q6 od_q4 an_q4 od_q17 an_q17 od_q15 an_q15 od_q2 an_q2 od_q0 an_q0 od_q16 an_q16 od_q8 an_q8 od_q1 an_q1 od_law an_law:Option Addr}{sl_q19 sl_q12 sl_q10 sl_q21 sl_q3 sl_q9 sl_q5 sl_q18 sl_q13 sl_q11 sl_q7 sl_q14 sl_q20 sl_q6 sl_q4 sl_q17 sl_q15 sl_q2 sl_q0 sl_q16 sl_q8 sl_q1 sl_law:Array (Option Value)}{oc_q19 kV_q19 dc_q19 pm_q19 cd_q19 ct_q19 oc_q12 kV_q12 dc_q12 pm_q12 cd_q12 ct_q12 oc_q10 kV_q10 dc_q10 pm_q10 cd_q10 ct_q10 oc_q21 kV_q21 dc_q21 pm_q21 cd_q21 ct_q21 oc_q3 kV_q3 dc_q3 pm_q3 cd_q3 ct_q3 oc_q9 kV_q9 dc_q9 pm_q9 cd_q9 ct_q9 oc_q5 kV_q5 dc_q5 pm_q5 cd_q5 ct_q5 oc_q18 kV_q18 dc_q18 pm_q18 cd_q18 ct_q18 oc_q13 kV_q13 dc_q13 pm_q13 cd_q13 ct_q13 oc_q11 kV_q11 dc_q11 pm_q11 cd_q11 ct_q11 oc_q7 kV_q7 dc_q7 pm_q7 cd_q7 ct_q7 oc_q14 kV_q14 dc_q14 pm_q14 cd_q14 ct_q14 oc_q20 kV_q20 dc_q20 pm_q20 cd_q20 ct_q20 oc_q6 kV_q6 dc_q6 pm_q6 cd_q6 ct_q6 oc_q4 kV_q4 dc_q4 pm_q4 cd_q4 ct_q4 oc_q17 kV_q17 dc_q17 pm_q17 cd_q17 ct_q17 oc_q15 kV_q15 dc_q15 pm_q15 cd_q15 ct_q15 oc_q2 kV_q2 dc_q2 pm_q2 cd_q2 ct_q2 oc_q0 kV_q0 dc_q0 pm_q0 cd_q0 ct_q0 oc_q16 kV_q16 dc_q16 pm_q16 cd_q16 ct_q16 oc_q8 kV_q8 dc_q8 pm_q8 cd_q8 ct_q8 oc_q1 kV_q1 dc_q1 pm_q1 cd_q1 ct_q1 oc_law kV_law dc_law pm_law cd_law ct_law:Value}
  (a_q19:PySem.W.nsIn K mainGlobals "digit_at" = some (some (.ref f_q19)))
  (l_q19:K.lookup f_q19=some ⟨oc_q19,od_q19,.func (PySem.W.fnOf "digit_at" "digit_at" (Z0h Zar) (Z0e Zar) (Z02 Zar) .none kV_q19 dc_q19 pm_q19 an_q19 cd_q19 ct_q19),sl_q19⟩)
  (c_q19:PySem.W.codeIn K cd_q19 "digit_at" = true)
  (k_q19:PySem.W.keepIn K (.ref f_q19)=true)
  (a_q12:PySem.W.nsIn K mainGlobals "row_lengths" = some (some (.ref f_q12)))
  (l_q12:K.lookup f_q12=some ⟨oc_q12,od_q12,.func (PySem.W.fnOf "row_lengths" "row_lengths" (Z0h Zat) (Z0e Zat) (Z02 Zat) .none kV_q12 dc_q12 pm_q12 an_q12 cd_q12 ct_q12),sl_q12⟩)
  (c_q12:PySem.W.codeIn K cd_q12 "row_lengths" = true)
  (k_q12:PySem.W.keepIn K (.ref f_q12)=true)
  (a_q10:PySem.W.nsIn K mainGlobals "farthest_of" = some (some (.ref f_q10)))
  (l_q10:K.lookup f_q10=some ⟨oc_q10,od_q10,.func (PySem.W.fnOf "farthest_of" "farthest_of" (Z0h Zav) (Z0e Zav) (Z02 Zav) .none kV_q10 dc_q10 pm_q10 an_q10 cd_q10 ct_q10),sl_q10⟩)
  (c_q10:PySem.W.codeIn K cd_q10 "farthest_of" = true)
  (k_q10:PySem.W.keepIn K (.ref f_q10)=true)
  (a_q21:PySem.W.nsIn K mainGlobals "reach_of" = some (some (.ref f_q21)))
  (l_q21:K.lookup f_q21=some ⟨oc_q21,od_q21,.func (PySem.W.fnOf "reach_of" "reach_of" (Z0h Zax) (Z0e Zax) (Z02 Zax) .none kV_q21 dc_q21 pm_q21 an_q21 cd_q21 ct_q21),sl_q21⟩)
  (c_q21:PySem.W.codeIn K cd_q21 "reach_of" = true)
  (k_q21:PySem.W.keepIn K (.ref f_q21)=true)
  (a_q3:PySem.W.nsIn K mainGlobals "first_lacking" = some (some (.ref f_q3)))
  (l_q3:K.lookup f_q3=some ⟨oc_q3,od_q3,.func (PySem.W.fnOf "first_lacking" "first_lacking" (Z0h s_q3) (Z0e s_q3) (Z02 s_q3) .none kV_q3 dc_q3 pm_q3 an_q3 cd_q3 ct_q3),sl_q3⟩)
  (c_q3:PySem.W.codeIn K cd_q3 "first_lacking" = true)
  (k_q3:PySem.W.keepIn K (.ref f_q3)=true)
  (a_q9:PySem.W.nsIn K mainGlobals "differences" = some (some (.ref f_q9)))
  (l_q9:K.lookup f_q9=some ⟨oc_q9,od_q9,.func (PySem.W.fnOf "differences" "differences" (Z0h s_q9) (Z0e s_q9) (Z02 s_q9) .none kV_q9 dc_q9 pm_q9 an_q9 cd_q9 ct_q9),sl_q9⟩)
  (c_q9:PySem.W.codeIn K cd_q9 "differences" = true)
  (k_q9:PySem.W.keepIn K (.ref f_q9)=true)
  (a_q5:PySem.W.nsIn K mainGlobals "shortest_pair" = some (some (.ref f_q5)))
  (l_q5:K.lookup f_q5=some ⟨oc_q5,od_q5,.func (PySem.W.fnOf "shortest_pair" "shortest_pair" (Z0h s_q5) (Z0e s_q5) (Z02 s_q5) .none kV_q5 dc_q5 pm_q5 an_q5 cd_q5 ct_q5),sl_q5⟩)
  (c_q5:PySem.W.codeIn K cd_q5 "shortest_pair" = true)
  (k_q5:PySem.W.keepIn K (.ref f_q5)=true)
  (a_q18:PySem.W.nsIn K mainGlobals "ways_back" = some (some (.ref f_q18)))
  (l_q18:K.lookup f_q18=some ⟨oc_q18,od_q18,.func (PySem.W.fnOf "ways_back" "ways_back" (Z0h Zay) (Z0e Zay) (Z02 Zay) .none kV_q18 dc_q18 pm_q18 an_q18 cd_q18 ct_q18),sl_q18⟩)
  (c_q18:PySem.W.codeIn K cd_q18 "ways_back" = true)
  (k_q18:PySem.W.keepIn K (.ref f_q18)=true)
  (a_q13:PySem.W.nsIn K mainGlobals "carried_on" = some (some (.ref f_q13)))
  (l_q13:K.lookup f_q13=some ⟨oc_q13,od_q13,.func (PySem.W.fnOf "carried_on" "carried_on" (Z0h Zb0) (Z0e Zb0) (Z02 Zb0) .none kV_q13 dc_q13 pm_q13 an_q13 cd_q13 ct_q13),sl_q13⟩)
  (c_q13:PySem.W.codeIn K cd_q13 "carried_on" = true)
  (k_q13:PySem.W.keepIn K (.ref f_q13)=true)
  (a_q11:PySem.W.nsIn K mainGlobals "first_digit" = some (some (.ref f_q11)))
  (l_q11:K.lookup f_q11=some ⟨oc_q11,od_q11,.func (PySem.W.fnOf "first_digit" "first_digit" (Z0h Zb2) (Z0e Zb2) (Z02 Zb2) .none kV_q11 dc_q11 pm_q11 an_q11 cd_q11 ct_q11),sl_q11⟩)
  (c_q11:PySem.W.codeIn K cd_q11 "first_digit" = true)
  (k_q11:PySem.W.keepIn K (.ref f_q11)=true)
  (a_q7:PySem.W.nsIn K mainGlobals "first_beside" = some (some (.ref f_q7)))
  (l_q7:K.lookup f_q7=some ⟨oc_q7,od_q7,.func (PySem.W.fnOf "first_beside" "first_beside" (Z0h s_q7) (Z0e s_q7) (Z02 s_q7) .none kV_q7 dc_q7 pm_q7 an_q7 cd_q7 ct_q7),sl_q7⟩)
  (c_q7:PySem.W.codeIn K cd_q7 "first_beside" = true)
  (k_q7:PySem.W.keepIn K (.ref f_q7)=true)
  (a_q14:PySem.W.nsIn K mainGlobals "first_pair" = some (some (.ref f_q14)))
  (l_q14:K.lookup f_q14=some ⟨oc_q14,od_q14,.func (PySem.W.fnOf "first_pair" "first_pair" (Z0h Zb3) (Z0e Zb3) (Z02 Zb3) .none kV_q14 dc_q14 pm_q14 an_q14 cd_q14 ct_q14),sl_q14⟩)
  (c_q14:PySem.W.codeIn K cd_q14 "first_pair" = true)
  (k_q14:PySem.W.keepIn K (.ref f_q14)=true)
  (a_q20:PySem.W.nsIn K mainGlobals "only_row" = some (some (.ref f_q20)))
  (l_q20:K.lookup f_q20=some ⟨oc_q20,od_q20,.func (PySem.W.fnOf "only_row" "only_row" (Z0h Zb4) (Z0e Zb4) (Z02 Zb4) .none kV_q20 dc_q20 pm_q20 an_q20 cd_q20 ct_q20),sl_q20⟩)
  (c_q20:PySem.W.codeIn K cd_q20 "only_row" = true)
  (k_q20:PySem.W.keepIn K (.ref f_q20)=true)
  (a_q6:PySem.W.nsIn K mainGlobals "written_paper" = some (some (.ref f_q6)))
  (l_q6:K.lookup f_q6=some ⟨oc_q6,od_q6,.func (PySem.W.fnOf "written_paper" "written_paper" (Z0h s_q6) (Z0e s_q6) (Z02 s_q6) .none kV_q6 dc_q6 pm_q6 an_q6 cd_q6 ct_q6),sl_q6⟩)
  (c_q6:PySem.W.codeIn K cd_q6 "written_paper" = true)
  (k_q6:PySem.W.keepIn K (.ref f_q6)=true)
  (a_q4:PySem.W.nsIn K mainGlobals "judged_digits" = some (some (.ref f_q4)))
  (l_q4:K.lookup f_q4=some ⟨oc_q4,od_q4,.func (PySem.W.fnOf "judged_digits" "judged_digits" (Z0h s_q4) (Z0e s_q4) (Z02 s_q4) .none kV_q4 dc_q4 pm_q4 an_q4 cd_q4 ct_q4),sl_q4⟩)
  (c_q4:PySem.W.codeIn K cd_q4 "judged_digits" = true)
  (k_q4:PySem.W.keepIn K (.ref f_q4)=true)
  (a_q17:PySem.W.nsIn K mainGlobals "_law_pile" = some (some (.ref f_q17)))
  (l_q17:K.lookup f_q17=some ⟨oc_q17,od_q17,.func (PySem.W.fnOf "_law_pile" "_law_pile" (Z0h Zb5) (Z0e Zb5) (Z02 Zb5) .none kV_q17 dc_q17 pm_q17 an_q17 cd_q17 ct_q17),sl_q17⟩)
  (c_q17:PySem.W.codeIn K cd_q17 "_law_pile" = true)
  (k_q17:PySem.W.keepIn K (.ref f_q17)=true)
  (a_q15:PySem.W.nsIn K mainGlobals "_law_next" = some (some (.ref f_q15)))
  (l_q15:K.lookup f_q15=some ⟨oc_q15,od_q15,.func (PySem.W.fnOf "_law_next" "_law_next" (Z0h Zb7) (Z0e Zb7) (Z02 Zb7) .none kV_q15 dc_q15 pm_q15 an_q15 cd_q15 ct_q15),sl_q15⟩)
  (c_q15:PySem.W.codeIn K cd_q15 "_law_next" = true)
  (k_q15:PySem.W.keepIn K (.ref f_q15)=true)
  (a_q2:PySem.W.nsIn K mainGlobals "_law_shuffled" = some (some (.ref f_q2)))
  (l_q2:K.lookup f_q2=some ⟨oc_q2,od_q2,.func (PySem.W.fnOf "_law_shuffled" "_law_shuffled" (Z0h s_q2) (Z0e s_q2) (Z02 s_q2) .none kV_q2 dc_q2 pm_q2 an_q2 cd_q2 ct_q2),sl_q2⟩)
  (c_q2:PySem.W.codeIn K cd_q2 "_law_shuffled" = true)
  (k_q2:PySem.W.keepIn K (.ref f_q2)=true)
  (a_q0:PySem.W.nsIn K mainGlobals "_law_base_and_digits" = some (some (.ref f_q0)))
  (l_q0:K.lookup f_q0=some ⟨oc_q0,od_q0,.func (PySem.W.fnOf "_law_base_and_digits" "_law_base_and_digits" (Z0h s_q0) (Z0e s_q0) (Z02 s_q0) .none kV_q0 dc_q0 pm_q0 an_q0 cd_q0 ct_q0),sl_q0⟩)
  (c_q0:PySem.W.codeIn K cd_q0 "_law_base_and_digits" = true)
  (k_q0:PySem.W.keepIn K (.ref f_q0)=true)
  (a_q16:PySem.W.nsIn K mainGlobals "_law_over" = some (some (.ref f_q16)))
  (l_q16:K.lookup f_q16=some ⟨oc_q16,od_q16,.func (PySem.W.fnOf "_law_over" "_law_over" (Z0h Zb9) (Z0e Zb9) (Z02 Zb9) .none kV_q16 dc_q16 pm_q16 an_q16 cd_q16 ct_q16),sl_q16⟩)
  (c_q16:PySem.W.codeIn K cd_q16 "_law_over" = true)
  (k_q16:PySem.W.keepIn K (.ref f_q16)=true)
  (a_q8:PySem.W.nsIn K mainGlobals "_law_longer" = some (some (.ref f_q8)))
  (l_q8:K.lookup f_q8=some ⟨oc_q8,od_q8,.func (PySem.W.fnOf "_law_longer" "_law_longer" (Z0h s_q8) (Z0e s_q8) (Z02 s_q8) .none kV_q8 dc_q8 pm_q8 an_q8 cd_q8 ct_q8),sl_q8⟩)
  (c_q8:PySem.W.codeIn K cd_q8 "_law_longer" = true)
  (k_q8:PySem.W.keepIn K (.ref f_q8)=true)
  (a_q1:PySem.W.nsIn K mainGlobals "_law_turned_right" = some (some (.ref f_q1)))
  (l_q1:K.lookup f_q1=some ⟨oc_q1,od_q1,.func (PySem.W.fnOf "_law_turned_right" "_law_turned_right" (Z0h s_q1) (Z0e s_q1) (Z02 s_q1) .none kV_q1 dc_q1 pm_q1 an_q1 cd_q1 ct_q1),sl_q1⟩)
  (c_q1:PySem.W.codeIn K cd_q1 "_law_turned_right" = true)
  (k_q1:PySem.W.keepIn K (.ref f_q1)=true)
  (a_law:PySem.W.nsIn K mainGlobals "law" = some (some (.ref f_law)))
  (l_law:K.lookup f_law=some ⟨oc_law,od_law,.func (PySem.W.fnOf "law" "law" (Z0h Z65) (Z0e Z65) (Z02 Z65) .none kV_law dc_law pm_law an_law cd_law ct_law),sl_law⟩)
  (c_law:PySem.W.codeIn K cd_law "law" = true)
  (k_law:PySem.W.keepIn K (.ref f_law)=true)
  (n_len:PySem.W.nsIn K mainGlobals "len" = some none)
  (n_range:PySem.W.nsIn K mainGlobals "range" = some none)
  (n_sum:PySem.W.nsIn K mainGlobals "sum" = some none)
  (n_tuple:PySem.W.nsIn K mainGlobals "tuple" = some none)
  (n_list:PySem.W.nsIn K mainGlobals "list" = some none)
  (n_max:PySem.W.nsIn K mainGlobals "max" = some none)
  (n_min:PySem.W.nsIn K mainGlobals "min" = some none)
  (n_isinstance:PySem.W.nsIn K mainGlobals "isinstance" = some none)
  (n_int:PySem.W.nsIn K mainGlobals "int" = some none)
  (n_bool:PySem.W.nsIn K mainGlobals "bool" = some none)
  (n_abs:PySem.W.nsIn K mainGlobals "abs" = some none)
  (n_zip:PySem.W.nsIn K mainGlobals "zip" = some none)
  (n_enumerate:PySem.W.nsIn K mainGlobals "enumerate" = some none)
  (n_any:PySem.W.nsIn K mainGlobals "any" = some none)
  (n_all:PySem.W.nsIn K mainGlobals "all" = some none)
  (n_sorted:PySem.W.nsIn K mainGlobals "sorted" = some none)
  (n_set:PySem.W.nsIn K mainGlobals "set" = some none)
  (n_dict:PySem.W.nsIn K mainGlobals "dict" = some none)
  (n_reversed:PySem.W.nsIn K mainGlobals "reversed" = some none)
  (n_ValueError:PySem.W.nsIn K mainGlobals "ValueError" = some none)
  (i_ib:PySem.W.kitOne K (.type "int") (.type "bool")=some false)
  (i_bi:PySem.W.kitOne K (.type "bool") (.type "int")=some true)
  : ∃ fd:FuncData,(∀(s:Shared)(v:Value),BindsTo s fd ⟨[v],[]⟩ [("script",v)])/\∀ base:Heap,K.In base->base.Ns mainGlobals mg->FnOk l.prog w K mg base CX0 6 fa fd ["script"] (Zag K):=by
 have e:=hfa.symm.trans (PySem.W.mg_of X G a_law)
 cases e;have F_q19':=Z0t (st:=Zar) l_q19 c_q19 k_q19;have b_q19':=F_q19'.binds (ps:=Ze5) fun ψ ψ ψ ψ ψ ψ us hl=>us_2 (fun ψ ψ=>rfl) us hl;have m_q19:=PySem.W.mg_of X G a_q19;have F_q12':=Z0t (st:=Zat) l_q12 c_q12 k_q12;have b_q12':=F_q12'.binds (ps:=Zau) fun ψ ψ ψ ψ ψ ψ us hl=>us_4 (fun ψ ψ ψ ψ=>rfl) us hl;have m_q12:=PySem.W.mg_of X G a_q12;have F_q10':=Z0t (st:=Zav) l_q10 c_q10 k_q10;have b_q10':=F_q10'.binds (ps:=Zaw) fun ψ ψ ψ ψ ψ ψ us hl=>us_1 (fun ψ=>rfl) us hl;have m_q10:=PySem.W.mg_of X G a_q10;have F_q21':=Z0t (st:=Zax) l_q21 c_q21 k_q21;have b_q21':=F_q21'.binds (ps:=Z8c) fun ψ ψ ψ ψ ψ ψ us hl=>us_2 (fun ψ ψ=>rfl) us hl;have m_q21:=PySem.W.mg_of X G a_q21;have F_q3':=Z0t (st:=s_q3) l_q3 c_q3 k_q3;have b_q3':=F_q3'.binds (ps:=p_q3) fun ψ ψ ψ ψ ψ ψ us hl=>us_2 (fun ψ ψ=>rfl) us hl;have m_q3:=PySem.W.mg_of X G a_q3;have F_q9':=Z0t (st:=s_q9) l_q9 c_q9 k_q9;have b_q9':=F_q9'.binds (ps:=p_q9) fun ψ ψ ψ ψ ψ ψ us hl=>us_2 (fun ψ ψ=>rfl) us hl;have m_q9:=PySem.W.mg_of X G a_q9;have F_q5':=Z0t (st:=s_q5) l_q5 c_q5 k_q5;have b_q5':=F_q5'.binds (ps:=p_q5) fun ψ ψ ψ ψ ψ ψ us hl=>us_2 (fun ψ ψ=>rfl) us hl;have m_q5:=PySem.W.mg_of X G a_q5;have F_q18':=Z0t (st:=Zay) l_q18 c_q18 k_q18;have b_q18':=F_q18'.binds (ps:=Ze7) fun ψ ψ ψ ψ ψ ψ us hl=>us_4 (fun ψ ψ ψ ψ=>rfl) us hl;have m_q18:=PySem.W.mg_of X G a_q18;have F_q13':=Z0t (st:=Zb0) l_q13 c_q13 k_q13;have b_q13':=F_q13'.binds (ps:=Zb1) fun ψ ψ ψ ψ ψ ψ us hl=>us_5 (fun ψ ψ ψ ψ ψ=>rfl) us hl;have m_q13:=PySem.W.mg_of X G a_q13;have F_q11':=Z0t (st:=Zb2) l_q11 c_q11 k_q11;have b_q11':=F_q11'.binds (ps:=Ze9) fun ψ ψ ψ ψ ψ ψ us hl=>us_5 (fun ψ ψ ψ ψ ψ=>rfl) us hl;have m_q11:=PySem.W.mg_of X G a_q11;have F_q7':=Z0t (st:=s_q7) l_q7 c_q7 k_q7;have b_q7':=F_q7'.binds (ps:=p_q7) fun ψ ψ ψ ψ ψ ψ us hl=>us_3 (fun ψ ψ ψ=>rfl) us hl;have m_q7:=PySem.W.mg_of X G a_q7;have F_q14':=Z0t (st:=Zb3) l_q14 c_q14 k_q14;have b_q14':=F_q14'.binds (ps:=Zec) fun ψ ψ ψ ψ ψ ψ us hl=>us_2 (fun ψ ψ=>rfl) us hl;have m_q14:=PySem.W.mg_of X G a_q14;have F_q20':=Z0t (st:=Zb4) l_q20 c_q20 k_q20;have b_q20':=F_q20'.binds (ps:=Zef) fun ψ ψ ψ ψ ψ ψ us hl=>us_3 (fun ψ ψ ψ=>rfl) us hl;have m_q20:=PySem.W.mg_of X G a_q20;have F_q6':=Z0t (st:=s_q6) l_q6 c_q6 k_q6;have b_q6':=F_q6'.binds (ps:=p_q6) fun ψ ψ ψ ψ ψ ψ us hl=>us_2 (fun ψ ψ=>rfl) us hl;have m_q6:=PySem.W.mg_of X G a_q6;have F_q4':=Z0t (st:=s_q4) l_q4 c_q4 k_q4;have b_q4':=F_q4'.binds (ps:=p_q4) fun ψ ψ ψ ψ ψ ψ us hl=>us_2 (fun ψ ψ=>rfl) us hl;have m_q4:=PySem.W.mg_of X G a_q4;have F_q17':=Z0t (st:=Zb5) l_q17 c_q17 k_q17;have b_q17':=F_q17'.binds (ps:=Zei) fun ψ ψ ψ ψ ψ ψ us hl=>us_1 (fun ψ=>rfl) us hl;have m_q17:=PySem.W.mg_of X G a_q17;have F_q15':=Z0t (st:=Zb7) l_q15 c_q15 k_q15;have b_q15':=F_q15'.binds (ps:=Zb8) fun ψ ψ ψ ψ ψ ψ us hl=>us_2 (fun ψ ψ=>rfl) us hl;have m_q15:=PySem.W.mg_of X G a_q15;have F_q2':=Z0t (st:=s_q2) l_q2 c_q2 k_q2;have b_q2':=F_q2'.binds (ps:=p_q2) fun ψ ψ ψ ψ ψ ψ us hl=>us_2 (fun ψ ψ=>rfl) us hl;have m_q2:=PySem.W.mg_of X G a_q2;have F_q0':=Z0t (st:=s_q0) l_q0 c_q0 k_q0;have b_q0':=F_q0'.binds (ps:=p_q0) fun ψ ψ ψ ψ ψ ψ us hl=>us_1 (fun ψ=>rfl) us hl;have m_q0:=PySem.W.mg_of X G a_q0;have F_q16':=Z0t (st:=Zb9) l_q16 c_q16 k_q16;have b_q16':=F_q16'.binds (ps:=Zba) fun ψ ψ ψ ψ ψ ψ us hl=>us_1 (fun ψ=>rfl) us hl;have m_q16:=PySem.W.mg_of X G a_q16;have F_q8':=Z0t (st:=s_q8) l_q8 c_q8 k_q8;have b_q8':=F_q8'.binds (ps:=p_q8) fun ψ ψ ψ ψ ψ ψ us hl=>us_1 (fun ψ=>rfl) us hl;have m_q8:=PySem.W.mg_of X G a_q8;have F_q1':=Z0t (st:=s_q1) l_q1 c_q1 k_q1;have b_q1':=F_q1'.binds (ps:=p_q1) fun ψ ψ ψ ψ ψ ψ us hl=>us_2 (fun ψ ψ=>rfl) us hl;have m_q1:=PySem.W.mg_of X G a_q1;have F_law':=Z0t (st:=Z65) l_law c_law k_law;have z_len:=PySem.W.mg_none_of X G n_len;have z_range:=PySem.W.mg_none_of X G n_range;have z_sum:=PySem.W.mg_none_of X G n_sum;have z_tuple:=PySem.W.mg_none_of X G n_tuple;have z_list:=PySem.W.mg_none_of X G n_list;have z_max:=PySem.W.mg_none_of X G n_max;have z_min:=PySem.W.mg_none_of X G n_min;have z_isinstance:=PySem.W.mg_none_of X G n_isinstance;have z_int:=PySem.W.mg_none_of X G n_int;have z_bool:=PySem.W.mg_none_of X G n_bool;have z_abs:=PySem.W.mg_none_of X G n_abs;have z_zip:=PySem.W.mg_none_of X G n_zip;have z_enumerate:=PySem.W.mg_none_of X G n_enumerate;have z_any:=PySem.W.mg_none_of X G n_any;have z_all:=PySem.W.mg_none_of X G n_all;have z_sorted:=PySem.W.mg_none_of X G n_sorted;have z_set:=PySem.W.mg_none_of X G n_set;have z_dict:=PySem.W.mg_none_of X G n_dict;have z_reversed:=PySem.W.mg_none_of X G n_reversed;have z_ValueError:=PySem.W.mg_none_of X G n_ValueError;have B:Bl mg:=⟨z_len,z_range,z_sum,z_tuple,z_list,z_max,z_min,z_isinstance,z_int,z_bool,z_abs,z_zip,z_enumerate,z_any,z_all,z_sorted,z_set,z_dict,z_reversed,z_ValueError⟩
 have kt:Kt K:=⟨i_ib,i_bi⟩
 have T:Tx K mg:=⟨trivial⟩
 refine⟨PySem.W.fnOf "law" "law" (Z0h Z65) (Z0e Z65) (Z02 Z65) .none kV_law dc_law pm_law an_law cd_law ct_law,fun s v=>.of_eq rfl,fun base ψ ψ=>?_⟩;have c_q19':=Fn.mk (Zqv (P:=l.prog) (w:=w) (base:=base) F_q19' B kt T ) m_q19 k_q19 b_q19';have c_q12':=Fn.mk (Zqw (P:=l.prog) (w:=w) (base:=base) F_q12' B kt T ) m_q12 k_q12 b_q12';have c_q10':=Fn.mk (Zqx (P:=l.prog) (w:=w) (base:=base) F_q10' B kt T ) m_q10 k_q10 b_q10';have c_q21':=Fn.mk (Zqy (P:=l.prog) (w:=w) (base:=base) F_q21' B kt T c_q10') m_q21 k_q21 b_q21';have c_q3':=Fn.mk (Ztb (P:=l.prog) (w:=w) (base:=base) F_q3' B kt T c_q12' c_q21') m_q3 k_q3 b_q3';have c_q9':=Fn.mk (Ztc (P:=l.prog) (w:=w) (base:=base) F_q9' B kt T ) m_q9 k_q9 b_q9';have c_q5':=Fn.mk (Ztd (P:=l.prog) (w:=w) (base:=base) F_q5' B kt T c_q9' c_q12' c_q21') m_q5 k_q5 b_q5';have c_q18':=Fn.mk (Zr2 (P:=l.prog) (w:=w) (base:=base) F_q18' B kt T c_q9') m_q18 k_q18 b_q18';have c_q13':=Fn.mk (Zr3 (P:=l.prog) (w:=w) (base:=base) F_q13' B kt T ) m_q13 k_q13 b_q13';have c_q11':=Fn.mk (Zr4 (P:=l.prog) (w:=w) (base:=base) F_q11' B kt T c_q13') m_q11 k_q11 b_q11';have c_q7':=Fn.mk (Zte (P:=l.prog) (w:=w) (base:=base) F_q7' B kt T c_q21' c_q18' c_q9' c_q11' c_q13') m_q7 k_q7 b_q7';have c_q14':=Fn.mk (Zr6 (P:=l.prog) (w:=w) (base:=base) F_q14' B kt T c_q5' c_q7' c_q19') m_q14 k_q14 b_q14';have c_q20':=Fn.mk (Zr7 (P:=l.prog) (w:=w) (base:=base) F_q20' B kt T ) m_q20 k_q20 b_q20';have c_q6':=Fn.mk (Ztf (P:=l.prog) (w:=w) (base:=base) F_q6' B kt T c_q10' c_q20') m_q6 k_q6 b_q6';have c_q4':=Fn.mk (Ztg (P:=l.prog) (w:=w) (base:=base) F_q4' B kt T c_q3' c_q14' c_q6') m_q4 k_q4 b_q4';have c_q17':=Fn.mk (Zra (P:=l.prog) (w:=w) (base:=base) F_q17' B kt T ) m_q17 k_q17 b_q17';have c_q15':=Fn.mk (Zrb (P:=l.prog) (w:=w) (base:=base) F_q15' B kt T ) m_q15 k_q15 b_q15';have c_q2':=Fn.mk (Zth (P:=l.prog) (w:=w) (base:=base) F_q2' B kt T c_q15') m_q2 k_q2 b_q2';have c_q0':=Fn.mk (Zti (P:=l.prog) (w:=w) (base:=base) F_q0' B kt T c_q15' c_q2') m_q0 k_q0 b_q0';have c_q16':=Fn.mk (Zre (P:=l.prog) (w:=w) (base:=base) F_q16' B kt T ) m_q16 k_q16 b_q16';have c_q8':=Fn.mk (Ztj (P:=l.prog) (w:=w) (base:=base) F_q8' B kt T ) m_q8 k_q8 b_q8';have c_q1':=Fn.mk (Ztk (P:=l.prog) (w:=w) (base:=base) F_q1' B kt T c_q8' c_q16') m_q1 k_q1 b_q1';exact Zfz (Zri F_law' B kt T c_q17' c_q0' c_q4' c_q1' c_q2' c_q16' Zme Zhd)
end My
open PySem PySem.W PyProof.Rows
set_option maxRecDepth 100000 in
set_option maxHeartbeats 0 in
theorem PySem.Challenge.cw_mixedscales_k30_whole_digits_turned_holds : PySem.Challenge.rw_mixedscales_k30_whole_digits_turned.Holds :=
 hd (by
 k_fill
 refine L2.Zfd (l:=PySem.Challenge.rw_mixedscales_k30_whole_digits_turned) (n:=63) (k:=6) (x := "script") (CX:=L2.CX0) (sp:=L2.Zag) rfl (by decide) rfl ⟨rfl,by decide,by decide⟩ (fun w h Y=>PySem.W.kIn_of Y) ?F ?S ?C
 case S=>exact fun ψ ψ a ns hl ψ hS=>⟨a,ns,rfl,hS,hl,fun ψ=>rfl⟩
 case C=>exact fun ψ ψ ψ ψ z=>z
 case F=>
  intro w mg fa h KX G hmg;refine' My.Zrx KX G hmg ?a_q19 ?l_q19 ?c_q19 ?k_q19 ?a_q12 ?l_q12 ?c_q12 ?k_q12 ?a_q10 ?l_q10 ?c_q10 ?k_q10 ?a_q21 ?l_q21 ?c_q21 ?k_q21 ?a_q3 ?l_q3 ?c_q3 ?k_q3 ?a_q9 ?l_q9 ?c_q9 ?k_q9 ?a_q5 ?l_q5 ?c_q5 ?k_q5 ?a_q18 ?l_q18 ?c_q18 ?k_q18 ?a_q13 ?l_q13 ?c_q13 ?k_q13 ?a_q11 ?l_q11 ?c_q11 ?k_q11 ?a_q7 ?l_q7 ?c_q7 ?k_q7 ?a_q14 ?l_q14 ?c_q14 ?k_q14 ?a_q20 ?l_q20 ?c_q20 ?k_q20 ?a_q6 ?l_q6 ?c_q6 ?k_q6 ?a_q4 ?l_q4 ?c_q4 ?k_q4 ?a_q17 ?l_q17 ?c_q17 ?k_q17 ?a_q15 ?l_q15 ?c_q15 ?k_q15 ?a_q2 ?l_q2 ?c_q2 ?k_q2 ?a_q0 ?l_q0 ?c_q0 ?k_q0 ?a_q16 ?l_q16 ?c_q16 ?k_q16 ?a_q8 ?l_q8 ?c_q8 ?k_q8 ?a_q1 ?l_q1 ?c_q1 ?k_q1 ?a_law ?l_law ?c_law ?k_law ?n_len ?n_range ?n_sum ?n_tuple ?n_list ?n_max ?n_min ?n_isinstance ?n_int ?n_bool ?n_abs ?n_zip ?n_enumerate ?n_any ?n_all ?n_sorted ?n_set ?n_dict ?n_reversed ?n_ValueError ?i_ib ?i_bi
  (case a_q19=>k_is)
  (case l_q19=>k_is)
  (case c_q19=>k_is)
  (case k_q19=>k_is)
  (case a_q12=>k_is)
  (case l_q12=>k_is)
  (case c_q12=>k_is)
  (case k_q12=>k_is)
  (case a_q10=>k_is)
  (case l_q10=>k_is)
  (case c_q10=>k_is)
  (case k_q10=>k_is)
  (case a_q21=>k_is)
  (case l_q21=>k_is)
  (case c_q21=>k_is)
  (case k_q21=>k_is)
  (case a_q3=>k_is)
  (case l_q3=>k_is)
  (case c_q3=>k_is)
  (case k_q3=>k_is)
  (case a_q9=>k_is)
  (case l_q9=>k_is)
  (case c_q9=>k_is)
  (case k_q9=>k_is)
  (case a_q5=>k_is)
  (case l_q5=>k_is)
  (case c_q5=>k_is)
  (case k_q5=>k_is)
  (case a_q18=>k_is)
  (case l_q18=>k_is)
  (case c_q18=>k_is)
  (case k_q18=>k_is)
  (case a_q13=>k_is)
  (case l_q13=>k_is)
  (case c_q13=>k_is)
  (case k_q13=>k_is)
  (case a_q11=>k_is)
  (case l_q11=>k_is)
  (case c_q11=>k_is)
  (case k_q11=>k_is)
  (case a_q7=>k_is)
  (case l_q7=>k_is)
  (case c_q7=>k_is)
  (case k_q7=>k_is)
  (case a_q14=>k_is)
  (case l_q14=>k_is)
  (case c_q14=>k_is)
  (case k_q14=>k_is)
  (case a_q20=>k_is)
  (case l_q20=>k_is)
  (case c_q20=>k_is)
  (case k_q20=>k_is)
  (case a_q6=>k_is)
  (case l_q6=>k_is)
  (case c_q6=>k_is)
  (case k_q6=>k_is)
  (case a_q4=>k_is)
  (case l_q4=>k_is)
  (case c_q4=>k_is)
  (case k_q4=>k_is)
  (case a_q17=>k_is)
  (case l_q17=>k_is)
  (case c_q17=>k_is)
  (case k_q17=>k_is)
  (case a_q15=>k_is)
  (case l_q15=>k_is)
  (case c_q15=>k_is)
  (case k_q15=>k_is)
  (case a_q2=>k_is)
  (case l_q2=>k_is)
  (case c_q2=>k_is)
  (case k_q2=>k_is)
  (case a_q0=>k_is)
  (case l_q0=>k_is)
  (case c_q0=>k_is)
  (case k_q0=>k_is)
  (case a_q16=>k_is)
  (case l_q16=>k_is)
  (case c_q16=>k_is)
  (case k_q16=>k_is)
  (case a_q8=>k_is)
  (case l_q8=>k_is)
  (case c_q8=>k_is)
  (case k_q8=>k_is)
  (case a_q1=>k_is)
  (case l_q1=>k_is)
  (case c_q1=>k_is)
  (case k_q1=>k_is)
  (case a_law=>k_is)
  (case l_law=>k_is)
  (case c_law=>k_is)
  (case k_law=>k_is)
  (case n_len=>k_is)
  (case n_range=>k_is)
  (case n_sum=>k_is)
  (case n_tuple=>k_is)
  (case n_list=>k_is)
  (case n_max=>k_is)
  (case n_min=>k_is)
  (case n_isinstance=>k_is)
  (case n_int=>k_is)
  (case n_bool=>k_is)
  (case n_abs=>k_is)
  (case n_zip=>k_is)
  (case n_enumerate=>k_is)
  (case n_any=>k_is)
  (case n_all=>k_is)
  (case n_sorted=>k_is)
  (case n_set=>k_is)
  (case n_dict=>k_is)
  (case n_reversed=>k_is)
  (case n_ValueError=>k_is)
  (case i_ib=>kit_is)
  (case i_bi=>kit_is)
 )
end
