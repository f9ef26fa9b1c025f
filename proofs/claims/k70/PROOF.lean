import PyProof.Rows.All
import Wide.All
import OpenK.AllK
import Wide.FinOn
import Lean
import PyProof.EqAt
import PyProof.EqKinds
import PyProof.TupleCall
import PyProof.NeKinds
import KE.KLam
import KE.KMinKey
import KE.KDictOf
import PySem.Challenge.RW_shimright_k70_whole_any_stand
set_option genInjectivity false
set_option genSizeOf false
set_option genSizeOfSpec false
set_option Elab.async false
set_option linter.all false
set_option maxRecDepth 100000
namespace L2
theorem e12 {α:Type} {A B:α->Prop} {R:Prop} (h:∃x,A x/\B x) (k:∀x,A x->B x->R):R:=h.elim λx h=>k x h.1 h.2
theorem e22 {α β:Type} {A B:α->β->Prop} {R:Prop} (h:∃x y,A x y/\B x y) (k:∀x y,A x y->B x y->R):R:=h.elim λx h=>h.elim λy h=>k x y h.1 h.2
theorem e23 {α β:Type} {A B C:α->β->Prop} {R:Prop} (h:∃x y,A x y/\B x y/\C x y) (k:∀x y,A x y->B x y->C x y->R):R:=h.elim λx h=>h.elim λy h=>k x y h.1 h.2.1 h.2.2
theorem e24 {α β:Type} {A B C D:α->β->Prop} {R:Prop} (h:∃x y,A x y/\B x y/\C x y/\D x y) (k:∀x y,A x y->B x y->C x y->D x y->R):R:=h.elim λx h=>h.elim λy h=>k x y h.1 h.2.1 h.2.2.1 h.2.2.2
open PySem PySem.Spec PyProof.Rows
abbrev Key:=Sum Int Str
def qko_:Key->Value->Bool
 | .inl k,v=>Value.isInt k v
 | .inr x,v=>Value.isStrOf x v
def keyH (w:World):Key->Int
 | .inl k=>hashInt k
 | .inr x=>hashStr w x
theorem q5_:∀{k:Key} {v:Value},qko_ k v=true->(∃i t,k=Sum.inl i/\v=Value.int i t)\/(∃x t,k=Sum.inr x/\v=Value.str x t)
 | .inl i,v,h=>by
  obtain ⟨t,e⟩:=Value.isInt_shape (k:=i) (v:=v) h
  exact .inl ⟨i,t,rfl,e⟩
 | .inr x,v,h=>by
  obtain ⟨t,e⟩:=Value.isStrOf_shape (x:=x) (v:=v) h
  exact .inr ⟨x,t,rfl,e⟩
theorem ql4_ (i:Int) (t:Tok):qko_ (.inl i) (.int i t)=true:=by simp [qko_,Value.isInt]
theorem ql9_ (x:Str) (t:Tok):qko_ (.inr x) (.str x t)=true:=by simp [qko_,Value.isStrOf]
theorem qu6_ (a b:Int):decide ((Sum.inl a:Key)=Sum.inl b)=(a==b):=by
 by_cases e:a=b
 ·subst e;simp
 ·have h:¬(Sum.inl a:Key)=Sum.inl b:=λq=>e (Sum.inl.inj q)
  rw [decide_eq_false h]
  exact (beq_eq_false_iff_ne.mpr e).symm
theorem qsj_ (a b:Str):decide ((Sum.inr a:Key)=Sum.inr b)=decide (a=b):=by
 by_cases e:a=b
 ·subst e;simp
 ·have h:¬(Sum.inr a:Key)=Sum.inr b:=λq=>e (Sum.inr.inj q)
  rw [decide_eq_false h,decide_eq_false e]
theorem quk_ (a:Int) (b:Str):decide ((Sum.inl a:Key)=Sum.inr b)=false:=decide_eq_false (λq=>nomatch q)
theorem qrz_ (a:Str) (b:Int):decide ((Sum.inr a:Key)=Sum.inl b)=false:=decide_eq_false (λq=>nomatch q)
def qd9_ (prog:Program) (w:World):PySem.KeyKind prog w Key where
 is:=qko_
 hash:=keyH w
 inj:=λv a b ha hb=>by
  rcases q5_ ha with ⟨i,t,rfl,rfl⟩|⟨x,t,rfl,rfl⟩
  ·rcases q5_ hb with ⟨j,u,rfl,e⟩|⟨y,u,rfl,e⟩
   ·injection e with e1 _;rw [e1]
   ·exact nomatch e
  ·rcases q5_ hb with ⟨j,u,rfl,e⟩|⟨y,u,rfl,e⟩
   ·exact nomatch e
   ·injection e with e1 _;rw [e1]
 byValue:=λk v h=>by
  rcases q5_ h with ⟨i,t,rfl,rfl⟩|⟨x,t,rfl,rfl⟩<;>rfl
 pyHash:=λhv h=>by
  rcases q5_ hv with ⟨i,t,rfl,rfl⟩|⟨x,t,rfl,rfl⟩
  ·exact wpAny_pyHash_int h
  ·exact wpAny_pyHash_str h
 eqBool:=λhu hv h=>by
  rcases q5_ hu with ⟨i,t,rfl,rfl⟩|⟨x,t,rfl,rfl⟩
  ·rcases q5_ hv with ⟨j,u,rfl,rfl⟩|⟨y,u,rfl,rfl⟩
   ·rw [qu6_] at h;exact wpAny_eqBool_int h
   ·rw [quk_] at h;exact SeqAt.EqAt.int_str i t y u _ _ _ _ h
  ·rcases q5_ hv with ⟨j,u,rfl,rfl⟩|⟨y,u,rfl,rfl⟩
   ·rw [qrz_] at h;exact SeqAt.EqAt.str_int x t j u _ _ _ _ h
   ·rw [qsj_] at h;exact wpAny_eqBool_str h
 «strs»:=λk x t v h=>by
  rcases q5_ h with ⟨i,u,rfl,e⟩|⟨y,u,rfl,e⟩
  ·exact nomatch e
  ·injection e with e1 _
   subst e1
   cases v<;>rfl
theorem qi0_ (prog:Program) (w:World) (i:Int) (t:Tok):(qd9_ prog w).is (.inl i) (.int i t)=true:=ql4_ i t
theorem qip_ (prog:Program) (w:World) (x:Str) (t:Tok):(qd9_ prog w).is (.inr x) (.str x t)=true:=ql9_ x t
end L2
namespace L2
open PySem PySem.Spec PyProof.Rows
inductive V where
 |non|bl (b:Bool)|int (i:Int)|str (x:Str)|byt (b:Array UInt8)|flt (b:UInt64)|ref (a:Addr)|ty (n:String)
 deriving DecidableEq
def RelV:V->Value->Prop
 | .non,u=>u=Value.none
 | .bl b,u=>u=Value.bool b
 | .int i,u=>∃t,u=Value.int i t
 | .str x,u=>∃t,u=Value.str x t
 | .byt b,u=>∃t,u=Value.bytes b t
 | .flt b,u=>∃t,u=Value.float b t
 | .ref a,u=>u=Value.ref a
 | .ty n,u=>u=Value.type n
abbrev Vals:List V->List Value->Prop:=Paired RelV
theorem Vals.length {xs:List V} {us:List Value} (r:Vals xs us):xs.length=us.length:=Paired.length r
theorem Vals.get:∀{xs:List V} {us:List Value} {i:Nat} {x:V},Vals xs us->xs[i]?=some x->∃u,us[i]?=some u/\RelV x u
 |_,_,_,_,.nil,e=>by simp at e
 |_,_,0,_,.cons r _,e=>by simp at e;subst e;exact ⟨_,rfl,r⟩
 |_,_,i+1,x,.cons _ t,e=>by
  obtain ⟨u,h1,h2⟩:=Vals.get (i:=i) (x:=x) t (by simpa using e)
  exact ⟨u,by simpa using h1,h2⟩
theorem Vals.set {x:V} {u:Value} (r:RelV x u):∀{xs:List V} {us:List Value} (i:Nat),Vals xs us->Vals (xs.set i x) (us.set i u)
 |_,_,_,.nil=> .nil
 |_,_,0,.cons _ t=> .cons r t
 |_,_,i+1,.cons q t=> .cons q (Vals.set r i t)
theorem Vals.append:∀{xs ys:List V} {us ws:List Value},Vals xs us->Vals ys ws->Vals (xs++ys) (us++ws)
 |_,_,_,_,.nil,s=>s
 |_,_,_,_,.cons r t,s=> .cons r (Vals.append t s)
theorem Vals.take:∀{xs:List V} {us:List Value} (n:Nat),Vals xs us->Vals (xs.take n) (us.take n)
 |_,_,0,_=> .nil
 |_,_,_+1,.nil=> .nil
 |_,_,n+1,.cons r t=> .cons r (Vals.take n t)
theorem Vals.drop:∀{xs:List V} {us:List Value} (n:Nat),Vals xs us->Vals (xs.drop n) (us.drop n)
 |_,_,0,r=>r
 |_,_,_+1,.nil=> .nil
 |_,_,n+1,.cons _ t=>Vals.drop n t
def RelO:Option V->Option Value->Prop
 |some v,some u=>RelV v u
 |none,none=>True
 |_,_=>False
def KV {κ:Type}:List (κ×V)->List (κ×Value)->Prop:=Paired λ(p:κ×V) (q:κ×Value)=>p.1=q.1/\RelV p.2 q.2
def kV:Key->V
 | .inl i=> .int i
 | .inr x=> .str x
inductive HO where
 |lst (xs:List V)
 |tup (xs:List V)
 |dK (kvs:List (Key×V))|dT (kvs:List (List Key×V))
 |set (S:Int->Bool) (n:Nat)
 |ins (C dx:Addr) (fs:List (Str×V))
 |own (x:Addr)
 |xd (fs:List (Str×V))
 |met (f x:Addr)
 |rng (lo hi:Int)
 |frz (o:Obj) (u:HO)
 |tbl (ps:Array Value)
 |ext (φ:Heap->Prop)
abbrev Hp:=Addr->Option HO
def upd (H:Hp) (a:Addr) (o:HO):Hp:=λb=>if b=a then some o else H b
theorem qt_ {H:Hp} {a:Addr} {o:HO}:upd H a o a=some o:=by unfold upd;rw [if_pos rfl]
theorem qo_ {H:Hp} {a b:Addr} {o:HO} (h:b≠a):upd H a o b=H b:=by unfold upd;rw [if_neg h]
theorem qbs_ {H:Hp} {a b:Addr} {o:HO} (h:H a=some o) (h':H b=none):a≠b:=by
 intro e;subst e;rw [h] at h';cases h'
section
variable (P:Program) (w:World)
def ObjOk (H:Hp) (h:Heap) (a:Addr):HO->Prop
 | .lst xs=>xs.length<=sizeLine/\∃(its:List Value) (n:Nat),Vals xs its/\h.get? a=some {cls:= .type "list",data:= .seq its.toArray n}
 | .tup xs=>xs.length<=sizeLine/\∃its:List Value,Vals xs its/\IsTup h a its.toArray
 | .dK kvs=>kvs.length<=sizeLine/\(a==sysModules)=false/\∃vs,KV kvs vs/\h.DictOf (qd9_ P w) a vs
 | .dT kvs=>kvs.length<=sizeLine/\(a==sysModules)=false/\∃xs:List (List Key×Addr×Value),
   Paired (λ(p:List Key×V) (q:List Key×Addr×Value)=>p.1=q.1/\H q.2.1=some (.tup (p.1.map kV))/\RelV p.2 q.2.2) kvs xs/\
   ∃o es ep,h.get? a=some o/\o.ExactDict/\o.data= .dict es ep/\es.toList=xs.map (entryOfKey (tupleKind (qd9_ P w)))/\(xs.map (·.1)).Nodup
 | .set S n=>h.SetOf (intKind P w) a S n
 | .ins C dx fs=>H dx=some (.own a)/\fs.length<=1000/\dx≠a/\h.get? a=some (PySem.W.instObj C dx)/\
   ∃mA,h.Ns1 dx mA/\(∀f,RelO (fs.lookup f) (mA f))/\PySem.Within mA (fs.map (·.1))
 | .own _=>∃o,h.get? a=some o
 | .xd fs=>∃mA,h.Ns1 a mA/\∀f,RelO (fs.lookup f) (mA f)
 | .rng lo hi=>∃t u v,h.get? a=some {cls:= .type "range",data:= .fields #[.int lo t,.int hi u,.int 1 v]}
 | .frz o u=>h.get? a=some o/\ObjOk H h a u
 | .tbl ps=>h.get? a=some {cls:= .none,data:= .fields ps}
 | .met f x=>h.get? a=some (PySem.W.methodObj (.ref f) (.ref x))
 | .ext φ=>φ h/\(∃o,h.get? a=some o)/\∀h1 h2:Heap,φ h1->(∀o,h1.get? a=some o->h2.get? a=some o)->φ h2
def HOk (H:Hp) (h:Heap):Prop:=∀a o,H a=some o->ObjOk P w H h a o
end
section
variable {P:Program} {w:World} {H H':Hp} {h h':Heap} {a:Addr} {o:HO}
theorem ObjOk.lt (x:ObjOk P w H h a o):a<h.objs.size:=by
 cases o with
 |lst xs=>obtain ⟨_,_,_,_,e⟩:=x;exact Heap.lt_size e
 |tup xs=>obtain ⟨_,_,_,p⟩:=x;exact p.lt
 |dK kvs=>obtain ⟨_,_,_,_,o,_,_,e,_⟩:=x;exact Heap.lt_size e
 |dT kvs=>obtain ⟨_,_,_,_,o,_,_,e,_⟩:=x;exact Heap.lt_size e
 |set S n=>obtain ⟨o,_,_,_,e,_⟩:=x;exact Heap.lt_size e
 |ins C dx fs=>obtain ⟨_,_,_,e,_⟩:=x;exact Heap.lt_size e
 |own y=>obtain ⟨_,e⟩:=x;exact Heap.lt_size e
 |xd fs=>obtain ⟨_,⟨_,_,_,e,_⟩,_⟩:=x;exact Heap.lt_size e
 |rng lo hi=>obtain ⟨_,_,_,e⟩:=x;exact Heap.lt_size e
 |frz ob u=>obtain ⟨e,_⟩:=x;exact Heap.lt_size e
 |tbl ps=>exact Heap.lt_size (show h.get? a=some _ from x)
 |met f y=>exact Heap.lt_size (show h.get? a=some _ from x)
 |ext φ=>obtain ⟨_,⟨_,e⟩,_⟩:=x;exact Heap.lt_size e
theorem Paired.mapP {α β:Type} {F G:α->β->Prop}:∀{l₁:List α} {l₂:List β},Paired F l₁ l₂->(∀a b,F a b->G a b)->Paired G l₁ l₂
 |_,_,.nil,_=> .nil
 |_,_,.cons r t,f=> .cons (f _ _ r) (Paired.mapP t f)
theorem ObjOk.stay (x:ObjOk P w H h a o) (k:∀b u,(b=a\/H b=some (.own a))->h.get? b=some u->h'.get? b=some u)
  (ho:∀b,H b=some (.own a)->H' b=some (.own a)) (ht:∀b xs,H b=some (.tup xs)->H' b=some (.tup xs)):ObjOk P w H' h' a o:=by
 induction o with
 |lst xs=>obtain ⟨z,its,n,r,e⟩:=x;exact ⟨z,its,n,r,k _ _ (.inl rfl) e⟩
 |tup xs=>obtain ⟨z,its,r,ob,e,c⟩:=x;exact ⟨z,its,r,ob,k _ _ (.inl rfl) e,c⟩
 |dK kvs=>obtain ⟨z,y,vs,r,ob,es,ep,e,c⟩:=x;exact ⟨z,y,vs,r,ob,es,ep,k _ _ (.inl rfl) e,c⟩
 |dT kvs=>
  obtain ⟨z,y,xs,r,ob,es,ep,e,c⟩:=x
  exact ⟨z,y,xs,Paired.mapP r λp q z=>⟨z.1,ht _ _ z.2.1,z.2.2⟩,ob,es,ep,k _ _ (.inl rfl) e,c⟩
 |set S n=>obtain ⟨ob,es,ep,t,e,c⟩:=x;exact ⟨ob,es,ep,t,k _ _ (.inl rfl) e,c⟩
 |ins C dx fs=>
  obtain ⟨d,z,ne,e,mA,⟨od,es,ep,e2,c⟩,r⟩:=x
  exact ⟨ho _ d,z,ne,k _ _ (.inl rfl) e,mA,⟨od,es,ep,k _ _ (.inr d) e2,c⟩,r⟩
 |own y=>obtain ⟨ob,e⟩:=x;exact ⟨ob,k _ _ (.inl rfl) e⟩
 |xd fs=>obtain ⟨mA,⟨od,es,ep,e,c⟩,r⟩:=x;exact ⟨mA,⟨od,es,ep,k _ _ (.inl rfl) e,c⟩,r⟩
 |rng lo hi=>obtain ⟨t,u,v,e⟩:=x;exact ⟨t,u,v,k _ _ (.inl rfl) e⟩
 |frz ob u ih=>obtain ⟨e,q⟩:=x;exact ⟨k _ _ (.inl rfl) e,ih q⟩
 |tbl ps=>
  have e:h.get? a=some {cls:= .none,data:= .fields ps}:=x
  show h'.get? a=some {cls:= .none,data:= .fields ps}
  exact k a _ (.inl rfl) e
 |met f y=>
  have e:h.get? a=some (PySem.W.methodObj (.ref f) (.ref y)):=x
  show h'.get? a=some (PySem.W.methodObj (.ref f) (.ref y))
  exact k a _ (.inl rfl) e
 |ext φ=>obtain ⟨p,⟨o,e⟩,st⟩:=x;exact ⟨st _ _ p λo q=>k _ _ (.inl rfl) q,⟨o,k _ _ (.inl rfl) e⟩,st⟩
theorem HOk.lt (x:HOk P w H h) (e:H a=some o):a<h.objs.size:=(x a o e).lt
theorem HOk.fresh (x:HOk P w H h) (e:h.objs.size<=a):H a=none:=by
 cases q:H a with
 |none=>rfl
 |some u=>exact absurd (Nat.lt_of_lt_of_le (x.lt q) e) (Nat.lt_irrefl _)
theorem HOk.kept (x:HOk P w H h) (k:∀b u,h.get? b=some u->h'.get? b=some u):HOk P w H h':=λa o e=>
 (x a o e).stay (λb u _ q=>k b u q) (λ_ q=>q) λ_ _ q=>q
theorem HOk.laid (x:HOk P w H h) (k:∀b u,h.get? b=some u->h'.get? b=some u) (hp:h.objs.size<=a) (new:ObjOk P w (upd H a o) h' a o):HOk P w (upd H a o) h':=λb u e=>by
 have hn:=x.fresh hp
 by_cases hb:b=a
 ·subst hb;rw [qt_] at e;cases e;exact new
 ·rw [qo_ hb] at e
  exact (x b u e).stay (λc v _ q=>k c v q) (λc q=>by rw [qo_ (qbs_ q hn)];exact q) λc xs q=>by rw [qo_ (qbs_ q hn)];exact q
end
def Rd (H:Hp) (a:Addr) (u:HO):Prop:=H a=some u\/∃o,H a=some (.frz o u)
theorem Rd.ok {P:Program} {w:World} {H:Hp} {h:Heap} {a:Addr} {u:HO} (r:Rd H a u) (x:HOk P w H h):ObjOk P w H h a u:=by
 rcases r with r|⟨o,r⟩
 ·exact x a u r
 ·obtain ⟨_,q⟩:=x a _ r
  exact q
def Mut:Option HO->Prop
 |some (.lst _)=>True
 |some (.dK _)=>True
 |some (.dT _)=>True
 |some (.set _ _)=>True
 |some (.ins _ _ _)=>True
 |some (.ext _)=>True
 |_=>False
section
variable {P:Program} {w:World} {H:Hp} {h h':Heap} {x e:Addr} {o':HO}
theorem HOk.write (ok:HOk P w H h) (mu:Mut (H x)) (he:e=x\/H e=some (.own x)) (k:∀b u,b≠e->h.get? b=some u->h'.get? b=some u) (heo:∃u,h'.get? e=some u)
  (new:ObjOk P w (upd H x o') h' x o'):HOk P w (upd H x o') h':=λb u q=>by
 have nown:∀c y,H c=some (.own y)->c≠x:=λc y r z=>by subst z;rw [r] at mu;exact mu
 have ntup:∀c xs,H c=some (.tup xs)->c≠x:=λc xs r z=>by subst z;rw [r] at mu;exact mu
 by_cases hb:b=x
 ·subst hb;rw [qt_] at q;cases q;exact new
 ·rw [qo_ hb] at q
  by_cases hbe:b=e
  ·have q':H b=some (.own x):=by
    rcases he with z|z
    ·exact absurd (hbe.trans z) hb
    ·rw [hbe];exact z
   rw [q] at q';cases q'
   obtain ⟨v,hv⟩:=heo
   exact ⟨v,by rw [hbe];exact hv⟩
  ·refine (ok b u q).stay (λc v hc r=>k c v ?_ r) (λc r=>by rw [qo_ (nown c b r)];exact r) λc xs r=>by rw [qo_ (ntup c xs r)];exact r
   rcases hc with rfl|hc
   ·exact hbe
   ·rintro rfl
    rcases he with z|z
    ·exact nown c b hc z
    ·rw [hc] at z;cases z;exact hb rfl
end
structure Un (fs ex:List Addr) (H H':Hp) (h h':Heap):Prop where
 keep:∀b o,h.get? b=some o->H b=none->b∉fs->b∉ex->h'.get? b=some o
 slot:∀b o,h.get? b=some o->H b=none->b∈fs->b∉ex->∃sl,h'.get? b=some {o with slots:=sl}
 free:∀b o,h.get? b=some o->H b=none->b∉ex->H' b=none
 there:∀b o,h.get? b=some o->b∉ex->∃o',h'.get? b=some o'
 tups:∀b xs,H b=some (.tup xs)->H' b=some (.tup xs)
 frzs:∀b o u,H b=some (.frz o u)->H' b=some (.frz o u)
 tbls:∀b ps,H b=some (.tbl ps)->∃more,H' b=some (.tbl (ps++more))
section
variable {fs fs' ex ex':List Addr} {H H1 H2:Hp} {h h1 h2 h':Heap} {a x e:Addr} {o:HO}
theorem Un.any (u:Un fs ex H H1 h h1) {b:Addr} {ob:Obj} (q:h.get? b=some ob) (n:H b=none) (hx:b∉ex):∃sl,h1.get? b=some {ob with slots:=sl}:=by
 by_cases hb:b∈fs
 ·exact u.slot b ob q n hb hx
 ·exact ⟨ob.slots,u.keep b ob q n hb hx⟩
theorem Un.kept (k:∀b u,h.get? b=some u->h'.get? b=some u):Un fs ex H H h h':=
 ⟨λb ob q _ _ _=>k b ob q,λb ob q _ _ _=>⟨ob.slots,k b ob q⟩,λ_ _ _ n _=>n,λb ob q _=>⟨ob,k b ob q⟩,λ_ _ q=>q,λ_ _ _ q=>q,λ_ ps q=>⟨#[],by rw [q];simp⟩⟩
theorem Un.refl:Un fs ex H H h h:=Un.kept λ_ _ q=>q
theorem Un.laid (k:∀b u,h.get? b=some u->h'.get? b=some u) (hp:h.objs.size<=a) (hn:H a=none):Un fs ex H (upd H a o) h h' where
 keep:=λb u q _ _ _=>k b u q
 slot:=λb u q _ _ _=>⟨u.slots,k b u q⟩
 free:=λb u q n _=>by rw [qo_ (Nat.ne_of_lt (Nat.lt_of_lt_of_le (Heap.lt_size q) hp))];exact n
 there:=λb u q _=>⟨u,k b u q⟩
 tups:=λb xs q=>by rw [qo_ (qbs_ q hn)];exact q
 frzs:=λb u xs q=>by rw [qo_ (qbs_ q hn)];exact q
 tbls:=λb ps q=>⟨#[],by rw [qo_ (qbs_ q hn),q];simp⟩
theorem Un.write (mu:Mut (H x)) (he:e=x\/H e=some (.own x)) (k:∀b u,b≠e->h.get? b=some u->h'.get? b=some u) (heo:∃u,h'.get? e=some u):Un fs ex H (upd H x o) h h':=by
 have hx:∀b,H b=none->b≠x:=λb n z=>by subst z;rw [n] at mu;exact mu
 have hb:∀b,H b=none->b≠e:=λb n z=>by
  subst z
  rcases he with r|r
  ·exact hx b n r
  ·rw [n] at r;cases r
 have hm:∀b u,H b=some u->¬Mut (some u)->b≠x:=λb u q nm z=>by subst z;rw [q] at mu;exact nm mu
 refine ⟨λb u q n _ _=>k b u (hb b n) q,λb u q n _ _=>⟨u.slots,k b u (hb b n) q⟩,λb u q n _=>by rw [qo_ (hx b n)];exact n,λb u q _=>?_,
  λb xs q=>by rw [qo_ (hm b _ q λz=>z)];exact q,λb u xs q=>by rw [qo_ (hm b _ q λz=>z)];exact q,λb ps q=>⟨#[],by rw [qo_ (hm b _ q λz=>z),q];simp⟩⟩
 by_cases hbe:b=e
 ·subst hbe;exact heo
 ·exact ⟨u,k b u hbe q⟩
end
def trk (h:Heap) (H:Hp):List Addr:=(List.range h.objs.size).filter λa=>(H a).isSome
def hidT (h:Heap) (H:Hp):Heap:=PySem.W.hideAll h (trk h H)
theorem qld_ (h:Heap) (H:Hp):(hidT h H).objs.size=h.objs.size:=PySem.W.hideAll_size _ _
theorem qn4_ {h:Heap} {H:Hp} {b:Addr} {o:Obj} (e:h.get? b=some o) (n:H b=none):(hidT h H).get? b=some o:=
 PySem.W.hideAll_get _ e λhm=>by
  have q:(H b).isSome=true:=(List.mem_filter.mp hm).2
  rw [n] at q;simp at q
theorem qpx_ {h:Heap} {H:Hp} {b:Addr} {o:Obj} (e:(hidT h H).get? b=some o):h.get? b=some o/\H b=none:=by
 have e':h.get? b=some o:=PySem.W.of_hideAll (trk h H) e
 refine ⟨e',?_⟩
 cases q:H b with
 |none=>rfl
 |some x=>
  have hm:b∈trk h H:=List.mem_filter.mpr ⟨List.mem_range.mpr (Heap.lt_size e'),by simp [q]⟩
  have z:(hidT h H).get? b=none:=PySem.W.hideAll_none (trk h H) hm
  rw [z] at e;cases e
end L2
namespace L2
open PySem PySem.Spec PyProof.Rows
structure Mod (K:PySem.W.Frag) (mg:Str->Option Value) (base:Heap):Prop where
 kin:K.In base
 glob:base.Ns mainGlobals mg
 blt:∃mb,base.Ns builtinsNs mb/\∀x:Str,x≠"__name__"->mb x=bootBuiltins x
 nolimit:base.NoLimit
structure Cx where
 prog:Program
 w:World
 K:PySem.W.Frag
 mg:Str->Option Value
 base:Heap
 A:Around
 N:List Str
 s₀:Shared
 H₀:Hp
 env:Env
 outer:List Env
 stack:List Env
 ex:List Addr
 fn:Str->Bool
 calm:Bool
 pn:List (Addr×Obj)
 xe:Value->Shared->Prop
def frs (l:List Env):List Addr:=l.filterMap (·.frame)
abbrev Cx.fs (X:Cx):List Addr:=frs X.outer
def Vis (sc:Scope) (x:Str):Prop:=sc.names.lookup x=some .local\/sc.names.lookup x=some .cell\/sc.names.lookup x=some .free
def Loc (sc:Scope) (x:Str):Prop:=sc.names.lookup x=some .local\/sc.names.lookup x=some .cell
def Look (env:Env) (h:Heap) (m:Str->Option Value) (x:Str) (u:Value):Prop:=
 (env.kindOf x=some .local/\m x=some u)\/((env.kindOf x=some .cell\/env.kindOf x=some .free)/\∃c,env.cells.lookup x=some c/\h.IsCell c (some u))
structure Cx.Ok (X:Cx):Prop where
 mod:Mod X.K X.mg X.base
 kind:X.env.scope.kind= .function
 glob:X.env.globals=mainGlobals
 blt:X.env.builtins=builtinsNs
 above:X.s₀.heap.objs.size<=X.env.locals
 inj:∀x y c,X.env.cells.lookup x=some c->X.env.cells.lookup y=some c->x=y
 has:∀x,(X.env.kindOf x=some .cell\/X.env.kindOf x=some .free)->∃c,X.env.cells.lookup x=some c
 cab:∀x c,X.fn x=true->X.env.cells.lookup x=some c->X.s₀.heap.objs.size<=c
 hd:X.calm=true->X.A.handled=none
 frames:X.A.frames=some X.stack
 stk:X.stack=X.outer\/(X.stack=X.env::X.outer/\X.env.frame=some X.env.locals)
 exf:∀b∈X.ex,b≠X.env.locals/\∀x c,X.env.cells.lookup x=some c->c≠b
 bs:∀b o,X.base.get? b=some o->X.s₀.heap.get? b=some o/\X.H₀ b=none
 bsz:X.base.objs.size<=X.s₀.heap.objs.size
 noex:∀b o,X.base.get? b=some o->b∉X.ex
 exfs:∀b∈X.ex,b∉X.fs
 funs:X.s₀.heap.FunFrames X.base X.outer
 frf:∀b∈X.fs,X.H₀ b=none
structure Inv (X:Cx) (pins:List (Addr×Obj)) (σ:List (Option V)) (H:Hp) (s:Shared):Prop where
 ok:X.Ok
 os:s.os=X.s₀.os
 bare:AllBare s.gens
 base:Un X.fs X.ex X.H₀ H X.s₀.heap s.heap
 loc:∃m,s.heap.Ns X.env.locals m/\∀(i:Nat) (x:Str) (v:V),X.N[i]?=some x->σ[i]?=some (some v)->Vis X.env.scope x->∃u,RelV v u/\Look X.env s.heap m x u
 cell:∀x c,X.env.cells.lookup x=some c->∃v,s.heap.IsCell c v
 free:H X.env.locals=none
 freeC:∀x c,X.env.cells.lookup x=some c->H c=none
 pin:∀p∈X.pn++pins,s.heap.get? p.1=some p.2/\H p.1=none/\p.1≠X.env.locals/\p.1∉X.fs/\∀v,p.2.data≠ .cell v
 hok:HOk X.prog X.w H s.heap
 len:σ.length=X.N.length
section
variable {X:Cx} {pins:List (Addr×Obj)} {σ:List (Option V)} {H H':Hp} {s:Shared} {h':Heap}
theorem Cx.Ok.nofr (ok:X.Ok) {b:Addr} {o:Obj} (e:X.base.get? b=some o):b∉X.fs:=λhb=>by
 have:=(ok.funs.mem hb).1
 rw [e] at this;cases this
theorem Inv.bs (I:Inv X pins σ H s):∀b o,X.base.get? b=some o->s.heap.get? b=some o/\H b=none:=λb o e=>
 ⟨I.base.keep b o (I.ok.bs b o e).1 (I.ok.bs b o e).2 (I.ok.nofr e) (I.ok.noex b o e),I.base.free b o (I.ok.bs b o e).1 (I.ok.bs b o e).2 (I.ok.noex b o e)⟩
theorem Inv.bk (I:Inv X pins σ H s):∀b o,X.base.get? b=some o->s.heap.get? b=some o:=λb o e=>(I.bs b o e).1
theorem Inv.mod (I:Inv X pins σ H s):Mod X.K X.mg X.base:=I.ok.mod
theorem Inv.kIn (I:Inv X pins σ H s):X.K.In s.heap:=I.ok.mod.kin.keeps I.bk
theorem Inv.lt (I:Inv X pins σ H s):X.env.locals<s.heap.objs.size:=let ⟨_,hn,_⟩:=I.loc;hn.lt
theorem Inv.sz (I:Inv X pins σ H s):X.s₀.heap.objs.size<=s.heap.objs.size:=Nat.le_trans I.ok.above (Nat.le_of_lt I.lt)
theorem Inv.nofs (I:Inv X pins σ H s) {a:Addr} (h:s.heap.objs.size<=a):a∉X.fs:=λhb=>by
 obtain ⟨_,o,ho,_⟩:=I.ok.funs.mem hb
 exact absurd (Nat.lt_of_lt_of_le (Heap.lt_size ho) (Nat.le_trans I.sz h)) (Nat.lt_irrefl _)
theorem Inv.cne (I:Inv X pins σ H s):∀x c,X.env.cells.lookup x=some c->c≠X.env.locals:=λx c e z=>by
 obtain ⟨v,o,ho,hd⟩:=I.cell x c e
 obtain ⟨m,⟨o',es,ep,ho',hd',_⟩,_⟩:=I.loc
 rw [z,ho'] at ho;cases ho;rw [hd'] at hd;cases hd
theorem Inv.funs (I:Inv X pins σ H s):s.heap.FunFrames X.base X.outer:=by
 have all:∀(l:List Env),(∀b∈frs l,b∈X.fs)->X.s₀.heap.FunFrames X.base l->s.heap.FunFrames X.base l:=by
  intro l
  induction l with
  |nil=>intro _ _;trivial
  |cons env r ih=>
   intro hs hl
   obtain ⟨hk,⟨L,o,hf,hn,ho,hd⟩,hr⟩:=hl
   have hL:L∈X.fs:=hs L (by unfold frs;rw [List.filterMap_cons,hf];exact List.mem_cons_self)
   obtain ⟨sl,e⟩:=I.base.slot L o ho (I.ok.frf L hL) hL λz=>I.ok.exfs L z hL
   exact ⟨hk,⟨L,_,hf,hn,e,hd⟩,ih (λb hb=>hs b (by unfold frs;rw [List.filterMap_cons,hf];exact List.mem_cons_of_mem _ hb)) hr⟩
 exact all X.outer (λ_ hb=>hb) I.ok.funs
theorem Inv.stack (I:Inv X pins σ H s):s.heap.FunFrames X.base X.stack:=by
 rcases I.ok.stk with e|⟨e,hf⟩
 ·rw [e];exact I.funs
 ·rw [e]
  obtain ⟨m,hn,_⟩:=I.loc
  refine .cons (by rw [I.ok.kind];decide) hf hn ?_ I.funs
  exact Heap.get?_none_of_le (Nat.le_trans I.ok.bsz I.ok.above)
theorem Inv.stkSub (I:Inv X pins σ H s):∀b∈frs X.stack,b∈X.env.locals::X.fs:=λb hb=>by
 rcases I.ok.stk with e|⟨e,hf⟩
 ·rw [e] at hb;exact List.mem_cons_of_mem _ hb
 ·rw [e] at hb
  unfold frs at hb
  rw [List.filterMap_cons,hf] at hb
  exact hb
theorem Inv.stkFree (I:Inv X pins σ H s):∀b∈frs X.stack,H b=none:=λb hb=>by
 rcases List.mem_cons.mp (I.stkSub b hb) with e|hb
 ·rw [e];exact I.free
 ·obtain ⟨_,o,ho,_⟩:=I.ok.funs.mem hb
  exact I.base.free b o ho (I.ok.frf b hb) λz=>I.ok.exfs b z hb
theorem Inv.step {g':Array GenState} {t':Nat} {d':Drawn} {ch:List Addr} (I:Inv X pins σ H s)
  (hch:∀b∈ch,(b∈X.ex\/X.s₀.heap.objs.size<=b)/\b≠X.env.locals/\(∀x c,X.env.cells.lookup x=some c->c≠b)/\∀p∈X.pn++pins,p.1≠b)
  (keep:∀b o,b≠X.env.locals->b∉X.fs->b∉ch->s.heap.get? b=some o->H b=none->h'.get? b=some o)
  (slot:∀b o,b≠X.env.locals->b∈X.fs->b∉ch->s.heap.get? b=some o->H b=none->∃sl,h'.get? b=some {o with slots:=sl}) (free:∀b o,b∉ch->s.heap.get? b=some o->H b=none->H' b=none)
  (there:∀b o,b∉ch->s.heap.get? b=some o->∃o',h'.get? b=some o')
  (tups:∀b xs,H b=some (.tup xs)->H' b=some (.tup xs)) (frzs:∀b o u,H b=some (.frz o u)->H' b=some (.frz o u)) (tbls:∀b ps,H b=some (.tbl ps)->∃more,H' b=some (.tbl (ps++more)))
  (ns:∀m,s.heap.Ns X.env.locals m->h'.Ns X.env.locals m) (hok:HOk X.prog X.w H' h') (hg:AllBare g'):
  Inv X pins σ H' {s with heap:=h',gens:=g',drawn:=d',toks:=t'}:=by
 have neL:∀b o,X.s₀.heap.get? b=some o->b≠X.env.locals:=λb o e=>Nat.ne_of_lt (Nat.lt_of_lt_of_le (Heap.lt_size e) I.ok.above)
 have neC:∀b o,X.s₀.heap.get? b=some o->b∉X.ex->b∉ch:=λb o e hx hb=>by
  rcases (hch b hb).1 with z|z
  ·exact hx z
  ·exact absurd (Nat.lt_of_lt_of_le (Heap.lt_size e) z) (Nat.lt_irrefl _)
 have cellK:∀x c,X.env.cells.lookup x=some c->∀v,s.heap.IsCell c v->h'.IsCell c v:=λx c e v ⟨o,ho,hd⟩=>by
  have nch:c∉ch:=λz=>(hch c z).2.2.1 x c e rfl
  by_cases hc:c∈X.fs
  ·obtain ⟨sl,q⟩:=slot c o (I.cne x c e) hc nch ho (I.freeC x c e)
   exact ⟨_,q,hd⟩
  ·exact ⟨o,keep c o (I.cne x c e) hc nch ho (I.freeC x c e),hd⟩
 refine ⟨I.ok,I.os,hg,⟨λb o e n hb hx=>?_,λb o e n hb hx=>?_,λb o e n hx=>?_,λb o e hx=>?_,λb xs e=>tups b xs (I.base.tups b xs e),λb o xs e=>frzs b o xs (I.base.frzs b o xs e),λb ps e=>?_⟩,?_,λx c e=>?_,?_,λx c e=>?_,λp hp=>?_,hok,I.len⟩
 ·exact keep b o (neL b o e) hb (neC b o e hx) (I.base.keep b o e n hb hx) (I.base.free b o e n hx)
 ·obtain ⟨sl,e1⟩:=I.base.slot b o e n hb hx
  obtain ⟨sl',e2⟩:=slot b _ (neL b o e) hb (neC b o e hx) e1 (I.base.free b o e n hx)
  exact ⟨sl',e2⟩
 ·obtain ⟨o',e1⟩:=I.base.there b o e hx
  exact free b o' (neC b o e hx) e1 (I.base.free b o e n hx)
 ·obtain ⟨o',e1⟩:=I.base.there b o e hx
  exact there b o' (neC b o e hx) e1
 ·obtain ⟨m1,e1⟩:=I.base.tbls b ps e
  obtain ⟨m2,e2⟩:=tbls b _ e1
  exact ⟨m1++m2,by rw [e2,Array.append_assoc]⟩
 ·obtain ⟨m,hn,hl⟩:=I.loc
  refine ⟨m,ns m hn,λi x v e1 e2 e3=>?_⟩
  obtain ⟨u,r,l⟩:=hl i x v e1 e2 e3
  refine ⟨u,r,?_⟩
  rcases l with l|⟨k,c,e,z⟩
  ·exact .inl l
  ·exact .inr ⟨k,c,e,cellK x c e _ z⟩
 ·obtain ⟨v,z⟩:=I.cell x c e
  exact ⟨v,cellK x c e v z⟩
 ·obtain ⟨m,⟨o,_,_,ho,_⟩,_⟩:=I.loc
  exact free _ o (λz=>(hch _ z).2.1 rfl) ho I.free
 ·obtain ⟨v,o,ho,hd⟩:=I.cell x c e
  exact free c o (λz=>(hch c z).2.2.1 x c e rfl) ho (I.freeC x c e)
 ·obtain ⟨e,n,ne,nf,d⟩:=I.pin p hp
  have nch:p.1∉ch:=λz=>(hch p.1 z).2.2.2 p hp rfl
  exact ⟨keep p.1 p.2 ne nf nch e n,free p.1 p.2 nch e n,ne,nf,d⟩
theorem Inv.un {t':Nat} (I:Inv X pins σ H s) (u:Un X.fs [] H H' s.heap h') (hok:HOk X.prog X.w H' h'):Inv X pins σ H' {s with heap:=h',toks:=t'}:=by
 obtain ⟨m,⟨o,es,ep,ho,r⟩,_⟩:=id I.loc
 obtain ⟨sl,hL⟩:=u.any ho I.free (by simp)
 exact I.step (g':=s.gens) (d':=s.drawn) (ch:=[]) (λ_ z=>nomatch z) (λb o _ hb _ e n=>u.keep b o e n hb (by simp)) (λb o _ hb _ e n=>u.slot b o e n hb (by simp)) (λb o _ e n=>u.free b o e n (by simp)) (λb o _ e=>u.there b o e (by simp)) u.tups u.frzs u.tbls (λm' hm=>by
  obtain ⟨o',es',ep',ho',r'⟩:=hm
  rw [ho] at ho';cases ho'
  exact ⟨_,es',ep',hL,r'⟩) hok I.bare
theorem Inv.call {g':Array GenState} {t':Nat} {d':Drawn} {ch:List Addr} (I:Inv X pins σ H s) (u:Un (frs X.stack) ch H H' s.heap h') (hok:HOk X.prog X.w H' h') (hg:AllBare g')
  (hch:∀b∈ch,(b∈X.ex\/X.s₀.heap.objs.size<=b)/\b≠X.env.locals/\(∀x c,X.env.cells.lookup x=some c->c≠b)/\∀p∈X.pn++pins,p.1≠b):
  Inv X pins σ H' {s with heap:=h',gens:=g',drawn:=d',toks:=t'}:=by
 obtain ⟨m,⟨o,es,ep,ho,r⟩,_⟩:=id I.loc
 obtain ⟨sl,hL⟩:=u.any ho I.free λz=>(hch _ z).2.1 rfl
 exact I.step (ch:=ch) hch (λb o hL hb hc e n=>u.keep b o e n (λz=>(List.mem_cons.mp (I.stkSub b z)).elim hL hb) hc) (λb o _ _ hc e n=>u.any e n hc) (λb o hc e n=>u.free b o e n hc) (λb o hc e=>u.there b o e hc) u.tups u.frzs u.tbls (λm' hm=>by
  obtain ⟨o',es',ep',ho',r'⟩:=hm
  rw [ho] at ho';cases ho'
  exact ⟨_,es',ep',hL,r'⟩) hok hg
theorem Inv.turned {t':Nat} {it:Addr} (I:Inv X pins σ H s) (k:∀b o,b≠it->s.heap.get? b=some o->h'.get? b=some o) (hn:H it=none) (hL:it≠X.env.locals)
  (h1:it∈X.ex\/X.s₀.heap.objs.size<=it) (h2:∀x c,X.env.cells.lookup x=some c->c≠it) (h3:∀p∈X.pn++pins,p.1≠it):Inv X pins σ H {s with heap:=h',toks:=t'}:=by
 have nit:∀b u,H b=some u->b≠it:=λb u e z=>by rw [z,hn] at e;cases e
 refine I.step (g':=s.gens) (d':=s.drawn) (ch:=[it]) (λb hb=>?_) (λb o _ _ hc e _=>k b o (λz=>hc (by simp [z])) e) (λb o _ _ hc e _=>⟨o.slots,k b o (λz=>hc (by simp [z])) e⟩) (λ_ _ _ _ n=>n)
  (λb o hc e=>⟨o,k b o (λz=>hc (by simp [z])) e⟩) (λ_ _ e=>e) (λ_ _ _ e=>e) (λb ps e=>⟨#[],by rw [e];simp⟩) (λm hm=>?_) (λb u e=>?_) I.bare
 ·have e:b=it:=by simpa using hb
  subst e
  exact ⟨h1,hL,h2,h3⟩
 ·obtain ⟨o,es,ep,ho,r⟩:=hm
  exact ⟨o,es,ep,k _ o (Ne.symm hL) ho,r⟩
 ·refine (I.hok b u e).stay (λc v hc q=>k c v ?_ q) (λ_ q=>q) λ_ _ q=>q
  rcases hc with z|z
  ·rw [z];exact nit b u e
  ·exact nit c _ z
theorem Inv.tok (I:Inv X pins σ H s) (t:Nat):Inv X pins σ H {s with toks:=t}:=I.un (h':=s.heap) (t':=t) Un.refl I.hok
theorem Inv.kept {t':Nat} (I:Inv X pins σ H s) (k:∀b u,s.heap.get? b=some u->h'.get? b=some u):Inv X pins σ H {s with heap:=h',toks:=t'}:=I.un (Un.kept k) (I.hok.kept k)
theorem Inv.laid {a:Addr} {o:HO} {t':Nat} (I:Inv X pins σ H s) (k:∀b u,s.heap.get? b=some u->h'.get? b=some u) (hp:s.heap.objs.size<=a) (new:ObjOk X.prog X.w (upd H a o) h' a o):
  Inv X pins σ (upd H a o) {s with heap:=h',toks:=t'}:=I.un (Un.laid k hp (I.hok.fresh hp)) (I.hok.laid k hp new)
theorem Inv.write {x e:Addr} {o:HO} {t':Nat} (I:Inv X pins σ H s) (mu:Mut (H x)) (he:e=x\/H e=some (.own x)) (k:∀b u,b≠e->s.heap.get? b=some u->h'.get? b=some u) (heo:∃u,h'.get? e=some u)
  (new:ObjOk X.prog X.w (upd H x o) h' x o):Inv X pins σ (upd H x o) {s with heap:=h',toks:=t'}:=I.un (Un.write mu he k heo) (I.hok.write mu he k heo new)
theorem Inv.pins_of {pins':List (Addr×Obj)} (I:Inv X pins σ H s) (h:∀p∈pins',s.heap.get? p.1=some p.2/\H p.1=none/\p.1≠X.env.locals/\p.1∉X.fs/\∀v,p.2.data≠ .cell v):Inv X pins' σ H s:=
 ⟨I.ok,I.os,I.bare,I.base,I.loc,I.cell,I.free,I.freeC,λp hp=>(List.mem_append.mp hp).elim (λz=>I.pin p (List.mem_append_left _ z)) (h p),I.hok,I.len⟩
theorem qjd_ {N:List Str} (hN:N.Nodup) {i j:Nat} {x:Str} (a:N[i]?=some x) (b:N[j]?=some x):i=j:=by
 obtain ⟨h1,e1⟩:=List.getElem?_eq_some_iff.mp a
 obtain ⟨h2,e2⟩:=List.getElem?_eq_some_iff.mp b
 exact (List.getElem_inj hN).mp (e1.trans e2.symm)
theorem qhs_ {M:Model} {A:Around} {E:Value->Shared->Prop} {i:Nat} {x:Str} {v:V} {u:Value} {Q:Unit->Shared->Prop} (I:Inv X pins σ H s) (hN:X.N.Nodup) (hi:X.N[i]?=some x) (hx:Loc X.env.scope x) (r:RelV v u)
  (h:∀s',Inv X pins (σ.set i (some v)) H s'->(∃a,Heap.SameBut a s.heap s'.heap/\(a=X.env.locals\/X.env.cells.lookup x=some a))->Q () s') (hf:X.fn x=true\/X.env.scope.names.lookup x=some .local:=by first|exact .inl rfl|exact .inr rfl|assumption):wpAny M A (storeName X.env x u) Q E s:=by
 obtain ⟨m,hn,hl⟩:=id I.loc
 have hcls:(X.env.scope.kind== .class||(X.env.scope.kind== .module&&X.env.locals != X.env.globals))=false:=by rw [I.ok.kind];rfl
 have hiσ:i<σ.length:=by rw [I.len];exact (List.getElem?_eq_some_iff.mp hi).1
 have cne:=I.cne
 have tracked:∀{a:Addr} {h':Heap},(∃o,s.heap.get? a=some o/\H a=none)->Heap.SameBut a s.heap h'->HOk X.prog X.w H h':=λ{a h'} ha hs b ob e=>by
  obtain ⟨_,_,hfree⟩:=ha
  refine (I.hok b ob e).stay (λc w' hc q=>(hs.2 c ?_).trans q) (λ_ q=>q) λ_ _ q=>q
  rintro rfl
  rcases hc with rfl|hc
  ·rw [hfree] at e;cases e
  ·rw [hfree] at hc;cases hc
 rcases hx with hk|hk
 ·refine wpAny_storeName_local hk hn (λh' hn' hs=>?_) hcls
  obtain ⟨oL,_,_,hoL,_⟩:=id hn
  refine h _ ⟨I.ok,I.os,I.bare,⟨λb o e n hb hx=>?_,λb o e n hb hx=>?_,I.base.free,λb o e hx=>?_,I.base.tups,I.base.frzs,I.base.tbls⟩,⟨_,hn',λj y v' e1 e2 e3=>?_⟩,λy c e=>?_,I.free,I.freeC,λp hp=>?_,tracked ⟨oL,hoL,I.free⟩ hs,by simpa using I.len⟩ ⟨_,hs,.inl rfl⟩
  ·exact (hs.2 b (Nat.ne_of_lt (Nat.lt_of_lt_of_le (Heap.lt_size e) I.ok.above))).trans (I.base.keep b o e n hb hx)
  ·obtain ⟨sl,e1⟩:=I.base.slot b o e n hb hx
   exact ⟨sl,(hs.2 b (Nat.ne_of_lt (Nat.lt_of_lt_of_le (Heap.lt_size e) I.ok.above))).trans e1⟩
  ·obtain ⟨o',e1⟩:=I.base.there b o e hx
   exact ⟨o',(hs.2 b (Nat.ne_of_lt (Nat.lt_of_lt_of_le (Heap.lt_size e) I.ok.above))).trans e1⟩
  ·by_cases hj:j=i
   ·subst hj
    rw [hi] at e1;cases e1
    rw [List.getElem?_set_self hiσ] at e2
    cases e2
    exact ⟨u,r,.inl ⟨hk,by simp⟩⟩
   ·rw [List.getElem?_set_ne (Ne.symm hj)] at e2
    obtain ⟨u',r',q⟩:=hl j y v' e1 e2 e3
    refine ⟨u',r',?_⟩
    rcases q with ⟨k,e⟩|⟨k,c,e,z⟩
    ·refine .inl ⟨k,?_⟩
     have:y≠x:=λe=>hj (qjd_ hN e1 (e ▸ hi))
     simp [this,e]
    ·exact .inr ⟨k,c,e,z.sameBut hs (cne y c e)⟩
  ·obtain ⟨w',z⟩:=I.cell y c e
   exact ⟨w',z.sameBut hs (cne y c e)⟩
  ·obtain ⟨e,n,ne,nf,d⟩:=I.pin p hp
   exact ⟨(hs.2 p.1 ne).trans e,n,ne,nf,d⟩
 ·have hfn:X.fn x=true:=by
   rcases hf with z|z
   ·exact z
   ·rw [z] at hk;cases hk
  obtain ⟨c,hc⟩:=I.ok.has x (.inl hk)
  obtain ⟨w',z⟩:=I.cell x c hc
  refine wpAny_storeName_cell I.ok.kind hk hc z (λh' hc' hs=>?_)
  obtain ⟨oc,hoc,hocd⟩:=id z
  refine h {s with heap:=h'} ⟨I.ok,I.os,I.bare,⟨λb o e n hb hx=>?_,λb o e n hb hx=>?_,I.base.free,λb o e hx=>?_,I.base.tups,I.base.frzs,I.base.tbls⟩,⟨m,hn.sameBut hs (Ne.symm (cne x c hc)),λj y v' e1 e2 e3=>?_⟩,λy c' e=>?_,I.free,I.freeC,λp hp=>?_,tracked ⟨oc,hoc,I.freeC x c hc⟩ hs,by simpa using I.len⟩ ⟨c,hs,.inr hc⟩
  ·exact (hs.2 b (Nat.ne_of_lt (Nat.lt_of_lt_of_le (Heap.lt_size e) (I.ok.cab x c hfn hc)))).trans (I.base.keep b o e n hb hx)
  ·obtain ⟨sl,e1⟩:=I.base.slot b o e n hb hx
   exact ⟨sl,(hs.2 b (Nat.ne_of_lt (Nat.lt_of_lt_of_le (Heap.lt_size e) (I.ok.cab x c hfn hc)))).trans e1⟩
  ·obtain ⟨o',e1⟩:=I.base.there b o e hx
   exact ⟨o',(hs.2 b (Nat.ne_of_lt (Nat.lt_of_lt_of_le (Heap.lt_size e) (I.ok.cab x c hfn hc)))).trans e1⟩
  ·by_cases hj:j=i
   ·subst hj
    rw [hi] at e1;cases e1
    rw [List.getElem?_set_self hiσ] at e2
    cases e2
    exact ⟨u,r,.inr ⟨.inl hk,c,hc,hc'⟩⟩
   ·rw [List.getElem?_set_ne (Ne.symm hj)] at e2
    obtain ⟨u',r',q⟩:=hl j y v' e1 e2 e3
    refine ⟨u',r',?_⟩
    rcases q with q|⟨k,c',e,z'⟩
    ·exact .inl q
    ·refine .inr ⟨k,c',e,z'.sameBut hs ?_⟩
     rintro rfl
     exact hj (qjd_ hN e1 (I.ok.inj _ _ _ e hc ▸ hi))
  ·by_cases hcc:c'=c
   ·subst hcc;exact ⟨_,hc'⟩
   ·obtain ⟨w2,z2⟩:=I.cell y c' e
    exact ⟨w2,z2.sameBut hs hcc⟩
  ·obtain ⟨e,n,ne,nf,d⟩:=I.pin p hp
   refine ⟨(hs.2 p.1 ?_).trans e,n,ne,nf,d⟩
   intro q
   rw [q,hoc] at e
   have q':oc=p.2:=Option.some.inj e
   exact d w' (by rw [<-q'];exact hocd)
theorem qfc_ {M:Model} {A:Around} {E:Value->Shared->Prop} {i:Nat} {x:Str} {v:V} {u:Value} {Q:Unit->Shared->Prop} (I:Inv X pins σ H s) (hN:X.N.Nodup) (hi:X.N[i]?=some x) (hx:Loc X.env.scope x) (r:RelV v u)
  (h:∀s',Inv X pins (σ.set i (some v)) H s'->Q () s') (hf:X.fn x=true\/X.env.scope.names.lookup x=some .local:=by first|exact .inl rfl|exact .inr rfl|assumption):wpAny M A (storeName X.env x u) Q E s:=
 qhs_ I hN hi hx r (λs' I' _=>h s' I') hf
theorem Inv.call' {s':Shared} {ch:List Addr} (I:Inv X pins σ H s) (ho:s'.os=s.os) (u:Un (frs X.stack) ch H H' s.heap s'.heap) (hok:HOk X.prog X.w H' s'.heap) (hg:AllBare s'.gens)
  (hch:∀b∈ch,(b∈X.ex\/X.s₀.heap.objs.size<=b)/\b≠X.env.locals/\(∀x c,X.env.cells.lookup x=some c->c≠b)/\∀p∈X.pn++pins,p.1≠b):Inv X pins σ H' s':=by
 obtain ⟨h',g',d',t',o'⟩:=s'
 have e:o'=s.os:=ho
 subst e
 exact I.call (g':=g') (t':=t') (d':=d') u hok hg hch
end
abbrev XK:=Value->Option Addr->Hp->Prop
abbrev St:=List (Option V)
abbrev VK:=V->Hp->Prop
abbrev TE:=St->Hp->VK->Prop
abbrev TT:=St->Hp->(Bool->Hp->Prop)->Prop
abbrev TA:=St->Hp->(List V->Hp->Prop)->Prop
structure Ends where
 nx:St->Hp->Prop
 rt:VK
 bk:St->Hp->Prop:=λ_ _=>False
 ct:St->Hp->Prop:=λ_ _=>False
abbrev TS:=Ends->St->Hp->Prop
def EP (X:Cx) (pins:List (Addr×Obj)) (σ:St) (Q:VK) (u:Value) (s':Shared):Prop:=∃v H',Inv X pins σ H' s'/\RelV v u/\Q v H'
def TP (X:Cx) (pins:List (Addr×Obj)) (σ:St) (Q:Bool->Hp->Prop) (b:Bool) (s':Shared):Prop:=∃H',Inv X pins σ H' s'/\Q b H'
def AP (X:Cx) (pins:List (Addr×Obj)) (σ:St) (Q:List V->Hp->Prop) (us:List Value) (s':Shared):Prop:=∃vs H',Inv X pins σ H' s'/\Vals vs us/\Q vs H'
def SP (X:Cx) (pins:List (Addr×Obj)) (D:Ends) (f:Flow) (s':Shared):Prop:=
 match f with
 | .next=>∃σ' H',Inv X pins σ' H' s'/\D.nx σ' H'
 | .brk=>∃σ' H',Inv X pins σ' H' s'/\D.bk σ' H'
 | .cont=>∃σ' H',Inv X pins σ' H' s'/\D.ct σ' H'
 | .ret u=>∃v σ' H',Inv X pins σ' H' s'/\RelV v u/\D.rt v H'
def PE (X:Cx) (e:Expr) (t:TE):Prop:=
 ∀(pins:List (Addr×Obj)) (s:Shared) (σ:St) (H:Hp) (Q:VK),Inv X pins σ H s->t σ H Q->wpAny (model X.prog X.w) X.A (eval e X.env) (EP X pins σ Q) X.xe s
def PT (X:Cx) (e:Expr) (t:TT):Prop:=
 ∀(pins:List (Addr×Obj)) (s:Shared) (σ:St) (H:Hp) (Q:Bool->Hp->Prop),Inv X pins σ H s->t σ H Q->wpAny (model X.prog X.w) X.A (isTrue e X.env (eval e X.env)) (TP X pins σ Q) X.xe s
def PW (X:Cx) (e:Expr) (t:TT):Prop:=
 ∀(whole:Sem Value) (pins:List (Addr×Obj)) (s:Shared) (σ:St) (H:Hp) (Q:Bool->Hp->Prop),Inv X pins σ H s->t σ H Q->wpAny (model X.prog X.w) X.A (isTrue e X.env whole) (TP X pins σ Q) X.xe s
theorem PW.pt {X:Cx} {e:Expr} {t:TT} (h:PW X e t):PT X e t:=h _
def PA (X:Cx) (es:List Expr) (t:TA):Prop:=
 ∀(pos:Pos) (pins:List (Addr×Obj)) (s:Shared) (σ:St) (H:Hp) (Q:List V->Hp->Prop),Inv X pins σ H s->t σ H Q->wpAny (model X.prog X.w) X.A (spliced (backTo pos (starEach es X.env))) (AP X pins σ Q) X.xe s
def PS (X:Cx) (st:Stmt) (t:TS):Prop:=
 ∀(pins:List (Addr×Obj)) (s:Shared) (σ:St) (H:Hp) (D:Ends),Inv X pins σ H s->t D σ H->wpAny (model X.prog X.w) X.A (exec st X.env) (SP X pins D) X.xe s
def PSs (X:Cx) (st:List Stmt) (t:TS):Prop:=
 ∀(pins:List (Addr×Obj)) (s:Shared) (σ:St) (H:Hp) (D:Ends),Inv X pins σ H s->t D σ H->wpAny (model X.prog X.w) X.A (execs st X.env) (SP X pins D) X.xe s
theorem thn {α:Type} {t:Sem α} {Q Q':α->Shared->Prop} {M:Model} {A:Around} {E:Value->Shared->Prop} {s:Shared} (h:wpAny M A t Q E s) (hQ:∀a s,Q a s->Q' a s):wpAny M A t Q' E s:=wpAny_mono h hQ λ_ _ x=>x
end L2
namespace L2
open PySem PySem.Spec PyProof.Rows
section
variable {X:Cx}
def tVar (i:Nat):TE:=λσ H Q=>∃v,σ[i]?=some (some v)/\Q v H
def tC (v:V):TE:=λ_ H Q=>Q v H
theorem qul_ {i:Nat} {x:Str} {pos:Pos} (hN:X.N[i]?=some x) (hv:Vis X.env.scope x) (hd:(x==("__debug__":Str))=false:=by decide) (hcd:(x==("__classdict__":Str))=false:=by decide):PE X (.Name x pos) (tVar i):=by
 intro pins s σ H Q I h
 obtain ⟨v,e,h⟩:=h
 obtain ⟨m,hn,hl⟩:=I.loc
 obtain ⟨u,r,l⟩:=hl i x v hN e hv
 have fin:EP X pins σ Q u s:=⟨v,H,I,r,h⟩
 rcases l with ⟨hk,hm⟩|⟨hk,c,hc,hcell⟩
 ·exact wpAny_Name (wpAny_loadName_local I.ok.kind hk hn hm fin) hd
 ·rcases hk with hk|hk
  ·exact wpAny_Name (wpAny_loadName_cell I.ok.kind hk hc hcell fin) hd
  ·exact wpAny_Name (wpAny_loadName_free I.ok.kind hk hc hcell fin hcd) hd
theorem qsv_ {i j pos}:PE X (.Constant (.int i) j pos) (tC (.int i)):=λ_ _ _ H _ I h=>wpAny_Constant_int ⟨.int i,H,I.tok _,⟨_,rfl⟩,h⟩
theorem qv8_ {b j pos}:PE X (.Constant (.bool b) j pos) (tC (.bl b)):=λ_ _ _ H _ I h=>Constant_bool ⟨.bl b,H,I,rfl,h⟩
theorem qsk_ {j pos}:PE X (.Constant .none j pos) (tC .non):=λ_ _ _ H _ I h=>Constant_none ⟨.non,H,I,rfl,h⟩
theorem qpi_ {x j pos}:PE X (.Constant (.str x) j pos) (tC (.str x)):=λ_ _ _ H _ I h=>Calls.Constant_str ⟨.str x,H,I.tok _,⟨_,rfl⟩,h⟩
def Gl (X:Cx) (x:Str):Prop:=X.env.kindOf x=some .globalImplicit
theorem qgb_ {E:Value->Shared->Prop} {pins:List (Addr×Obj)} {s:Shared} {σ:St} {H:Hp} {x:Str} {u:Value} {pos:Pos} {Q:Value->Shared->Prop} (I:Inv X pins σ H s) (hg:Gl X x) (hm:X.mg x=some u) (h:Q u s)
  (hd:(x==("__debug__":Str))=false:=by decide):wpAny (model X.prog X.w) X.A (eval (.Name x pos) X.env) Q E s:=
 Calls.Name_function_global I.ok.kind hg (Calls.loadGlobal_global (by rw [I.ok.glob];exact I.mod.glob.keeps I.bk) hm h) hd
theorem qde_ {E:Value->Shared->Prop} {pins:List (Addr×Obj)} {s:Shared} {σ:St} {H:Hp} {x:Str} {u:Value} {pos:Pos} {Q:Value->Shared->Prop} (I:Inv X pins σ H s) (hg:Gl X x) (hm:X.mg x=none) (hv:bootBuiltins x=some u) (h:Q u s)
  (hn:x≠"__name__":=by decide) (hd:(x==("__debug__":Str))=false:=by decide):wpAny (model X.prog X.w) X.A (eval (.Name x pos) X.env) Q E s:=by
 obtain ⟨mb,h1,h2⟩:=I.mod.blt
 exact Calls.Name_function_global I.ok.kind hg (Calls.loadGlobal_builtin (by rw [I.ok.glob];exact I.mod.glob.keeps I.bk) hm (by rw [I.ok.blt];exact h1.keeps I.bk) ((h2 x hn).trans hv) h) hd
theorem qrc_ {x:Str} {v:V} {u:Value} {pos:Pos} (hg:Gl X x) (hm:X.mg x=some u) (r:RelV v u) (hd:(x==("__debug__":Str))=false:=by decide):PE X (.Name x pos) (tC v):=
 λ_ _ _ H _ I h=>qgb_ I hg hm ⟨v,H,I,r,h⟩ hd
theorem qq8_ {x:Str} {v:V} {u:Value} {pos:Pos} (hg:Gl X x) (hm:X.mg x=none) (hv:bootBuiltins x=some u) (r:RelV v u) (hn:x≠"__name__":=by decide) (hd:(x==("__debug__":Str))=false:=by decide):PE X (.Name x pos) (tC v):=
 λ_ _ _ H _ I h=>qde_ I hg hm hv ⟨v,H,I,r,h⟩ hn hd
variable {a b:Expr} {ta tb:TE} {pos:Pos}
def tB (t:TE):TT:=λσ H Q=>t σ H λx H1=>∃c,x= .bl c/\Q c H1
theorem qr2_ {e:Expr} {t:TE} (h:PE X e t) (he:∀whole,isTrue e X.env whole=(do let v <-whole;standAt e.pos;holding [v] (truthy v)):=by intro _;rfl):PT X e (tB t):=by
 intro pins s σ H Q I hw
 refine isTrue_plain (thn (h pins s σ H _ I hw) λv s1 zz7=>e23 zz7 λx H1 I1 r1 q1=>?_) (he _)
 obtain ⟨d,rfl,q⟩:=q1
 cases r1
 exact wpAny_truthy_bool ⟨H1,I1,q⟩
variable {tA tB':TT} {rest:List Expr}
def tAnd (t u:TT):TT:=λσ H Q=>t σ H λc H1=>if c=true then u σ H1 Q else Q false H1
def tOr (t u:TT):TT:=λσ H Q=>t σ H λc H1=>if c=true then Q true H1 else u σ H1 Q
def tNot (t:TT):TT:=λσ H Q=>t σ H λc H1=>Q (!c) H1
theorem qqb_ (ha:PT X a tA):PW X (.BoolOp .And [a] pos) tA:=by
 intro wh pins s σ H Q I h
 refine isTrue_and (thn (ha pins s σ H Q I h) λc s1 e=>?_)
 cases c with
 |true=>exact isTrue_and_nil e
 |false=>exact e
theorem qs4_ (ha:PT X a tA):PW X (.BoolOp .Or [a] pos) tA:=by
 intro wh pins s σ H Q I h
 refine isTrue_or (thn (ha pins s σ H Q I h) λc s1 e=>?_)
 cases c with
 |false=>exact isTrue_or_nil e
 |true=>exact e
theorem qsc_ (ha:PT X a tA) (hb:PW X (.BoolOp .And (b::rest) pos) tB'):PW X (.BoolOp .And (a::b::rest) pos) (tAnd tA tB'):=by
 intro wh pins s σ H Q I h
 refine isTrue_and (thn (ha pins s σ H _ I h) λc s1 zz8=>e12 zz8 λH1 I1 q1=>?_)
 cases c with
 |true=>exact hb wh pins s1 σ H1 Q I1 q1
 |false=>exact ⟨H1,I1,q1⟩
theorem qve_ (ha:PT X a tA) (hb:PW X (.BoolOp .Or (b::rest) pos) tB'):PW X (.BoolOp .Or (a::b::rest) pos) (tOr tA tB'):=by
 intro wh pins s σ H Q I h
 refine isTrue_or (thn (ha pins s σ H _ I h) λc s1 zz9=>e12 zz9 λH1 I1 q1=>?_)
 cases c with
 |true=>exact ⟨H1,I1,q1⟩
 |false=>exact hb wh pins s1 σ H1 Q I1 q1
theorem qu0_ (ha:PT X a tA):PT X (.UnaryOp .Not a pos) (tNot tA):=by
 intro pins s σ H Q I h
 exact isTrue_not (ha pins s σ H (λc H1=>Q (!c) H1) I h)
def qvo_ (ta tb:TE):TE:=λσ H Q=>ta σ H λx H1=>∃c,x= .bl c/\if c=true then tb σ H1 Q else Q (.bl false) H1
def qvp_ (ta:TE):TE:=λσ H Q=>ta σ H λx H1=>∃c,x= .bl c/\Q (.bl (!c)) H1
theorem qsa_ {op} {t:TE} (h:PE X a t):PE X (.BoolOp op [a] pos) t:=λpins s σ H Q I hw=>BoolOp_one (h pins s σ H Q I hw)
theorem qsb_ (ha:PE X a ta) (hb:PE X (.BoolOp .And (b::rest) pos) tb):PE X (.BoolOp .And (a::b::rest) pos) (qvo_ ta tb):=by
 intro pins s σ H Q I h
 refine BoolOp_and (thn (ha pins s σ H _ I h) λv s1 zz10=>e23 zz10 λx H1 I1 r1 q1=>?_)
 obtain ⟨c,rfl,q1⟩:=q1
 cases r1
 refine wpAny_truthy_bool ?_
 cases c with
 |true=>exact hb pins s1 σ H1 Q I1 q1
 |false=>exact ⟨.bl false,H1,I1,rfl,q1⟩
theorem qss_ (ha:PE X a ta):PE X (.UnaryOp .Not a pos) (qvp_ ta):=by
 intro pins s σ H Q I h
 refine UnaryOp_ (thn (ha pins s σ H _ I h) λv s1 zz12=>e23 zz12 λx H1 I1 r1 q1=>?_)
 obtain ⟨c,rfl,q1⟩:=q1
 cases r1
 exact not_of (wpAny_truthy_bool ⟨.bl (!c),H1,I1,rfl,q1⟩)
def tIf (t:TT) (ta tb:TE):TE:=λσ H Q=>t σ H λc H1=>if c=true then ta σ H1 Q else tb σ H1 Q
theorem qn8_ {c:Expr} (hc:PT X c tA) (ha:PE X a ta) (hb:PE X b tb):PE X (.IfExp c a b pos) (tIf tA ta tb):=by
 intro pins s σ H Q I h
 refine wpAny_IfExp (thn (hc pins s σ H _ I h) λd s1 zz13=>e12 zz13 λH1 I1 q1=>?_)
 cases d with
 |true=>exact ha pins s1 σ H1 Q I1 q1
 |false=>exact hb pins s1 σ H1 Q I1 q1
end
end L2
namespace L2
open PySem PySem.Spec PyProof.Rows
def SqL (K:PySem.W.Frag) (H:Hp) (a:Addr) (xs:List V):Prop:=
 Rd H a (.lst xs)\/
  ∃(o:Obj) (its:Array Value) (n:Nat),K.lookup a=some o/\o.cls= .type "list"/\o.dict=none/\o.data= .seq its n/\its.size<=sizeLine/\Vals xs its.toList
def SqT (K:PySem.W.Frag) (H:Hp) (a:Addr) (xs:List V):Prop:=
 Rd H a (.tup xs)\/
  ∃(o:Obj) (its:Array Value) (n:Nat),K.lookup a=some o/\o.cls= .type "tuple"/\o.data= .seq its n/\its.size<=sizeLine/\Vals xs its.toList
def absV:Value->Option V
 | .none=>some .non
 | .bool b=>some (.bl b)
 | .int i _=>some (.int i)
 | .str x _=>some (.str x)
 | .bytes b _=>some (.byt b)
 | .float b _=>some (.flt b)
 | .ref a=>some (.ref a)
 | .type n=>some (.ty n)
 |_=>none
theorem RelV.abs {x:V} {u:Value} (r:RelV x u):absV u=some x:=by
 cases x with
 |non=>cases r;rfl
 |bl _=>cases r;rfl
 |int _=>obtain ⟨t,rfl⟩:=r;rfl
 |str _=>obtain ⟨t,rfl⟩:=r;rfl
 |byt _=>obtain ⟨t,rfl⟩:=r;rfl
 |flt _=>obtain ⟨t,rfl⟩:=r;rfl
 |ref _=>cases r;rfl
 |ty _=>cases r;rfl
theorem RelV.inj {x y:V} {u:Value} (r:RelV x u) (q:RelV y u):x=y:=Option.some.inj (r.abs.symm.trans q.abs)
theorem Vals.inj:∀{xs ys:List V} {us:List Value},Vals xs us->Vals ys us->xs=ys
 |_,_,_,.nil,.nil=>rfl
 |_,_,_,.cons r t,.cons r' t'=>by rw [r.inj r',Vals.inj t t']
section
variable {X:Cx} {pins:List (Addr×Obj)} {σ:St} {H:Hp} {s:Shared} {a:Addr} {xs ys:List V}
theorem SqL.of {K:PySem.W.Frag} (h:H a=some (.lst xs)):SqL K H a xs:= .inl (.inl h)
theorem SqT.of {K:PySem.W.Frag} (h:H a=some (.tup xs)):SqT K H a xs:= .inl (.inl h)
theorem Inv.list (I:Inv X pins σ H s) (h:SqL X.K H a xs):∃its:List Value,Vals xs its/\PlainL s.heap a its.toArray/\xs.length<=sizeLine:=by
 rcases h with h|⟨o,its,n,hk,hc,hd,hs,hz,r⟩
 ·obtain ⟨z,its,n,r,e⟩:=h.ok I.hok
  exact ⟨its,r,⟨_,n,e,rfl,rfl,rfl⟩,z⟩
 ·refine ⟨its.toList,r,⟨o,n,I.kIn a o hk,hc,hd,by simpa using hs⟩,?_⟩
  have e:=r.length
  simp only [Array.length_toList] at e
  omega
theorem Inv.tuple (I:Inv X pins σ H s) (h:SqT X.K H a xs):∃its:List Value,Vals xs its/\IsTup s.heap a its.toArray/\xs.length<=sizeLine:=by
 rcases h with h|⟨o,its,n,hk,hc,hs,hz,r⟩
 ·obtain ⟨z,its,r,p⟩:=h.ok I.hok
  exact ⟨its,r,p,z⟩
 ·refine ⟨its.toList,r,⟨o,I.kIn a o hk,hc,n,by simpa using hs⟩,?_⟩
  have e:=r.length
  simp only [Array.length_toList] at e
  omega
theorem Inv.list_inj (I:Inv X pins σ H s) (h:SqL X.K H a xs) (h':SqL X.K H a ys):xs=ys:=by
 obtain ⟨its,r,⟨o,n,e,_,_,d⟩,_⟩:=I.list h
 obtain ⟨its',r',⟨o',n',e',_,_,d'⟩,_⟩:=I.list h'
 rw [e] at e';cases e'
 rw [d] at d'
 injection d' with d1 _
 have:its=its':=by simpa using congrArg Array.toList d1
 subst this
 exact r.inj r'
theorem Inv.tuple_inj (I:Inv X pins σ H s) (h:SqT X.K H a xs) (h':SqT X.K H a ys):xs=ys:=by
 obtain ⟨its,r,⟨o,e,_,n,d⟩,_⟩:=I.tuple h
 obtain ⟨its',r',⟨o',e',_,n',d'⟩,_⟩:=I.tuple h'
 rw [e] at e';cases e'
 rw [d] at d'
 injection d' with d1 _
 have:its=its':=by simpa using congrArg Array.toList d1
 subst this
 exact r.inj r'
end
abbrev Cx.wish (X:Cx) (E:Value->Shared->Prop):Cx:={X with xe:=E}
abbrev Cx.nox (X:Cx):Cx:=X.wish λ_ _=>False
theorem Cx.Ok.wish {X:Cx} (ok:X.Ok) (E:Value->Shared->Prop):(X.wish E).Ok:=
 ⟨ok.mod,ok.kind,ok.glob,ok.blt,ok.above,ok.inj,ok.has,ok.cab,ok.hd,ok.frames,ok.stk,ok.exf,ok.bs,ok.bsz,ok.noex,ok.exfs,ok.funs,ok.frf⟩
theorem Cx.Ok.unwish {X:Cx} {E:Value->Shared->Prop} (ok:(X.wish E).Ok):X.Ok:=
 ⟨ok.mod,ok.kind,ok.glob,ok.blt,ok.above,ok.inj,ok.has,ok.cab,ok.hd,ok.frames,ok.stk,ok.exf,ok.bs,ok.bsz,ok.noex,ok.exfs,ok.funs,ok.frf⟩
section
variable {X:Cx} {pins:List (Addr×Obj)} {σ:St} {H:Hp} {s:Shared} {E:Value->Shared->Prop}
theorem Inv.wish (I:Inv X pins σ H s) (E:Value->Shared->Prop):Inv (X.wish E) pins σ H s:=⟨I.ok.wish E,I.os,I.bare,I.base,I.loc,I.cell,I.free,I.freeC,I.pin,I.hok,I.len⟩
theorem Inv.unwish (I:Inv (X.wish E) pins σ H s):Inv X pins σ H s:=⟨I.ok.unwish,I.os,I.bare,I.base,I.loc,I.cell,I.free,I.freeC,I.pin,I.hok,I.len⟩
theorem SP.unwish {D:Ends} {f:Flow} {s':Shared} (h:SP (X.wish E) pins D f s'):SP X pins D f s':=by
 cases f with
 |next=>obtain ⟨σ',H',I,q⟩:=h;exact ⟨σ',H',I.unwish,q⟩
 |brk=>obtain ⟨σ',H',I,q⟩:=h;exact ⟨σ',H',I.unwish,q⟩
 |cont=>obtain ⟨σ',H',I,q⟩:=h;exact ⟨σ',H',I.unwish,q⟩
 |ret u=>obtain ⟨v,σ',H',I,r,q⟩:=h;exact ⟨v,σ',H',I.unwish,r,q⟩
theorem PT.nox {e:Expr} {t:TT} (h:PT X.nox e t):PT X e t:=λpins s σ H Q I hw=>
 wpAny_mono (h pins s σ H Q (I.wish _) hw) (λ_ _ zz15=>e12 zz15 λH' I' q=>⟨H',I'.unwish,q⟩) λ_ _ z=>False.elim z
theorem PSs.nox {st:List Stmt} {t:TS} (h:PSs X.nox st t):PSs X st t:=λpins s σ H D I hw=>
 wpAny_mono (h pins s σ H D (I.wish _) hw) (λ_ _ q=>q.unwish) λ_ _ z=>False.elim z
end
section
variable {X:Cx} {st:Stmt} {rest:List Stmt} {t u:TS} {e:Expr} {te:TE} {pos:Pos}
def qwb_:TS:=λD σ H=>D.nx σ H
def tSeq (t u:TS):TS:=λD σ H=>t {D with nx:=u D} σ H
theorem qq3_:PSs X [] qwb_:=λ_ _ σ H _ I h=>wpAny_execs_nil ⟨σ,H,I,h⟩
theorem qjy_ (h1:PS X st t) (h2:PSs X rest u):PSs X (st::rest) (tSeq t u):=by
 intro pins s σ H D I h
 refine wpAny_execs_cons (thn (h1 pins s σ H {D with nx:=u D} I h) λf s1 q=>?_)
 cases f with
 |next=>
  obtain ⟨σ',H',I',q⟩:=q
  exact h2 pins s1 σ' H' D I' q
 |ret v=>exact q
 |brk=>exact q
 |cont=>exact q
theorem qiz_ (h1:PS X st t):PSs X [st] t:=by
 intro pins s σ H D I h
 refine wpAny_execs_cons (thn (h1 pins s σ H D I h) λf s1 q=>?_)
 cases f with
 |next=>exact wpAny_execs_nil q
 |ret v=>exact q
 |brk=>exact q
 |cont=>exact q
theorem Inv.quiet {pins:List (Addr×Obj)} {σ:St} {H:Hp} {s:Shared} (I:Inv X pins σ H s):interactive X.env=false:=by simp [interactive,I.ok.kind]
def qrl_ (te:TE):TS:=λD σ H=>te σ H λ_ H1=>D.nx σ H1
theorem qey_ (he:PE X e te) (hs:swapsWith e none pos.line X.env=pure false:=by rfl):PS X (.Expr e pos) (qrl_ te):=by
 intro pins s σ H D I h
 exact wpAny_Expr_any (thn (he pins s σ H _ I h) λv s1 zz16=>e23 zz16 λx H1 I1 r1 q1=>⟨σ,H1,I1,q1⟩) I.quiet hs
def tRet (te:TE):TS:=λD σ H=>te σ H D.rt
theorem ql1_ (he:PE X e te):PS X (.Return (some e) pos) (tRet te):=by
 intro pins s σ H D I h
 exact wpAny_Return_some (thn (he pins s σ H _ I h) λv s1 zz17=>e23 zz17 λx H1 I1 r1 q1=>⟨x,σ,H1,I1,r1,q1⟩)
def tIfS (c:TT) (t u:TS):TS:=λD σ H=>c σ H λb H1=>if b=true then t D σ H1 else u D σ H1
theorem qtm_ {c:Expr} {a b:List Stmt} {tc:TT} (hc:PT X c tc) (ha:PSs X a t) (hb:PSs X b u):PS X (.If c a b pos) (tIfS tc t u):=by
 intro pins s σ H D I h
 refine wpAny_If (thn (hc pins s σ H _ I h) λd s1 zz18=>e12 zz18 λH1 I1 q1=>?_)
 cases d with
 |true=>exact ha pins s1 σ H1 D I1 q1
 |false=>exact hb pins s1 σ H1 D I1 q1
def qs9_:TS:=λ_ _ _=>False
theorem qop_:PS X st qs9_:=λ_ _ _ _ _ _ h=>h.elim
end
abbrev TG:=V->St->Hp->(St->Hp->Prop)->Prop
abbrev TGs:=List V->St->Hp->(St->Hp->Prop)->Prop
def PG (X:Cx) (target:Expr) (t:TG):Prop:=
 ∀(pins:List (Addr×Obj)) (s:Shared) (σ:St) (H:Hp) (v:V) (u:Value) (Q:St->Hp->Prop),Inv X pins σ H s->RelV v u->t v σ H Q->
  wpAny (model X.prog X.w) X.A (assign target X.env u) (λ_ s'=>∃σ' H',Inv X pins σ' H' s'/\Q σ' H') X.xe s
def PGs (X:Cx) (ts:List Expr) (t:TGs):Prop:=
 ∀(pins:List (Addr×Obj)) (s:Shared) (σ:St) (H:Hp) (vs:List V) (us:List Value) (Q:St->Hp->Prop),Inv X pins σ H s->Vals vs us->t vs σ H Q->
  wpAny (model X.prog X.w) X.A (assignInOrder ((assignEach ts X.env).map (·.2)) us) (λ_ s'=>∃σ' H',Inv X pins σ' H' s'/\Q σ' H') X.xe s
abbrev TSet:=V->V->V->Hp->(Hp->Prop)->Prop
def PSet (X:Cx) (t:TSet):Prop:=
 ∀(pins:List (Addr×Obj)) (s:Shared) (σ:St) (H:Hp) (o i v:V) (ov iv u:Value) (Q:Hp->Prop),Inv X pins σ H s->RelV o ov->RelV i iv->RelV v u->t o i v H Q->
  wpAny (model X.prog X.w) X.A (setItem ov iv u) (λ_ s'=>∃H',Inv X pins σ H' s'/\Q H') X.xe s
section
variable {X:Cx} {pos:Pos}
def qnl_ (i:Nat):TG:=λv σ H Q=>Q (σ.set i (some v)) H
theorem qq1_ {i:Nat} {x:Str} (hN:X.N.Nodup) (hi:X.N[i]?=some x) (hx:Loc X.env.scope x) (hf:X.fn x=true\/X.env.scope.names.lookup x=some .local:=by first|exact .inl rfl|exact .inr rfl|assumption):PG X (.Name x pos) (qnl_ i):=by
 intro pins s σ H v u Q I r h
 exact wpAny_assign_Name (qfc_ I hN hi hx r (λs' I'=>⟨_,H,I',h⟩) hf)
def gNil:TGs:=λvs σ H Q=>vs=[]/\Q σ H
def qvd_ (t:TG) (u:TGs):TGs:=λvs σ H Q=>∃v r,vs=v::r/\t v σ H λσ' H'=>u r σ' H' Q
theorem qrk_:PGs X [] gNil:=by
 intro pins s σ H vs us Q I r h
 obtain ⟨e,h⟩:=h
 subst e
 cases r
 exact assignInOrder_nil ⟨σ,H,I,h⟩
theorem qot_ {e:Expr} {es:List Expr} {t:TG} {u:TGs} (h1:PG X e t) (h2:PGs X es u)
  (hs:(assignEach (e::es) X.env).map (·.2)=assign e X.env::(assignEach es X.env).map (·.2):=by rfl):PGs X (e::es) (qvd_ t u):=by
 intro pins s σ H vs us Q I r h
 obtain ⟨v,vr,e1,h⟩:=h
 subst e1
 cases r with
 |cons r rr=>
  rw [hs]
  refine assignInOrder_cons (thn (h1 pins s σ H _ _ _ I r h) λ_ s1 zz19=>e22 zz19 λσ1 H1 I1 q1=>?_)
  exact h2 pins s1 σ1 H1 _ _ Q I1 rr q1
def gTup (K:PySem.W.Frag) (n:Nat) (t:TGs):TG:=λv σ H Q=>∃a xs,v= .ref a/\SqT K H a xs/\xs.length=n/\t xs σ H Q
theorem qry_ {es:List Expr} {k:Nat} {t:TGs} {n:Nat} (hc:X.calm=true) (h:PGs X es t)
  (hn:(assignEach es X.env).length=n:=by rfl) (hst:(assignEach es X.env).findIdx? (·.1)=none:=by rfl):PG X (.Tuple es k pos) (gTup X.K n t):=by
 intro pins s σ H v u Q I r hw
 obtain ⟨a,xs,e1,hq,hl,hw⟩:=hw
 subst e1
 cases r
 obtain ⟨its,rv,ht,hz⟩:=I.tuple hq
 refine assign_Tuple_tuple (I.ok.hd hc) ht (by simp [hn,<-hl,rv.length]) hst λh' hx=>?_
 have I1:Inv X pins σ H {s with heap:=h'}:=I.kept (t':=s.toks) λb o e=>hx b o (Nat.ne_of_lt (Heap.lt_size e)) e
 exact h pins _ σ H xs _ Q I1 (by simpa using rv) hw
def gSub (to ti:TE) (t:TSet):TG:=λv σ H Q=>to σ H λo H1=>ti σ H1 λi H2=>t o i v H2 λH3=>Q σ H3
theorem qpo_ {o i:Expr} {to ti:TE} {t:TSet} (ho:PE X o to) (hi:PE X i ti) (hs:PSet X t)
  (ha:∀v,assign (.Subscript o i pos) X.env v=(do
   let ov <-holding [v] (eval o X.env)
   let iv <-holding [v,ov] (eval i X.env)
   standAt pos
   holding [v,ov,iv] (setItem ov iv v)
   release [v,ov,iv] []):=by intro _;rfl):PG X (.Subscript o i pos) (gSub to ti t):=by
 intro pins s σ H v u Q I r h
 rw [ha]
 refine wpAny_bind (wpAny_holding (thn (ho pins s σ H _ I h) λov s1 zz20=>e23 zz20 λx H1 I1 r1 q1=>?_))
 refine wpAny_bind (wpAny_holding (thn (hi pins s1 σ H1 _ I1 q1) λiv s2 zz21=>e23 zz21 λy H2 I2 r2 q2=>?_))
 refine wpAny_bind (wpAny_standAt (wpAny_bind (wpAny_holding (thn (hs pins s2 σ H2 x y v ov iv u _ I2 r1 r2 r q2) λ_ s3 zz22=>e12 zz22 λH3 I3 q3=>?_))))
 exact wpAny_release ⟨σ,H3,I3,q3⟩
def tAsg (te:TE) (g:TG):TS:=λD σ H=>te σ H λx H1=>g x σ H1 D.nx
theorem qme_ {tg e:Expr} {te:TE} {g:TG} (he:PE X e te) (hg:PG X tg g) (hs:swapsWithSole [tg] e pos.line X.env=pure false:=by rfl) (hw:swappedStores [tg] e X.env=pure none:=by rfl)
  (h1:(assignEach [tg] X.env).map (·.2)=[assign tg X.env]:=by rfl):PS X (.Assign [tg] e pos) (tAsg te g):=by
 intro pins s σ H D I h
 refine wpAny_Assign_stores (thn (he pins s σ H _ I h) λv s1 zz23=>e23 zz23 λx H1 I1 r1 q1=>?_) hs hw
 rw [h1]
 exact thn (hg pins s1 σ H1 x v _ I1 r1 q1) λ_ s2 q=>q
theorem qgo_ {i:Nat} {x:Str} {e:Expr} {te:TE} {pos':Pos} (hN:X.N.Nodup) (hi:X.N[i]?=some x) (hx:Loc X.env.scope x) (he:PE X e te) (hs:swapsWith e (some (.Name x pos')) pos.line X.env=pure false:=by rfl) (hf:X.fn x=true\/X.env.scope.names.lookup x=some .local:=by first|exact .inl rfl|exact .inr rfl|assumption):
  PS X (.Assign [.Name x pos'] e pos) (tAsg te (qnl_ i)):=by
 intro pins s σ H D I h
 refine wpAny_Assign_Name (thn (he pins s σ H _ I h) λv s1 zz24=>e23 zz24 λy H1 I1 r1 q1=>?_) hs
 exact qfc_ I1 hN hi hx r1 (λs2 I2=>⟨_,H1,I2,q1⟩) hf
def tPar (i j:Nat) (ta:TA):TS:=λD σ H=>ta σ H λvs H1=>∃v w,vs=[v,w]/\D.nx ((σ.set i (some v)).set j (some w)) H1
theorem qsn_ {i j:Nat} {x y:Str} {a b:Expr} {ta:TA} {px py pt:Pos} {kt k2 pt2} (hc:X.calm=true) (hN:X.N.Nodup) (hi:X.N[i]?=some x) (hj:X.N[j]?=some y) (hij:i≠j)
  (hx:X.env.scope.names.lookup x=some .local) (hy:X.env.scope.names.lookup y=some .local) (ha:PA X [a,b] ta)
  (hw:swappedStores [.Tuple [.Name x px,.Name y py] kt pt] (.Tuple [a,b] k2 pt2) X.env=pure (some [x,y]))
  (hs:swapsWithSole [.Tuple [.Name x px,.Name y py] kt pt] (.Tuple [a,b] k2 pt2) pos.line X.env=pure false:=by rfl):
  PS X (.Assign [.Tuple [.Name x px,.Name y py] kt pt] (.Tuple [a,b] k2 pt2) pos) (tPar i j ta):=by
 intro pins s σ H D I h
 rw [exec_Assign_arm]
 refine wpAny_bind (wpAny_standAt ?_)
 rw [hs]
 refine wpAny_bind (wpAny_pure ?_)
 rw [if_neg (by decide)]
 refine wpAny_bind (Tuple_ (thn (ha _ pins s σ H _ I h) λus s1 zz25=>e23 zz25 λvs H1 I1 r1 q1=>?_))
 obtain ⟨v,w,e1,q1⟩:=q1
 subst e1
 obtain ⟨u1,u2,rfl,rv,rw'⟩:∃u1 u2,us=[u1,u2]/\RelV v u1/\RelV w u2:=by
  cases r1 with
  |cons p q=>
   cases q with
   |cons p' q'=>
    cases q'
    exact ⟨_,_,rfl,p,p'⟩
 refine wpAny_newObj_type ?_ (by show 2<=sizeLine;decide)
 have I2:Inv X pins σ H1 {s1 with heap:=s1.heap.push {cls:= .type "tuple",data:= .seq [u1,u2].toArray}}:=I1.kept (t':=s1.toks) λb o e=>Heap.get?_push_of_some _ e
 rw [hw]
 refine wpAny_bind (wpAny_pure ?_)
 show wpAny (model X.prog X.w) X.A (do rule "assign.swapped-stores";let items <-unpackItems (.ref s1.heap.objs.size) 2 none;assignInOrder [λv=>bindName X.env y v,λv=>bindName X.env x v] items.reverse;pure Flow.next) _ _ _
 refine wpAny_bind (wpAny_rule (wpAny_bind (unpackItems_tuple (items:= #[u1,u2]) (I.ok.hd hc) (IsTup.new s1.heap _) λh' hx'=>?_)))
 have I3:=I2.kept (h':=h') (t':=s1.toks) λb o e=>hx' b o (Nat.ne_of_lt (Heap.lt_size e)) e
 show wpAny _ _ (assignInOrder [λv=>bindName X.env y v,λv=>bindName X.env x v] [u2,u1] >>= λ_=>pure Flow.next) _ _ _
 refine wpAny_bind (assignInOrder_cons (wpAny_bindName (qfc_ I3 hN hj (.inl hy) rw' (λs2 I4=>?_) (.inr hy))))
 refine assignInOrder_cons (wpAny_bindName (qfc_ I4 hN hi (.inl hx) rv (λs3 I5=>assignInOrder_nil (wpAny_pure ?_)) (.inr hx)))
 rw [List.set_comm _ _ (Ne.symm hij)] at I5
 exact ⟨_,H1,I5,q1⟩
end
section
variable {X:Cx} {pos:Pos}
def qtu_ (c:TT) (tb:TS):TS:=λD σ H=>∃W:Nat->St->Hp->Prop,(∃m,W m σ H)/\∀m σ H,W m σ H->
 c σ H λb H1=>if b=true then ∃N:St->Hp->Prop,(∀σ' H',N σ' H'->∃m',m'<m/\W m' σ' H')/\tb {D with nx:=N,ct:=N,bk:=D.nx} σ H1 else D.nx σ H1
theorem qn3_ {c:Expr} {body:List Stmt} {tc:TT} {tb:TS} (hp:PassesOwn (model X.prog X.w) X.A X.env X.xe) (hc:PT X c tc) (hb:PSs X body tb):PS X (.While c body [] pos) (qtu_ tc tb):=by
 intro pins s σ H D I h
 obtain ⟨W,⟨m0,w0⟩,turn⟩:=h
 refine wpAny_While (codeAny_whileLoop (λn s'=>∃σ' H',Inv X pins σ' H' s'/\W n σ' H') ?_ m0 ⟨σ,H,I,w0⟩)
 rintro n s1 ⟨σ1,H1,I1,w1⟩
 refine wpAny_passesOwn hp (thn (hc pins s1 σ1 H1 _ I1 (turn n σ1 H1 w1)) λb s2 zz34=>e12 zz34 λH2 I2 q2=>?_)
 cases b with
 |true=>
  obtain ⟨N,hN,q2⟩:=q2
  rw [if_pos rfl]
  refine wpAny_passesOwn hp (thn (hb pins s2 σ1 H2 _ I2 q2) λf s3 q3=>?_)
  cases f with
  |next=>
   obtain ⟨σ3,H3,I3,n3⟩:=q3
   obtain ⟨m',hm,w3⟩:=hN σ3 H3 n3
   exact ⟨m',hm,σ3,H3,I3,w3⟩
  |cont=>
   obtain ⟨σ3,H3,I3,n3⟩:=q3
   obtain ⟨m',hm,w3⟩:=hN σ3 H3 n3
   exact ⟨m',hm,σ3,H3,I3,w3⟩
  |brk=>exact q3
  |ret v=>exact q3
 |false=>
  rw [if_neg Bool.false_ne_true]
  exact wpAny_execs_nil ⟨σ1,H2,I2,q2⟩
end
structure It where
 go:Nat->Hp->Prop
 yld:Nat->Hp->V->Hp->Prop
 stop:Nat->Hp->Prop
def FpOk (X:Cx) (pins:List (Addr×Obj)) (H:Hp) (b:Addr):Prop:=
 H b=none/\b≠X.env.locals/\b∉X.fs/\(b∈X.ex\/X.s₀.heap.objs.size<=b)/\(∀x c,X.env.cells.lookup x=some c->c≠b)/\∀p∈X.pn++pins,p.1≠b
theorem Inv.fpOk {X:Cx} {pins:List (Addr×Obj)} {σ:St} {H H':Hp} {s:Shared} {b:Addr} (I:Inv X pins σ H s) (hb:s.heap.objs.size<=b) (hn:H' b=none):FpOk X pins H' b:=by
 refine ⟨hn,Nat.ne_of_gt (Nat.lt_of_lt_of_le I.lt hb),I.nofs hb,.inr (Nat.le_trans I.sz hb),λx c e z=>?_,λp hp z=>?_⟩
 ·obtain ⟨v,q⟩:=I.cell x c e
  exact absurd (Nat.lt_of_lt_of_le q.lt (by rw [z];exact hb)) (Nat.lt_irrefl _)
 ·exact absurd (Nat.lt_of_lt_of_le (Heap.lt_size (I.pin p hp).1) (by rw [z];exact hb)) (Nat.lt_irrefl _)
structure Turn (P:Program) (w:World) (K:PySem.W.Frag) (tg:Expr) (J:It) (fp:List Addr) (it:Addr) (tn:Nat->Heap->Prop):Prop where
 mem:it∈fp
 obj:∀i h,tn i h->∀b∈fp,∃o,h.get? b=some o/\∀v,o.data≠ .cell v
 keep:∀i h h',tn i h->(∀b∈fp,∀o,h.get? b=some o->h'.get? b=some o)->tn i h'
 item:∀(X:Cx),X.prog=P->X.w=w->X.K=K->X.calm=true->∀(i:Nat) (pins:List (Addr×Obj)) (s:Shared) (σ:St) (H:Hp) (E:Value->Shared->Prop),Inv X pins σ H s->(∀b∈fp,FpOk X pins H b)->tn i s.heap->J.go i H->
  wpAny (model P w) X.A (pyNext (.ref it)) (λr s1=>∃u,r=some u/\
   wpAny (model P w) X.A (letOwnedTupleGo tg (.ref it) u) (λ_ s2=>∃x H',Inv X pins σ H' s2/\RelV x u/\J.yld i H x H'/\tn (i+1) s2.heap/\∀b∈fp,H' b=none) E s1) E s
 done:∀(X:Cx),X.prog=P->X.w=w->X.K=K->X.calm=true->∀(i:Nat) (pins:List (Addr×Obj)) (s:Shared) (σ:St) (H:Hp) (E:Value->Shared->Prop),Inv X pins σ H s->(∀b∈fp,FpOk X pins H b)->tn i s.heap->J.stop i H->
  wpAny (model P w) X.A (pyNext (.ref it)) (λr s1=>r=none/\Inv X pins σ H s1) E s
 self:∀(A:Around) (i:Nat) (s:Shared) (Q:Value->Shared->Prop) (E:Value->Shared->Prop),tn i s.heap->Q (.ref it) s->wpAny (model P w) A (pyIter (.ref it)) Q E s
abbrev TI:=St->Hp->(It->Hp->Prop)->Prop
def PIE (X:Cx) (pins:List (Addr×Obj)) (σ:St) (tg:Expr) (R:It->Hp->Prop) (itv:Value) (s2:Shared):Prop:=
 ∃(it:Addr) (fp:List Addr) (tn:Nat->Heap->Prop) (J:It) (H':Hp),itv= .ref it/\Inv X pins σ H' s2/\Turn X.prog X.w X.K tg J fp it tn/\tn 0 s2.heap/\(∀b∈fp,FpOk X pins H' b)/\R J H'
def PI (X:Cx) (tg iter:Expr) (wi:TI):Prop:=
 ∀(pins:List (Addr×Obj)) (s:Shared) (σ:St) (H:Hp) (R:It->Hp->Prop),Inv X pins σ H s->wi σ H R->
  wpAny (model X.prog X.w) X.A (eval iter X.env) (λv s1=>wpAny (model X.prog X.w) X.A (pyIter v) (PIE X pins σ tg R) X.xe s1) X.xe s
theorem qnq_ {M:Model} {A:Around} {E:Value→Shared→Prop} {s:Shared} {tg:Expr} {it:Addr} {u:Value} {o:Obj} {n:String} {vs:Array Value} {Q:Unit→Shared→Prop} (ho:s.heap.get? it=some o) (hc:o.cls= .type n) (hd:o.data= .fields vs)
    (hn:["enumerate","zip","dict_itemiterator","dict_reverseitemiterator","odict_iterator","itertools.zip_longest","itertools.pairwise"].contains n=false) (hQ:Q () s):wpAny M A (letOwnedTupleGo tg (.ref it) u) Q E s:=by
  unfold letOwnedTupleGo
  cases tg<;>first
    |exact wpAny_pure hQ
    |(cases u<;>first
        |exact wpAny_pure hQ
        | (refine wpAny_bind (wpAny_load ho ?_)
           rw [hc,hd]
           show wpAny M A (if (["enumerate","zip","dict_itemiterator","dict_reverseitemiterator","odict_iterator","itertools.zip_longest","itertools.pairwise"].contains n&&vs[0]?==some (rawInt _))=true then _ else _) Q E s
           rw [if_neg (by intro h;rw [hn,Bool.false_and] at h;cases h)]
           exact wpAny_pure hQ))
def Itl (K:PySem.W.Frag) (a:Addr):It:=
 ⟨λi H=>∃xs x,SqL K H a xs/\xs[i]?=some x,λi H x H'=>H'=H/\∀xs,SqL K H a xs->xs[i]?=some x,λi H=>∃xs,SqL K H a xs/\xs.length<=i⟩
def Itr (lo:Int) (n:Nat):It:=⟨λi _=>i<n,λi H x H'=>H'=H/\x= .int (lo+i),λi _=>n<=i⟩
theorem qkz_ {P:Program} {w:World} {K:PySem.W.Frag} {tg:Expr} (a it:Addr):Turn P w K tg (Itl K a) [it] it (λi h=>h.IsListIter it a i) where
 mem:=by simp
 obj:=λi h st b hb=>by
  have e:b=it:=by simpa using hb
  subst e
  obtain ⟨o,e,c,d⟩:=st
  exact ⟨o,e,λv z=>by rw [d] at z;cases z⟩
 keep:=λi h h' st k=>st.at λo e=>k it (by simp) o e
 item:=by
  intro X hP hw hK hc i pins s σ H E I hf st hg
  subst hP hw hK
  obtain ⟨xs,x,hq,hx⟩:=hg
  obtain ⟨its,rv,p,hz⟩:=I.list hq
  obtain ⟨u,hu,ru⟩:=rv.get hx
  obtain ⟨f0,f1,f2,f3,f4,f5⟩:=hf it (by simp)
  refine wpAny_pyNext_list_item st p.isList (x:=u) (by simpa using hu) λh' st' sb=>?_
  have I1:Inv X pins σ H {s with heap:=h'}:=I.turned (t':=s.toks) (λb o hb e=>(sb.2 b hb).trans e) f0 f1 f3 f4 f5
  obtain ⟨o,e,c,d⟩:=id st'
  exact ⟨u,rfl,qnq_ (s:={s with heap:=h'}) e c d (by decide) ⟨x,H,I1,ru,⟨rfl,λys hy=>by rw [I.list_inj hy hq];exact hx⟩,st',λb hb=>(hf b hb).1⟩⟩
 done:=by
  intro X hP hw hK hc i pins s σ H E I hf st hg
  subst hP hw hK
  obtain ⟨xs,hq,hx⟩:=hg
  obtain ⟨its,rv,p,hz⟩:=I.list hq
  obtain ⟨f0,f1,f2,f3,f4,f5⟩:=hf it (by simp)
  have hl:=rv.length
  exact wpAny_pyNext_list_end (I.ok.hd hc) st p.isList (by simp;omega) λh' eb=>⟨rfl,I.turned (t':=s.toks) (λb o hb e=>eb b o hb e) f0 f1 f3 f4 f5⟩
 self:=λ_ _ _ _ _ st h=>wpAny_pyIter_listiter st h
theorem qkg_ {P:Program} {w:World} {K:PySem.W.Frag} {tg:Expr} (it:Addr) (lo:Int) (n:Nat):Turn P w K tg (Itr lo n) [it] it (λi h=>IsRangeIter h it (lo+(i:Nat)*1) ((n:Int) - (i:Nat)) 1) where
 mem:=by simp
 obj:=λi h st b hb=>by
  have e:b=it:=by simpa using hb
  subst e
  exact ⟨_,st,λv z=>by
   have z':Data.fields _=Data.cell v:=z
   cases z'⟩
 keep:=λi h h' st k=>k it (by simp) _ st
 item:=by
  intro X hP hw hK hc i pins s σ H E I hf st hg
  subst hP hw hK
  obtain ⟨f0,f1,f2,f3,f4,f5⟩:=hf it (by simp)
  have W:=Walks.range (prog:=X.prog) (w:=X.w) (I.ok.hd hc) it lo 1 n
  refine W.item i s _ _ hg st λv h' tk hv st' kk=>?_
  obtain ⟨t,rfl⟩:=hv
  have I1:Inv X pins σ H {s with heap:=h',toks:=tk}:=I.turned (λb o hb e=>kk b o (by simpa using hb) e) f0 f1 f3 f4 f5
  refine ⟨_,rfl,qnq_ (s:={s with heap:=h',toks:=tk}) (n:="range_iterator") st' rfl rfl (by decide) ⟨.int (lo+i),H,I1,⟨t,?_⟩,⟨rfl,rfl⟩,st',λb hb=>(hf b hb).1⟩⟩
  rw [Int.mul_one]
 done:=by
  intro X hP hw hK hc i pins s σ H E I hf st hg
  subst hP hw hK
  obtain ⟨f0,f1,f2,f3,f4,f5⟩:=hf it (by simp)
  exact wpAny_pyNext_range_end (I.ok.hd hc) st (by have:n<=i:=hg;omega) λh' eb=>⟨rfl,I.turned (t':=s.toks) (λb o hb e=>eb b o hb e) f0 f1 f3 f4 f5⟩
 self:=λ_ _ _ _ _ st h=>wpAny_pyIter_rangeiter st h
end L2
namespace L2
open PySem PySem.Spec PyProof.Rows
section
variable {X:Cx} {tg:Expr}
def qvw_ (K:PySem.W.Frag) (tl:TE):TI:=λσ H R=>tl σ H λx H1=>∃a,x= .ref a/\(∃xs,SqL K H1 a xs)/\R (Itl K a) H1
theorem qqk_ {l:Expr} {tl:TE} (hl:PE X l tl):PI X tg l (qvw_ X.K tl):=by
 intro pins s σ H R I h
 refine thn (hl pins s σ H _ I h) λv s1 zz35=>e23 zz35 λx H1 I1 r1 q1=>?_
 obtain ⟨a,e,⟨xs,hq⟩,q⟩:=q1
 subst e
 cases r1
 obtain ⟨its,rv,p,hz⟩:=I1.list hq
 refine wpAny_pyIter_list p.isList ?_
 refine ⟨s1.heap.objs.size,[s1.heap.objs.size],_,_,H1,rfl,I1.kept (t':=s1.toks) λb o e=>Heap.get?_push_of_some _ e,qkz_ a _,⟨_,Heap.get?_push_size _ rfl,rfl,rfl⟩,λb hb=>?_,q⟩
 have e:b=s1.heap.objs.size:=by simpa using hb
 subst e
 exact I1.fpOk (Nat.le_refl _) (I1.hok.fresh (Nat.le_refl _))
theorem qnm_ {pins:List (Addr×Obj)} {σ:St} {H:Hp} {s:Shared} {R:It->Hp->Prop} {E:Value->Shared->Prop} {lo hi:Int} {t u v:Tok} {tk:Nat} (I:Inv X pins σ H s) (h1: -(2 ^ 62)<=lo) (h2:lo<2 ^ 62) (h3: -(2 ^ 62)<=hi) (h4:hi<2 ^ 62)
  (q:R (Itr lo (hi - lo).toNat) H):wpAny (model X.prog X.w) X.A (pyIter (.ref s.heap.objs.size)) (PIE X pins σ tg R) E {s with heap:=s.heap.push {cls:= .type "range",data:= .fields #[.int lo t,.int hi u,.int 1 v]},toks:=tk}:=by
 refine wpAny_pyIter_range (IsRange.new ..) (small_one h1 h2 h3 h4) ?_
 have I1:Inv X pins σ H {s with heap:=s.heap.push {cls:= .type "range",data:= .fields #[.int lo t,.int hi u,.int 1 v]},toks:=tk}:=I.kept λb o e=>Heap.get?_push_of_some _ e
 refine ⟨(s.heap.push {cls:= .type "range",data:= .fields #[.int lo t,.int hi u,.int 1 v]}).objs.size,[(s.heap.push {cls:= .type "range",data:= .fields #[.int lo t,.int hi u,.int 1 v]}).objs.size],_,_,H,rfl,
  I1.kept (t':=tk) λb o e=>Heap.get?_push_of_some _ e,qkg_ _ lo (hi - lo).toNat,?_,λb hb=>?_,q⟩
 ·have e1:lo+((0:Nat):Int)*1=lo:=by simp
  have e2:(((hi - lo).toNat:Nat):Int) - ((0:Nat):Int)=Builtin.Range.rangeSize lo hi 1:=by rw [rangeSize_one];split<;>omega
  show IsRangeIter _ _ (lo+((0:Nat):Int)*1) ((((hi - lo).toNat:Nat):Int) - ((0:Nat):Int)) 1
  rw [e1,e2]
  exact Heap.get?_push_size _ rfl
 ·have e:b=(s.heap.push {cls:= .type "range",data:= .fields #[.int lo t,.int hi u,.int 1 v]}).objs.size:=by simpa using hb
  subst e
  exact I1.fpOk (Nat.le_refl _) (I1.hok.fresh (Nat.le_refl _))
def qu8_ (ta:TA):TI:=λσ H R=>ta σ H λvs H1=>∃j:Int,vs=[.int j]/\ -(2 ^ 62)<=j/\j<2 ^ 62/\R (Itr 0 j.toNat) H1
theorem qmf_ {a:Expr} {ta:TA} {p pos:Pos} (hg:Gl X "range") (hm:X.mg "range"=none) (ha:PA X [a] ta) (hs:starEach [a] X.env=[(false,eval a X.env)]:=by rfl):PI X tg (.Call (.Name "range" p) [a] [] pos) (qu8_ ta):=by
 intro pins s σ H R I h
 refine Call_ (qde_ I hg hm boot_range (PyProof.Rows.callWith_type1 (thn (ha pos pins s σ H _ I h) λus s1 zz37=>e23 zz37 λvs H1 I1 r1 q1=>?_) hs rfl))
 obtain ⟨j,e,q1,q2,q⟩:=q1
 subst e
 cases r1 with
 |cons r rr=>
  cases rr
  obtain ⟨t,rfl⟩:=r
  exact call_range_1 (qnm_ I1 (by omega) (by omega) q1 q2 (by simpa using q))
def tFor (wi:TI) (g:TG) (tb:TS):TS:=λD σ H=>wi σ H λJ H1=>∃W:Nat->Nat->St->Hp->Prop,(∃m,W 0 m σ H1)/\∀i m σ H,W i m σ H->
 (J.stop i H/\D.nx σ H)\/(J.go i H/\∃N:St->Hp->Prop,(∀σ' H',N σ' H'->∃m',m'<m/\W (i+1) m' σ' H')/\∀x H',J.yld i H x H'->g x σ H' λσ2 H2=>tb {D with nx:=N,ct:=N,bk:=D.nx} σ2 H2)
def qhl_ (fp:List Addr) (h:Heap):List (Addr×Obj):=fp.filterMap λb=>(h.get? b).map λo=>(b,o)
theorem qd0_ {fp:List Addr} {h:Heap} {b:Addr} {o:Obj} (hb:b∈fp) (e:h.get? b=some o):(b,o)∈qhl_ fp h:=List.mem_filterMap.mpr ⟨b,hb,by rw [e];rfl⟩
theorem qmc_ {fp:List Addr} {h:Heap} {p:Addr×Obj} (hp:p∈qhl_ fp h):p.1∈fp/\h.get? p.1=some p.2:=by
 obtain ⟨b,hb,e⟩:=List.mem_filterMap.mp hp
 cases q:h.get? b with
 |none=>rw [q] at e;cases e
 |some o=>
  rw [q] at e
  have e':(b,o)=p:=Option.some.inj e
  subst e'
  exact ⟨hb,q⟩
theorem Inv.pinned {pins:List (Addr×Obj)} {σ:St} {H:Hp} {s:Shared} {fp:List Addr} (I:Inv X pins σ H s) (hf:∀b∈fp,FpOk X pins H b) (ho:∀b∈fp,∃o,s.heap.get? b=some o/\∀v,o.data≠ .cell v):Inv X (pins++qhl_ fp s.heap) σ H s:=
 I.pins_of λp hp=>(List.mem_append.mp hp).elim (λz=>I.pin p (List.mem_append_right _ z)) λz=>by
  obtain ⟨hb,e⟩:=qmc_ z
  obtain ⟨f0,f1,f2,_⟩:=hf p.1 hb
  obtain ⟨o,e',d⟩:=ho p.1 hb
  rw [e] at e';cases e'
  exact ⟨e,f0,f1,f2,d⟩
theorem Inv.unpinned {pins pl:List (Addr×Obj)} {σ:St} {H:Hp} {s:Shared} (I:Inv X (pins++pl) σ H s):Inv X pins σ H s:=I.pins_of λp hp=>I.pin p (List.mem_append_right _ (List.mem_append_left _ hp))
theorem quv_ {iter:Expr} {body:List Stmt} {wi:TI} {g:TG} {tb:TS} {pos:Pos} (hp:PassesOwn (model X.prog X.w) X.A X.env X.xe) (hc:X.calm=true) (hi:PI X tg iter wi) (hg:PG X tg g) (hb:PSs X body tb)
  (hs:∀x,foldedSetIterable iter X.env x=pure x:=by intro _;rfl):PS X (.For tg iter body [] pos) (tFor wi g tb):=by
 intro pins s σ H D I h
 refine wpAny_For (thn (hi pins s σ H _ I h) λv s1 h1=>thn h1 λitv s2 h2=>?_) hs
 obtain ⟨it,fp,tn,J,H2,e,I2,T,st2,f2,W,⟨m0,w0⟩,turn⟩:=h2
 subst e
  -- what stays true of the iterator's objects through the loop
 have stat:∀{H':Hp},(∀b∈fp,H' b=none)->∀b∈fp,FpOk X pins H' b:=λhn b hb=>⟨hn b hb,(f2 b hb).2⟩
 refine codeAny_forLoop_any (λn s'=>∃i σ' H',Inv X pins σ' H' s'/\tn i s'.heap/\(∀b∈fp,H' b=none)/\W i n σ' H') ?_ m0 ⟨0,σ,H2,I2,st2,λb hb=>(f2 b hb).1,w0⟩
 rintro n s3 ⟨i,σ3,H3,I3,st3,fr3,w3⟩
 rcases turn i n σ3 H3 w3 with ⟨stop,qn⟩|⟨go,N,hN,step⟩
 ·refine wpAny_passesOwn hp (thn (T.done X rfl rfl rfl hc i pins s3 σ3 H3 X.xe I3 (stat fr3) st3 stop) λr s4 ⟨hr,I4⟩=>?_)
  subst hr
  exact wpAny_execs_nil ⟨σ3,H3,I4,qn⟩
 ·refine wpAny_passesOwn hp (thn (T.item X rfl rfl rfl hc i pins s3 σ3 H3 X.xe I3 (stat fr3) st3 go) λr s4 ⟨u,hr,h4⟩=>?_)
  subst hr
  refine wpAny_passesOwn hp (thn h4 λ_ s5 ⟨x,H5,I5,r5,y5,st5,fr5⟩=>?_)
  have I5':=I5.pinned (stat fr5) (T.obj _ _ st5)
  refine wpAny_passesOwn hp (thn (hg _ s5 σ3 H5 x u _ I5' r5 (step x H5 y5)) λ_ s6 zz42=>e22 zz42 λσ6 H6 I6 q6=>?_)
  refine wpAny_passesOwn hp (thn (hb _ s6 σ6 H6 _ I6 q6) λf s7 q7=>?_)
  have again:∀{σ7:St} {H7:Hp},Inv X (pins++qhl_ fp s5.heap) σ7 H7 s7->N σ7 H7->∃m,m<n/\∃i σ' H',Inv X pins σ' H' s7/\tn i s7.heap/\(∀b∈fp,H' b=none)/\W i m σ' H':=λ{σ7 H7} I7 n7=>by
   obtain ⟨m',hm,w7⟩:=hN σ7 H7 n7
   refine ⟨m',hm,i+1,σ7,H7,I7.unpinned,T.keep _ _ _ st5 λb hb o e=>(I7.pin (b,o) (List.mem_append_right _ (List.mem_append_right _ (qd0_ hb e)))).1,λb hb=>?_,w7⟩
   obtain ⟨o,e,d⟩:=T.obj _ _ st5 b hb
   exact (I7.pin (b,o) (List.mem_append_right _ (List.mem_append_right _ (qd0_ hb e)))).2.1
  cases f with
  |next=>obtain ⟨σ7,H7,I7,n7⟩:=q7;exact again I7 n7
  |cont=>obtain ⟨σ7,H7,I7,n7⟩:=q7;exact again I7 n7
  |brk=>obtain ⟨σ7,H7,I7,q7⟩:=q7;exact ⟨σ7,H7,I7.unpinned,q7⟩
  |ret v=>obtain ⟨x7,σ7,H7,I7,r7,q7⟩:=q7;exact ⟨x7,σ7,H7,I7.unpinned,r7,q7⟩
end
end L2
namespace L2
open PySem PySem.Spec PyProof.Rows
abbrev R2:=V->V->Hp->VK->Prop
def OpR (X:Cx) (f:Value->Value->Sem Value) (r:R2):Prop:=
 ∀(pins:List (Addr×Obj)) (s:Shared) (σ:St) (H:Hp) (x y:V) (v u:Value) (Q:VK),Inv X pins σ H s->RelV x v->RelV y u->r x y H Q->
  wpAny (model X.prog X.w) X.A (f v u) (EP X pins σ Q) X.xe s
def UnR (X:Cx) (f:Value->Sem Value) (r:V->Hp->VK->Prop):Prop:=
 ∀(pins:List (Addr×Obj)) (s:Shared) (σ:St) (H:Hp) (x:V) (v:Value) (Q:VK),Inv X pins σ H s->RelV x v->r x H Q->
  wpAny (model X.prog X.w) X.A (f v) (EP X pins σ Q) X.xe s
def qev_ (X:Cx) (f:Value) (r:List V->Hp->VK->Prop):Prop:=
 ∀(pins:List (Addr×Obj)) (s:Shared) (σ:St) (H:Hp) (xs:List V) (us:List Value) (Q:VK),Inv X pins σ H s->Vals xs us->r xs H Q->
  wpAny (model X.prog X.w) X.A (call f us) (EP X pins σ Q) X.xe s
def tOp (r:R2) (ta tb:TE):TE:=λσ H Q=>ta σ H λx H1=>tb σ H1 λy H2=>r x y H2 Q
def tUn (r:V->Hp->VK->Prop) (ta:TE):TE:=λσ H Q=>ta σ H λx H1=>r x H1 Q
def rI (C:Int->Int->Prop) (g:Int->Int->V):R2:=λx y H Q=>∃i j,x= .int i/\y= .int j/\C i j/\Q (g i j) H
def rI0 (g:Int->Int->V):R2:=λx y H Q=>∃i j,x= .int i/\y= .int j/\Q (g i j) H
def rU (g:Int->V):V->Hp->VK->Prop:=λx H Q=>∃i,x= .int i/\Q (g i) H
section
variable {X:Cx} {a b c:Expr} {ta tb tc:TE} {pos:Pos}
theorem binT (ha:PE X a ta) (hb:PE X b tb) {pins:List (Addr×Obj)} {s:Shared} {σ:St} {H:Hp} {R:V->V->Hp->Prop} (I:Inv X pins σ H s)
  (h:ta σ H λx H1=>tb σ H1 λy H2=>R x y H2) {Q:Value->Shared->Prop} {f:Value->Value->Sem Value}
  (hf:∀v u s2 x y H2,Inv X pins σ H2 s2->RelV x v->RelV y u->R x y H2->wpAny (model X.prog X.w) X.A (f v u) Q X.xe s2):
  wpAny (model X.prog X.w) X.A (eval a X.env) (λv s₁=>wpAny (model X.prog X.w) X.A (eval b X.env) (λu s₂=>wpAny (model X.prog X.w) X.A (f v u) Q X.xe s₂) X.xe s₁) X.xe s:=by
 refine thn (ha pins s σ H _ I h) λv s1 zz44=>e23 zz44 λx H1 I1 r1 q1=>?_
 refine thn (hb pins s1 σ H1 _ I1 q1) λu s2 zz45=>e23 zz45 λy H2 I2 r2 q2=>?_
 exact hf v u s2 x y H2 I2 r1 r2 q2
theorem qse_ {op:Operator} {r:R2} (ho:OpR X (binaryOp op) r) (ha:PE X a ta) (hb:PE X b tb):PE X (.BinOp a op b pos) (tOp r ta tb):=by
 intro pins s σ H Q I h
 exact wpAny_BinOp (binT ha hb I h λv u s2 x y H2 I2 rx ry q=>ho pins s2 σ H2 x y v u Q I2 rx ry q)
theorem qwj_ {op:UnaryOp} {r:V->Hp->VK->Prop} (ho:UnR X (unaryOp op) r) (ha:PE X a ta):PE X (.UnaryOp op a pos) (tUn r ta):=by
 intro pins s σ H Q I h
 exact UnaryOp_ (thn (ha pins s σ H _ I h) λv s1 zz46=>e23 zz46 λx H1 I1 r1 q1=>ho pins s1 σ H1 x v Q I1 r1 q1)
theorem opI {f:Value->Value->Sem Value} {C:Int->Int->Prop} {g:Int->Int->Int}
  (rule:∀(i j:Int) (t u:Tok) (s:Shared) (Q:Value->Shared->Prop) (E:Value->Shared->Prop),C i j->Q (.int (g i j) s.toks) {s with toks:=s.toks+1}->wpAny (model X.prog X.w) X.A (f (.int i t) (.int j u)) Q E s):
  OpR X f (rI C λi j=> .int (g i j)):=by
 intro pins s σ H x y v u Q I rx ry h
 obtain ⟨i,j,rfl,rfl,hc,q⟩:=h
 obtain ⟨t,rfl⟩:=rx
 obtain ⟨t',rfl⟩:=ry
 exact rule i j t t' s _ _ hc ⟨.int (g i j),H,I.tok _,⟨_,rfl⟩,q⟩
theorem opI0 {f:Value->Value->Sem Value} {g:Int->Int->Int}
  (rule:∀(i j:Int) (t u:Tok) (s:Shared) (Q:Value->Shared->Prop) (E:Value->Shared->Prop),Q (.int (g i j) s.toks) {s with toks:=s.toks+1}->wpAny (model X.prog X.w) X.A (f (.int i t) (.int j u)) Q E s):
  OpR X f (rI0 λi j=> .int (g i j)):=by
 intro pins s σ H x y v u Q I rx ry h
 obtain ⟨i,j,rfl,rfl,q⟩:=h
 obtain ⟨t,rfl⟩:=rx
 obtain ⟨t',rfl⟩:=ry
 exact rule i j t t' s _ _ ⟨.int (g i j),H,I.tok _,⟨_,rfl⟩,q⟩
theorem opB0 {f:Value->Value->Sem Value} {g:Int->Int->Bool}
  (rule:∀(i j:Int) (t u:Tok) (s:Shared) (Q:Value->Shared->Prop) (E:Value->Shared->Prop),Q (.bool (g i j)) s->wpAny (model X.prog X.w) X.A (f (.int i t) (.int j u)) Q E s):
  OpR X f (rI0 λi j=> .bl (g i j)):=by
 intro pins s σ H x y v u Q I rx ry h
 obtain ⟨i,j,rfl,rfl,q⟩:=h
 obtain ⟨t,rfl⟩:=rx
 obtain ⟨t',rfl⟩:=ry
 exact rule i j t t' s _ _ ⟨.bl (g i j),H,I,rfl,q⟩
def CPow (i j:Int):Prop:=0<=j/\j<=1000000/\i.natAbs<2 ^ 64
def CMul (i j:Int):Prop:=(-(2 ^ 64)<i/\i<2 ^ 64)\/(-(2 ^ 64)<j/\j<2 ^ 64)
theorem CMul.ok {i j:Int} (h:CMul i j):IntMulOk i j:=by
 rcases h with ⟨h1,h2⟩|⟨h1,h2⟩
 ·exact .of_left (intBits_le_64 h1 h2)
 ·exact .of_right (intBits_le_64 h1 h2)
theorem qum_:OpR X (binaryOp .Add) (rI0 λi j=> .int (i+j)):=opI0 λ_ _ _ _ _ _ _ q=>add_int q
theorem qtz_:OpR X (binaryOp .Sub) (rI0 λi j=> .int (i - j)):=opI0 λ_ _ _ _ _ _ _ q=>sub_int q
theorem quq_:OpR X (binaryOp .Mult) (rI CMul λi j=> .int (i*j)):=opI λ_ _ _ _ _ _ _ hc q=>mul_int q hc.ok
theorem qp2_:OpR X (binaryOp .Mod) (rI (λ_ j=>j≠0) λi j=> .int (i.fmod j)):=opI λ_ _ _ _ _ _ _ hc q=>mod_int' hc q
theorem qun_:OpR X (binaryOp .Pow) (rI CPow λi j=> .int (i ^ j.toNat)):=opI λ_ _ _ _ _ _ _ hc q=>pow_int_small hc.1 hc.2.1 hc.2.2 q
theorem unI {f:Value->Sem Value} {g:Int->Int}
  (rule:∀(i:Int) (t:Tok) (s:Shared) (Q:Value->Shared->Prop) (E:Value->Shared->Prop),Q (.int (g i) s.toks) {s with toks:=s.toks+1}->wpAny (model X.prog X.w) X.A (f (.int i t)) Q E s):
  UnR X f (rU λi=> .int (g i)):=by
 intro pins s σ H x v Q I rx h
 obtain ⟨i,rfl,q⟩:=h
 obtain ⟨t,rfl⟩:=rx
 exact rule i t s _ _ ⟨.int (g i),H,I.tok _,⟨_,rfl⟩,q⟩
theorem quu_:UnR X (unaryOp .USub) (rU λi=> .int (-i)):=unI λ_ _ _ _ _ q=>neg_int q
end
section
variable {X:Cx} {a b c:Expr} {ta tb tc:TE} {pos:Pos}
theorem qtc_:OpR X (compareOp .Lt) (rI0 λi j=> .bl (decide (i<j))):=opB0 λ_ _ _ _ _ _ _ q=>lt_int q
theorem qv5_:OpR X (compareOp .LtE) (rI0 λi j=> .bl (decide (i<=j))):=opB0 λ_ _ _ _ _ _ _ q=>le_int q
theorem qvz_:OpR X (compareOp .Gt) (rI0 λi j=> .bl (decide (j<i))):=opB0 λ_ _ _ _ _ _ _ q=>gt_int q
theorem qwq_:OpR X (compareOp .GtE) (rI0 λi j=> .bl (decide (j<=i))):=opB0 λ_ _ _ _ _ _ _ q=>ge_int q
theorem qe0_ (b:Expr) {op:CmpOp} (h:op≠ .In:=by decide) (h2:op≠ .NotIn:=by decide):behindInMarks op b=false:=by
 have e1:(op==CmpOp.In)=false:=by cases op<;>first|rfl|exact absurd rfl h
 have e2:(op==CmpOp.NotIn)=false:=by cases op<;>first|rfl|exact absurd rfl h2
 cases b<;>simp [behindInMarks,e1,e2]
theorem qrn_ {op:CmpOp} {r:R2} (ho:OpR X (compareOp op) r) (ha:PE X a ta) (hb:PE X b tb) (hm:behindInMarks op b=false):PE X (.Compare a [op] [b] pos) (tOp r ta tb):=by
 intro pins s σ H Q I h
 exact wpAny_Compare1 (binT ha hb I h λv u s2 x y H2 I2 rx ry q=>ho pins s2 σ H2 x y v u Q I2 rx ry q) hm
def qwm_ (t:TE):TT:=λσ H Q=>t σ H λx H'=>∃k,x= .bl k/\Q k H'
theorem qp4_ {op:CmpOp} {r:R2} (ho:OpR X (compareOp op) r) (ha:PE X a ta) (hb:PE X b tb) (hm:behindInMarks op b=false):PT X (.Compare a [op] [b] pos) (qwm_ (tOp r ta tb)):=by
 intro pins s σ H Q I h
 refine wpAny_isTrue_Compare1 (thn (ha pins s σ H _ I h) λv s1 zz47=>e23 zz47 λx H1 I1 r1 q1=>thn (hb pins s1 σ H1 _ I1 q1) λu s2 zz48=>e23 zz48 λy H2 I2 r2 q2=>
  thn (ho pins s2 σ H2 x y v u _ I2 r1 r2 q2) λc s3 ⟨z,H3,I3,r3,k,e,q3⟩=>?_) hm
 subst e
 cases r3
 exact wpAny_truthy_bool ⟨H3,I3,q3⟩
theorem qhq_:(sizeLine:Nat)<2 ^ 63:=by rw [sizeLine_eq];decide
theorem qgw_ {x:V} {us:List Value} (r:Vals [x] us):∃u,us=[u]/\RelV x u:=by
 cases r with
 |cons r1 r2=>cases r2;exact ⟨_,rfl,r1⟩
theorem qkb_ {x y:V} {us:List Value} (r:Vals [x,y] us):∃u w',us=[u,w']/\RelV x u/\RelV y w':=by
 cases r with
 |cons r1 r2=>
  cases r2 with
  |cons r3 r4=>cases r4;exact ⟨_,_,rfl,r1,r3⟩
theorem qni_:qev_ X (.builtin "abs") (λxs H Q=>∃i,xs=[.int i]/\Q (.int (if i<0 then -i else i)) H):=by
 intro pins s σ H xs us Q I r h
 obtain ⟨i,rfl,q⟩:=h
 obtain ⟨u,rfl,t,rfl⟩:=qgw_ r
 exact call_abs_int λu tk=>⟨.int (if i<0 then -i else i),H,I.tok _,⟨_,rfl⟩,q⟩
theorem qm2_ (hc:X.calm=true):qev_ X (.builtin "max") (λxs H Q=>∃i j,xs=[.int i,.int j]/\Q (.int (if j>i then j else i)) H):=by
 intro pins s σ H xs us Q I r h
 obtain ⟨i,j,rfl,q⟩:=h
 obtain ⟨u,w',rfl,⟨t,rfl⟩,⟨t',rfl⟩⟩:=qkb_ r
 refine max_two_ints (I.ok.hd hc) λh' tk k=>⟨_,H,I.kept k,?_,q⟩
 by_cases hj:j>i
 ·rw [if_pos hj,if_pos hj];exact ⟨_,rfl⟩
 ·rw [if_neg hj,if_neg hj];exact ⟨_,rfl⟩
theorem ql0_:qev_ X (.type "int") (λxs H Q=>(∃i,xs=[.int i]/\Q (.int i) H)\/∃k,xs=[.bl k]/\Q (.int (if k then 1 else 0)) H):=by
 intro pins s σ H xs us Q I r h
 rcases h with ⟨i,rfl,q⟩|⟨k,rfl,q⟩
 ·obtain ⟨u,rfl,t,rfl⟩:=qgw_ r
  exact call_int_int ⟨.int i,H,I,⟨_,rfl⟩,q⟩
 ·obtain ⟨u,rfl,r1⟩:=qgw_ r
  cases r1
  exact call_int_bool ⟨.int (if k then 1 else 0),H,I.tok _,⟨_,rfl⟩,q⟩
end
end L2
namespace L2
open PySem PySem.Spec PyProof.Rows
structure ObjM (h:Heap) (x dx C:Addr) (mA:Str->Option Value):Prop where
 obj:h.get? x=some (PySem.W.instObj C dx)
 ns:h.Ns1 dx mA
 ne:dx≠x
theorem qm9_ {h:Heap} {dx:Addr} {mA:Str->Option Value} (n:h.Ns1 dx mA):∃od,h.get? dx=some od/\∀name,PySem.W.lookIn name od=some (mA name):=by
 obtain ⟨o,es,ep,ho,hd,hk,_,hm⟩:=n
 refine ⟨o,ho,λname=>?_⟩
 have e:=hm name
 unfold nsFind findBy at e
 rw [<-Array.find?_toList] at e
 unfold PySem.W.lookIn
 rw [hd]
 dsimp only
 split
 ·rename_i y q
  rw [q] at e
  exact congrArg some e
 ·rename_i q
  rw [q] at e
  have a:es.toList.any (·.refKey)=false:=by
   rw [List.any_eq_false]
   intro y hy
   obtain ⟨z,t,hkey⟩:=hk y (Array.mem_toList_iff.mp hy)
   simp [DictEntry.refKey,hkey]
  have a':¬es.toList.any (·.refKey)=true:=by rw [a];exact Bool.false_ne_true
  rw [if_neg a']
  exact congrArg some e
theorem ObjM.look {h:Heap} {x dx C:Addr} {mA:Str->Option Value} (I:ObjM h x dx C mA):∃od,PySem.W.InstAt h x (PySem.W.instObj C dx) C (some od)/\∀name,PySem.W.lookIn name od=some (mA name):=
 let ⟨od,ho,hl⟩:=qm9_ I.ns
 ⟨od,⟨I.obj,rfl,rfl,ho⟩,hl⟩
section
variable {prog:Program} {w:World} {A:Around} {E:Value->Shared->Prop} {s:Shared} {K:PySem.W.Frag} {x dx C f:Addr} {mA:Str->Option Value} {name:Str} {v:Value}
end
section
variable {P:Program} {w:World} {H H':Hp} {h h':Heap} {a C dx:Addr} {fs fs':List (Str×V)}
theorem qpy_ (hok:HOk P w H h) (e:H a=some (.ins C dx fs)):∃mA,ObjM h a dx C mA/\(∀f,RelO (fs.lookup f) (mA f))/\PySem.Within mA (fs.map (·.1))/\fs.length<=1000/\H dx=some (.own a):=by
 obtain ⟨d,z,ne,ob,mA,n,r,q⟩:=(show ObjOk P w H h a (.ins C dx fs) from hok a _ e)
 exact ⟨mA,⟨ob,n,ne⟩,r,q,z,d⟩
end
structure Cls (K:PySem.W.Frag) (C:Addr):Prop where
 pg:PySem.W.plainGet K C Str.empty=true
 hd:PySem.W.hasDictIn K C=true
 po:PySem.W.plainOver K C=true
 sa:PySem.W.findIn K (.ref C) "__setattr__"=some (some (.builtin "object.__setattr__"))
theorem Cls.get {K:PySem.W.Frag} {C:Addr} (c:Cls K C) (f:Str):PySem.W.plainGet K C f=true:=c.pg
section
variable {X:Cx} {pins:List (Addr×Obj)} {σ:St} {H:Hp} {s:Shared} {a C dx:Addr} {fs:List (Str×V)} {f:Str} {v:V} {A:Around} {E:Value->Shared->Prop}
end
section
variable {X:Cx} {o e value:Expr} {f:Str} {pos pos' tpos:Pos} {ta tv:TE}
end
section
variable {X:Cx} {pins:List (Addr×Obj)} {σ:St} {H:Hp} {s:Shared} {A:Around} {E:Value->Shared->Prop} {Q:Value->Shared->Prop} {c:Value} {b:Bool}
inductive TyOf (K:PySem.W.Frag) (H:Hp):V->Value->Prop where
 |non:TyOf K H .non (.type "NoneType")
 |bl (x:Bool):TyOf K H (.bl x) (.type "bool")
 |int (i:Int):TyOf K H (.int i) (.type "int")
 |str (x:Str):TyOf K H (.str x) (.type "str")
 |flt (x:UInt64):TyOf K H (.flt x) (.type "float")
 |lst {a:Addr} {xs:List V} (e:H a=some (.lst xs)):TyOf K H (.ref a) (.type "list")
 |frz {a:Addr} {o:Obj} {xs:List V} (e:H a=some (.frz o (.lst xs))):TyOf K H (.ref a) (.type "list")
 |tup {a:Addr} {xs:List V} (e:H a=some (.tup xs)):TyOf K H (.ref a) (.type "tuple")
 |dK {a:Addr} {kvs:List (Key×V)} (e:H a=some (.dK kvs)):TyOf K H (.ref a) (.type "dict")
 |dT {a:Addr} {kvs:List (List Key×V)} (e:H a=some (.dT kvs)):TyOf K H (.ref a) (.type "dict")
 |ins {a C dx:Addr} {fs:List (Str×V)} (e:H a=some (.ins C dx fs)) (cl:Cls K C) (ha:PySem.W.findIn K (.ref C) "__class__"=some (some (.builtin "object.__class__")))
   (hn:PySem.W.specialIn K (.builtin "object.__class__") "__get__"=some (some (.builtin "getset_descriptor.__get__"))) (htk:PySem.W.takesIn K (.builtin "object.__class__")=some true)
   (hm:PySem.W.mroIn K C (.type "object")=some true):TyOf K H (.ref a) (.ref C)
theorem qed_ {x:V} {u t:Value} (I:Inv X pins σ H s) (rx:RelV x u) (ty:TyOf X.K H x t) (e:PySem.W.kitOne X.K t c=some b) (h:∀tk,Q (.bool b) {s with toks:=tk}):
  wpAny (model X.prog X.w) A (call (.builtin "isinstance") [u,c]) Q E s:=by
 cases ty with
 |non=>cases (show u=Value.none from rx);exact PySem.W.kia_one PySem.W.kitx_none I.kIn True.intro e (λz=>nomatch z) h
 |bl y=>cases (show u=Value.bool y from rx);exact PySem.W.kia_one PySem.W.kitx_bool I.kIn True.intro e (λz=>nomatch z) h
 |int i=>obtain ⟨t,q⟩:=(show ∃t,u=Value.int i t from rx);cases q;exact PySem.W.kia_one PySem.W.kitx_int I.kIn True.intro e (λz=>nomatch z) h
 |str y=>obtain ⟨t,q⟩:=(show ∃t,u=Value.str y t from rx);cases q;exact PySem.W.kia_one PySem.W.kitx_str I.kIn True.intro e (λz=>nomatch z) h
 |flt y=>obtain ⟨t,q⟩:=(show ∃t,u=Value.float y t from rx);cases q;exact PySem.W.kia_one PySem.W.kitx_float I.kIn True.intro e (λz=>nomatch z) h
 | @lst a xs ea=>
  cases (show u=Value.ref a from rx)
  obtain ⟨_,_,n,_,h1⟩:=(show ObjOk X.prog X.w H s.heap a (.lst xs) from I.hok a _ ea)
  exact PySem.W.kia_one PySem.W.kitx_list I.kIn ⟨_,h1,rfl⟩ e (λz=>nomatch z) h
 | @frz a ob xs ea=>
  cases (show u=Value.ref a from rx)
  obtain ⟨_,_,_,n,_,h1⟩:=(show ObjOk X.prog X.w H s.heap a (.frz ob (.lst xs)) from I.hok a _ ea)
  exact PySem.W.kia_one PySem.W.kitx_list I.kIn ⟨_,h1,rfl⟩ e (λz=>nomatch z) h
 | @tup a xs ea=>
  cases (show u=Value.ref a from rx)
  obtain ⟨_,_,_,p⟩:=(show ObjOk X.prog X.w H s.heap a (.tup xs) from I.hok a _ ea)
  obtain ⟨o,h1,h2,_⟩:=p
  exact PySem.W.kia_one PySem.W.kitx_tuple I.kIn ⟨o,h1,h2⟩ e (λz=>nomatch z) h
 | @dK a kvs ea=>
  cases (show u=Value.ref a from rx)
  obtain ⟨_,_,vs,_,p⟩:=(show ObjOk X.prog X.w H s.heap a (.dK kvs) from I.hok a _ ea)
  obtain ⟨o,es,ep,h1,h2,_⟩:=p
  exact PySem.W.kia_one PySem.W.kitx_dict I.kIn ⟨o,h1,h2.1⟩ e (λz=>nomatch z) h
 | @dT a kvs ea=>
  cases (show u=Value.ref a from rx)
  obtain ⟨_,_,xs,_,o,es,ep,h1,h2,_⟩:=(show ObjOk X.prog X.w H s.heap a (.dT kvs) from I.hok a _ ea)
  exact PySem.W.kia_one PySem.W.kitx_dict I.kIn ⟨o,h1,h2.1⟩ e (λz=>nomatch z) h
 | @ins a C dx fs ea cl ha hn htk hm=>
  cases (show u=Value.ref a from rx)
  obtain ⟨mA,O,_⟩:=qpy_ I.hok ea
  obtain ⟨od,J,_⟩:=O.look
  exact PySem.W.kia_one (PySem.W.kitx_own (cl.get _) cl.hd ha hn htk hm) I.kIn J e (λz=>nomatch z) h
end
end L2
namespace L2
open PySem PySem.Spec PyProof.Rows
structure Room (k:Nat) (A:Around):Prop where
 hd:A.handled=none
 dp:A.depth+3*k+5<recursionLimit
 un:A.units+16*k+200<cLine
theorem Room.mono {j k:Nat} {A:Around} (r:Room k A) (h:j<=k):Room j A:=⟨r.hd,by have:=r.dp;omega,by have:=r.un;omega⟩
theorem Room.deeper {k:Nat} {A:Around} (r:Room (k+1) A) (env:Env):Room k (A.deeper env):=
 ⟨r.hd,by have:=r.dp;show A.depth+1+3*k+5<_;omega,by have:=r.un;show A.units+3+16*k+200<_;omega⟩
theorem Room.depth {k:Nat} {A:Around} (r:Room k A):A.depth<recursionLimit:=by have:=r.dp;omega
def tNil:TA:=λ_ H Q=>Q [] H
def qrb_ (ta:TE) (tr:TA):TA:=λσ H Q=>ta σ H λx H1=>tr σ H1 λxs H2=>Q (x::xs) H2
section
variable {X:Cx} {e:Expr} {es:List Expr} {te:TE} {t:TA} {pos:Pos}
theorem qfp_:PA X [] tNil:=λ_ _ _ _ H Q I h=>Calls.spliced_nil ⟨[],H,I,.nil,h⟩
theorem qc5_ (ha:PE X e te) (hr:PA X es t) (hs:starEach (e::es) X.env=(false,eval e X.env)::starEach es X.env:=by rfl):PA X (e::es) (qrb_ te t):=by
 intro pos pins s σ H Q I h
 rw [hs]
 show wpAny _ _ (spliced ((false,eval e X.env)::backTo pos (starEach es X.env))) _ _ s
 refine Calls.spliced_cons (thn (ha pins s σ H _ I h) λu s1 zz68=>e23 zz68 λx H1 I1 r1 q1=>?_)
 exact thn (hr pos pins s1 σ H1 _ I1 q1) λus s2 zz69=>e23 zz69 λxs H2 I2 r2 q2=>⟨x::xs,H2,I2,.cons r1 r2,q2⟩
def tTup (t:TA):TE:=λσ H Q=>t σ H λxs H1=>xs.length<=sizeLine/\∀p,H1 p=none->Q (.ref p) (upd H1 p (.tup xs))
def tLst (t:TA):TE:=λσ H Q=>t σ H λxs H1=>xs.length<=sizeLine/\∀p,H1 p=none->Q (.ref p) (upd H1 p (.lst xs))
theorem qo0_ {x1} (h:PA X es t):PE X (.Tuple es x1 pos) (tTup t):=by
 intro pins s σ H Q I hq
 refine wpAny_Tuple_spliced (thn (h pos pins s σ H _ I hq) λus s1 zz70=>e24 zz70 λxs H1 I1 r z q=>⟨by rw [<-r.length];exact z,?_⟩)
 have hf:H1 s1.heap.objs.size=none:=I1.hok.fresh (Nat.le_refl _)
 refine ⟨.ref s1.heap.objs.size,upd H1 s1.heap.objs.size (.tup xs),I1.laid (t':=s1.toks) (λb u e=>Heap.get?_push_of_some _ e) (Nat.le_refl _) ?_,rfl,q _ hf⟩
 exact ⟨z,us,r,⟨_,Heap.get?_push_size _ rfl,rfl,_,rfl⟩⟩
theorem que_ (h:PA X es t):PE X (.List es pos) (tLst t):=by
 intro pins s σ H Q I hq
 refine wpAny_List_spliced (thn (h pos pins s σ H _ I hq) λus s1 zz71=>e24 zz71 λxs H1 I1 r z q=>⟨by rw [<-r.length];exact z,?_⟩)
 have hf:H1 s1.heap.objs.size=none:=I1.hok.fresh (Nat.le_refl _)
 refine ⟨.ref s1.heap.objs.size,upd H1 s1.heap.objs.size (.lst xs),I1.laid (t':=s1.toks) (λb u e=>Heap.get?_push_of_some _ e) (Nat.le_refl _) ?_,rfl,q _ hf⟩
 exact ⟨z,us,0,r,Heap.get?_push_size _ rfl⟩
end
abbrev Sp:=List V->Hp->VK->XK->Prop
abbrev CXT:=List Env->Hp->Shared->XK->Value->Shared->Prop
structure Env0 (P:Program) (w:World) (K:PySem.W.Frag) (mg:Str->Option Value) (base:Heap) (A:Around) (outer:List Env) (s:Shared) (H:Hp):Prop where
 frames:A.frames=some outer
 mod:Mod K mg base
 bs:∀b o,base.get? b=some o->s.heap.get? b=some o/\H b=none
 bsz:base.objs.size<=s.heap.objs.size
 funs:s.heap.FunFrames base outer
 frf:∀b∈frs outer,H b=none
 hok:HOk P w H s.heap
 bare:AllBare s.gens
def CE (outer:List Env) (P:Program) (w:World) (H:Hp) (s:Shared) (Q:VK) (u:Value) (s':Shared):Prop:=
 ∃v H',s'.os=s.os/\AllBare s'.gens/\Un (frs outer) [] H H' s.heap s'.heap/\HOk P w H' s'.heap/\RelV v u/\Q v H'
def CR (CX:CXT) (outer:List Env) (P:Program) (w:World) (H:Hp) (s:Shared) (Q:VK) (E:XK) (r:Result) (s':Shared):Prop:=
 match r with
 | .ok (.ret u)=>CE outer P w H s Q u s'
 | .ok _=>False
 | .error e=>CX outer H s E e s'
structure FnOk (P:Program) (w:World) (K:PySem.W.Frag) (mg:Str->Option Value) (base:Heap) (CX:CXT) (k:Nat) (f:Addr) (fd:FuncData) (ps:List Str) (sp:Sp):Prop where
 len:∀vs H Q E,sp vs H Q E->vs.length=ps.length
 run:∀(A:Around) (outer:List Env) (s:Shared) (H:Hp) (args:Args) (us:List Value) (vs:List V) (Q:VK) (E:XK),Room k A->Env0 P w K mg base A outer s H->BindsTo s fd args (ps.zip us)->Vals vs us->sp vs H Q E->
  codeAny (model P w) A (.call (.ref f) args) (CR CX outer P w H s Q E) s
theorem FnOk.imp {P:Program} {w:World} {K:PySem.W.Frag} {mg:Str->Option Value} {base:Heap} {CX:CXT} {k:Nat} {f:Addr} {fd:FuncData} {ps:List Str} {sp sp':Sp} (F:FnOk P w K mg base CX k f fd ps sp)
  (h:∀vs H Q E,sp' vs H Q E->sp vs H Q E):FnOk P w K mg base CX k f fd ps sp':=
 ⟨λvs H Q E q=>F.len vs H Q E (h _ _ _ _ q),λA outer s H args us vs Q E hr he hb hv hs=>F.run A outer s H args us vs Q E hr he hb hv (h _ _ _ _ hs)⟩
section
variable {X:Cx} {pins:List (Addr×Obj)} {σ:St} {H:Hp} {s s':Shared}
theorem Inv.env0 (I:Inv X pins σ H s):Env0 X.prog X.w X.K X.mg X.base X.A X.stack s H:=
 ⟨I.ok.frames,I.ok.mod,I.bs,Nat.le_trans I.ok.bsz I.sz,I.stack,I.stkFree,I.hok,I.bare⟩
theorem Inv.after {Q:VK} {u:Value} (I:Inv X pins σ H s) (h:CE X.stack X.prog X.w H s Q u s'):EP X pins σ Q u s':=by
 obtain ⟨v,H',os,bare,un,hok,r,q⟩:=h
 obtain ⟨hh,g,d,t,os'⟩:=s'
 obtain rfl:os'=s.os:=os
 exact ⟨v,H',I.call (h':=hh) (g':=g) (d':=d) (t':=t) (ch:=[]) un hok bare (λb z=>absurd z (by simp)),r,q⟩
end
def qr5_ (sp:Sp) (dvs:List V) (E:XK) (t:TA):TE:=λσ H Q=>t σ H λvs H1=>sp (vs++dvs) H1 Q E
def Binds (K:PySem.W.Frag) (fd:FuncData) (ps:List Str) (ds:List Value):Prop:=
 ∀(s:Shared) (us:List Value),K.In s.heap->(us++ds).length=ps.length->BindsTo s fd ⟨us,[]⟩ (ps.zip (us++ds))
theorem Binds.all {K:PySem.W.Frag} {fd:FuncData} {ps:List Str} (h:∀us:List Value,us.length=ps.length->bindArgs fd ⟨us,[]⟩=pure (ps.zip us)):Binds K fd ps []:=λs us _ hl=>by
 rw [List.append_nil] at hl ⊢
 exact .of_eq (h us hl)
def qjr_ (CX:CXT) (X:Cx) (E:XK):Prop:=∀(pins:List (Addr×Obj)) (σ:St) (H:Hp) (s:Shared) (e:Value) (s':Shared),Inv X pins σ H s->CX X.stack H s E e s'->X.xe e s'
section
variable {X:Cx} {CX:CXT} {k:Nat} {f C:Addr} {fd:FuncData} {ps:List Str} {sp:Sp} {dvs:List V} {ds:List Value} {E:XK} {x m:Str} {p pos apos:Pos} {e o:Expr} {es:List Expr} {ta:TE} {t:TA}
theorem qsi_ {pins:List (Addr×Obj)} {σ:St} {H:Hp} {s:Shared} {Q:VK} {us:List Value} {vs:List V} (F:FnOk X.prog X.w X.K X.mg X.base CX k f fd ps sp) (hr:Room k X.A) (hb:Binds X.K fd ps ds) (hd:Vals dvs ds) (hx:qjr_ CX X E)
  (I:Inv X pins σ H s) (r:Vals vs us) (h:sp (vs++dvs) H Q E):wpAny (model X.prog X.w) X.A (call (.ref f) us) (EP X pins σ Q) X.xe s:=by
 have r2:Vals (vs++dvs) (us++ds):=r.append hd
 have hl:(us++ds).length=ps.length:=by rw [<-r2.length];exact F.len _ _ _ _ h
 refine wpAny_call (codeAny_mono (F.run X.A X.stack s H ⟨us,[]⟩ (us++ds) (vs++dvs) Q E hr I.env0 (hb s us I.kIn hl) r2 h) λr s' hq=>?_)
 cases r with
 |error e=>exact hx pins σ H s e s' I hq
 |ok fl=>
  cases fl with
  |ret u=>exact I.after hq
  |next=>exact False.elim hq
  |brk=>exact False.elim hq
  |cont=>exact False.elim hq
theorem qpv_ (F:FnOk X.prog X.w X.K X.mg X.base CX k f fd ps sp) (hr:Room k X.A) (hg:Gl X x) (hm:X.mg x=some (.ref f)) (hk:PySem.W.keepIn X.K (.ref f)=true) (hb:Binds X.K fd ps ds) (hd:Vals dvs ds) (hx:qjr_ CX X E)
  (ha:PA X (e::es) t) (hdb:(x==("__debug__":Str))=false:=by decide) (he:starEach (e::es) X.env=(false,eval e X.env)::starEach es X.env:=by rfl) (hpl:(backTo pos (starEach es X.env)).any (·.1)=false:=by rfl):
  PE X (.Call (.Name x p) (e::es) [] pos) (qr5_ sp dvs E t):=by
 intro pins s σ H Q I h
 refine wpAny_Call_Name_kw (qgb_ I hg hm ?_ hdb)
 refine PySem.W.callWith_K (h₀:=X.base) I.ok.mod.kin hk (thn (ha pos pins s σ H _ I h) λus s1 zz72=>e23 zz72 λvs H1 I1 r q=>⟨I1.kIn,?_⟩) he hpl
 exact qsi_ F hr hb hd hx I1 r q
end
section
variable {X:Cx} {CX:CXT} {k:Nat} {f C:Addr} {fd:FuncData} {ps ks:List Str} {sp:Sp} {E:XK} {x m:Str} {p pos apos kpos:Pos} {e o:Expr} {es:List Expr} {kws:List Keyword} {te ta:TE} {t tk:TA} {nm:Option Str}
variable {g:List Value->List Value->List Value} {gV:List V->List V->List V}
end
structure FnScope (N P:List Str) (sc:Scope):Prop where
 kind:sc.kind= .function
 co:sc.isCoroutine=false
 gen:sc.isGenerator=false
 nd:N.Nodup
 pre:N.take P.length=P
 par:∀x∈P,sc.names.lookup x=some .local\/sc.names.lookup x=some .cell
 nofree:∀y∈sc.names,y.2≠ .free
theorem qhv_ {kindOf:Str->Option NameKind} {x:Str}:∀{binds:List (Str×Value)} {m:Str->Option Value},(∀v,(x,v)∉binds)->bindL kindOf binds m x=m x
 |[],_,_=>rfl
 |(n,v)::r,m,h=>by
  unfold bindL
  rw [qhv_ λw hw=>h w (List.mem_cons_of_mem _ hw)]
  split
  ·have:x≠n:=by rintro rfl;exact h v List.mem_cons_self
   simp [this]
  ·rfl
theorem qh3_ {kindOf:Str->Option NameKind} {x:Str}:∀{binds:List (Str×Value)} {m:Str->Option Value},(∀v,(x,v)∉binds)->bindC kindOf binds m x=m x
 |[],_,_=>rfl
 |(n,v)::r,m,h=>by
  unfold bindC
  rw [qh3_ λw hw=>h w (List.mem_cons_of_mem _ hw)]
  split
  ·rfl
  ·have:x≠n:=by rintro rfl;exact h v List.mem_cons_self
   simp [this]
theorem qhx_ {kindOf:Str->Option NameKind} {x:Str} {v:Value}:∀{P:List Str} {vs:List Value} {i:Nat} {m:Str->Option Value},P.Nodup->P[i]?=some x->vs[i]?=some v->kindOf x=some .local->
  bindL kindOf (P.zip vs) m x=some v
 |[],_,_,_,_,h,_,_=>by simp at h
 |_::_,[],_,_,_,_,h,_=>by simp at h
 |p::P,w::vs,0,m,nd,h1,h2,hk=>by
  simp at h1 h2;subst h1;subst h2
  show bindL kindOf ((p,w)::P.zip vs) m p=_
  unfold bindL
  rw [qhv_ λv hv=>(List.nodup_cons.mp nd).1 (List.of_mem_zip hv).1,if_pos hk]
  simp
 |p::P,w::vs,i+1,m,nd,h1,h2,hk=>by
  show bindL kindOf ((p,w)::P.zip vs) m x=_
  unfold bindL
  exact qhx_ (i:=i) (List.nodup_cons.mp nd).2 (by simpa using h1) (by simpa using h2) hk
theorem qh7_ {kindOf:Str->Option NameKind} {x:Str} {v:Value}:∀{P:List Str} {vs:List Value} {i:Nat} {m:Str->Option Value},P.Nodup->P[i]?=some x->vs[i]?=some v->kindOf x≠some .local->
  bindC kindOf (P.zip vs) m x=some v
 |[],_,_,_,_,h,_,_=>by simp at h
 |_::_,[],_,_,_,_,h,_=>by simp at h
 |p::P,w::vs,0,m,nd,h1,h2,hk=>by
  simp at h1 h2;subst h1;subst h2
  show bindC kindOf ((p,w)::P.zip vs) m p=_
  unfold bindC
  rw [qh3_ λv hv=>(List.nodup_cons.mp nd).1 (List.of_mem_zip hv).1,if_neg hk]
  simp
 |p::P,w::vs,i+1,m,nd,h1,h2,hk=>by
  show bindC kindOf ((p,w)::P.zip vs) m x=_
  unfold bindC
  exact qh7_ (i:=i) (List.nodup_cons.mp nd).2 (by simpa using h1) (by simpa using h2) hk
def start (N:List Str) (vs:List V):St:=vs.map some++List.replicate (N.length - vs.length) none
def cxOf (CX:CXT) (P:Program) (w:World) (K:PySem.W.Frag) (mg:Str->Option Value) (base:Heap) (N:List Str) (qual:Str) (scope:Scope) (f:Addr) (cd:Value) (A:Around) (outer:List Env) (s:Shared) (H:Hp) (E:XK):Cx where
 prog:=P
 w:=w
 K:=K
 mg:=mg
 base:=base
 A:=A.deeper (envOfC qual scope s.heap.objs.size f cd)
 N:=N
 s₀:=s
 H₀:=H
 env:=envOfC qual scope s.heap.objs.size f cd
 outer:=outer
 stack:=envOfC qual scope s.heap.objs.size f cd::outer
 ex:=[]
 calm:=true
 fn:=λ_=>true
 pn:=[]
 xe:=λe s'=>wpAny (model P w) (A.deeper (envOfC qual scope s.heap.objs.size f cd)) (leaving (envOfC qual scope s.heap.objs.size f cd) e) (λ_ s''=>CX outer H s E e s'') (λe' s''=>CX outer H s E e' s'') s'
theorem qjz_ {sc:Scope} {n:Nat} {x:Str} (h:sc.names.lookup x=some .cell):∃c,(cellsFrom n sc.names []).lookup x=some c:=by
 have q:=PySem.W.cellsFrom_some sc.names n [] (.inl h)
 exact Option.isSome_iff_exists.mp q
theorem qmd_ {CX:CXT} {P:Program} {w:World} {K:PySem.W.Frag} {mg:Str->Option Value} {base:Heap} {N ps:List Str} {qual:Str} {scope:Scope} {f:Addr} {cd:Value} {A:Around} {outer:List Env} {s s1:Shared} {H:Hp} {E:XK} {us:List Value} {vs:List V}
  (S:FnScope N ps scope) (hd:A.handled=none) (e0:Env0 P w K mg base A outer s H) (hl:vs.length=ps.length) (r:Vals vs us)
  (x:InCallC s s.heap.objs.size (bindL (envOfC qual scope s.heap.objs.size f cd).kindOf (ps.zip us) λ_=>none) (cellsFrom (s.heap.objs.size+1) scope.names []) (bindC (envOfC qual scope s.heap.objs.size f cd).kindOf (ps.zip us) λ_=>none) s1):
  Inv (cxOf CX P w K mg base N qual scope f cd A outer s H E) [] (start N vs) H s1:=by
 have hpl:ps.length<=N.length:=by have:=congrArg List.length S.pre;rw [List.length_take] at this;omega
 obtain ⟨h1,tk,rfl,hk⟩:=x.done
 have noA:∀b:Addr,b∉(cxOf CX P w K mg base N qual scope f cd A outer s H E).ex:=λb z=>absurd (show b∈([]:List Addr) from z) (by simp)
 refine ⟨⟨e0.mod,S.kind,rfl,rfl,Nat.le_refl _,λy z c h1 h2=>?_,λy hy=>?_,λy c _ h=>?_,λ_=>hd,Around.frames_deeper e0.frames,.inr ⟨rfl,rfl⟩,λb z=>absurd z (noA b),e0.bs,e0.bsz,λb _ _=>noA b,λb z=>absurd z (noA b),e0.funs,e0.frf⟩,
  rfl,e0.bare,Un.kept hk,⟨_,x.toInCall.ns,λi y v h1 h2 h3=>?_⟩,λy c h=>⟨_,x.cell y c h⟩,e0.hok.fresh (Nat.le_refl _),λy c h=>?_,λp hp=>absurd (show p∈([]:List (Addr×Obj)) from hp) (by simp),e0.hok.kept hk,?_⟩
 ·exact name_of_addr x.apart (PySem.mem_of_lookup h1) (PySem.mem_of_lookup h2)
 ·have hy:scope.names.lookup y=some .cell\/scope.names.lookup y=some .free:=hy
  rcases hy with hy|hy
  ·exact qjz_ hy
  ·exact absurd rfl (S.nofree _ (PySem.mem_of_lookup hy))
 ·exact Nat.le_of_lt (x.above y c (PySem.mem_of_lookup h))
 ·have hi:i<vs.length:=by
   unfold start at h2
   by_cases hi:i<vs.length
   ·exact hi
   ·rw [List.getElem?_append_right (by simpa using hi)] at h2
    rw [List.getElem?_replicate] at h2
    split at h2<;>cases h2
  have ha:vs[i]?=some v:=by
   unfold start at h2
   rw [List.getElem?_append_left (by simpa using hi),List.getElem?_map] at h2
   cases e:vs[i]? with
   |none=>rw [e] at h2;cases h2
   |some a=>rw [e] at h2;cases h2;rfl
  obtain ⟨u,hu,rv⟩:=r.get ha
  have hp:ps[i]?=some y:=by
   rw [<-S.pre,List.getElem?_take_of_lt (by omega)];exact h1
  have ndP:ps.Nodup:=by rw [<-S.pre];exact S.nd.sublist (List.take_sublist _ _)
  refine ⟨u,rv,?_⟩
  rcases S.par y (List.mem_of_getElem? hp) with k|k
  ·exact .inl ⟨k,qhx_ ndP hp hu k⟩
  ·obtain ⟨c,e⟩:=qjz_ (n:=s.heap.objs.size+1) k
   refine .inr ⟨.inl k,c,e,?_⟩
   have q:=x.cell y c e
   rw [qh7_ ndP hp hu (by show scope.names.lookup y≠_;rw [k];decide)] at q
   exact q
 ·exact e0.hok.fresh (Nat.le_of_lt (x.above y c (PySem.mem_of_lookup h)))
 ·unfold start
  show _=N.length
  rw [List.length_append,List.length_map,List.length_replicate]
  omega
theorem qtj_ {CX:CXT} {P:Program} {w:World} {K:PySem.W.Frag} {mg:Str->Option Value} {base:Heap} {k:Nat} {f:Addr} {name qual:Str} {params:Arguments} {body:List Stmt} {scope:Scope} {dV kV doc pm cdv ct oc:Value} {an od:Option Addr}
  {osl:Array (Option Value)} {N ps:List Str} {sp:Sp} (lk:K.lookup f=some ⟨oc,od,.func (PySem.W.fnOf name qual params body scope dV kV doc pm an cdv ct),osl⟩) (hcd:PySem.W.codeIn K cdv qual=true) (S:FnScope N ps scope)
  (len:∀vs H Q E,sp vs H Q E->vs.length=ps.length)
  (hbody:∀(A:Around) (outer:List Env) (s:Shared) (H:Hp) (vs:List V) (Q:VK) (E:XK),Room k (A.deeper (envOfC qual scope s.heap.objs.size f cdv))->sp vs H Q E->
   ∃t,PSs (cxOf CX P w K mg base N qual scope f cdv A outer s H E) body t/\t {nx:=λ_ H'=>Q .non H',rt:=Q} (start N vs) H):
  FnOk P w K mg base CX (k+1) f (PySem.W.fnOf name qual params body scope dV kV doc pm an cdv ct) ps sp:=by
 refine ⟨len,λA outer s H args us vs Q E hr e0 hb r hsp=>?_⟩
 have hl:=len _ _ _ _ hsp
 have KX:K.In s.heap:=e0.mod.kin.keeps λb o e=>(e0.bs b o e).1
 have lim:s.heap.NoLimit:=e0.mod.nolimit.keeps λb o e=>(e0.bs b o e).1
 have hkind:∀y∈ps.zip us,scope.names.lookup y.1=some .local\/(scope.names.lookup y.1=some .cell/\((cellsFrom (s.heap.objs.size+1) scope.names []).lookup y.1).isSome=true):=λ⟨n,v⟩ hy=>by
  rcases S.par n (List.of_mem_zip hy).1 with q|q
  ·exact .inl q
  ·exact .inr ⟨q,PySem.W.cellsFrom_some _ _ _ (.inl q)⟩
 refine codeAny_call_function hr.depth (KX _ _ lk) rfl S.co S.gen rfl (PySem.W.codeRec_of KX hcd) (hb _ _ _ _ ?_)
 refine wpAny_newFunctionEnv_cells S.kind hkind λenv he s1 x=>?_
 subst he
 refine ⟨lim.keeps x.toInCall.keep,codeAny_func ?_⟩
 obtain ⟨t,ht,hq⟩:=hbody A outer s H vs Q E (hr.deeper _) hsp
 have I:Inv (cxOf CX P w K mg base N qual scope f cdv A outer s H E) [] (start N vs) H s1:=qmd_ S hr.hd e0 hl r x
 refine wpAny_mono (ht [] s1 (start N vs) H _ I hq) (λfl s' hs=>?_) λe s' hs=>hs
 have fin:∀{σ':St} {H':Hp} {v:V} {u:Value},Inv (cxOf CX P w K mg base N qual scope f cdv A outer s H E) [] σ' H' s'->RelV v u->Q v H'->CE outer P w H s Q u s':=
  λ{σ' H' v u} J rv q=>⟨v,H',J.os,J.bare,J.base,J.hok,rv,q⟩
 cases fl with
 |ret u=>
  obtain ⟨v,σ',H',J,rv,q⟩:=hs
  exact fin J rv q
 |next=>
  obtain ⟨σ',H',J,q⟩:=hs
  exact fin (v:=V.non) (u:=Value.none) J rfl q
 |brk=>
  obtain ⟨_,_,_,q⟩:=hs
  exact False.elim q
 |cont=>
  obtain ⟨_,_,_,q⟩:=hs
  exact False.elim q
end L2
namespace L2
open PySem PySem.Spec PyProof.Rows
section
variable {X:Cx} {x:Str} {p pos:Pos} {e:Expr} {es:List Expr} {t:TA} {id T:String} {r:List V->Hp->VK->Prop}
def tCB (r:List V->Hp->VK->Prop) (t:TA):TE:=λσ H Q=>t σ H λvs H1=>r vs H1 Q
theorem qfb_ (hc:qev_ X (.builtin id) r) (hg:Gl X x) (hm:X.mg x=none) (hv:bootBuiltins x=some (.builtin id)) (ha:PA X (e::es) t) (hn:x≠"__name__":=by decide) (hdb:(x==("__debug__":Str))=false:=by decide)
  (he:starEach (e::es) X.env=(false,eval e X.env)::starEach es X.env:=by rfl) (hpl:(backTo pos (starEach es X.env)).any (·.1)=false:=by rfl):PE X (.Call (.Name x p) (e::es) [] pos) (tCB r t):=by
 intro pins s σ H Q I h
 refine wpAny_Call_Name_kw (qde_ I hg hm hv ?_ hn hdb)
 exact PyProof.Rows.callWith_builtin1 (thn (ha pos pins s σ H _ I h) λus s1 zz81=>e23 zz81 λvs H1 I1 r1 q1=>hc pins s1 σ H1 vs us Q I1 r1 q1) he hpl
theorem qhm_ (hc:qev_ X (.type T) r) (hg:Gl X x) (hm:X.mg x=none) (hv:bootBuiltins x=some (.type T)) (ha:PA X (e::es) t) (hn:x≠"__name__":=by decide) (hdb:(x==("__debug__":Str))=false:=by decide)
  (he:starEach (e::es) X.env=(false,eval e X.env)::starEach es X.env:=by rfl) (hpl:(backTo pos (starEach es X.env)).any (·.1)=false:=by rfl):PE X (.Call (.Name x p) (e::es) [] pos) (tCB r t):=by
 intro pins s σ H Q I h
 refine wpAny_Call_Name_kw (qde_ I hg hm hv ?_ hn hdb)
 exact PyProof.Rows.callWith_type1 (thn (ha pos pins s σ H _ I h) λus s1 zz82=>e23 zz82 λvs H1 I1 r1 q1=>hc pins s1 σ H1 vs us Q I1 r1 q1) he hpl
end
end L2
namespace HT
open PySem PyProof.Rows
section
open PySem.SeqAt
open PySem.AutoSeq1 (wpAny_loadPart')
open PySem.MeetsSeq PySem.MeetsSeq2 PySem.MeetsSeq3
end
section
variable {prog:Program} {w:World} {A:Around} {E:Value->Shared->Prop} {s:Shared}
def sIx (n d:Nat):Option Int->Nat
 |none=>d
 |some v=>if v<0 then (v+(n:Int)).toNat else min v.toNat n
end
end HT
namespace L2
open PySem PySem.Spec PyProof.Rows
abbrev TO:=St->Hp->(Option Int->Hp->Prop)->Prop
def PO (X:Cx) (e:Option Expr) (t:TO):Prop:=
 ∀(pins:List (Addr×Obj)) (s:Shared) (σ:St) (H:Hp) (Q:Option Int->Hp->Prop),Inv X pins σ H s->t σ H Q->
  wpAny (model X.prog X.w) X.A (evalPart e X.env) (λu s'=>∃o H',Inv X pins σ H' s'/\IsPart u o/\Q o H') X.xe s
def qq7_:TO:=λ_ H Q=>Q none H
def qv1_ (t:TE):TO:=λσ H Q=>t σ H λx H1=>∃i,x= .int i/\Q (some i) H1
section
variable {X:Cx} {e:Expr} {te:TE} {lo hi:Option Expr} {tl th:TO} {pos p2:Pos}
theorem qqf_:PO X none qq7_:=by
 intro pins s σ H Q I h
 rw [evalPart_none]
 exact wpAny_pure ⟨none,H,I,.none,h⟩
theorem qp6_ (h:PE X e te):PO X (some e) (qv1_ te):=by
 intro pins s σ H Q I hw
 rw [evalPart_some]
 refine thn (h pins s σ H _ I hw) λu s1 zz83=>e23 zz83 λx H1 I1 r1 q1=>?_
 obtain ⟨i,rfl,q⟩:=q1
 obtain ⟨t,rfl⟩:=r1
 exact ⟨some i,H1,I1,.int i t,q⟩
def SlR (X:Cx) (r:V->Option Int->Option Int->Hp->VK->Prop):Prop:=
 ∀(pins:List (Addr×Obj)) (s:Shared) (σ:St) (H:Hp) (x:V) (v vl vu:Value) (lo hi:Option Int) (sl:Addr) (Q:VK),Inv X pins σ H s->RelV x v->s.heap.IsSliceOf sl vl vu .none->IsPart vl lo->IsPart vu hi->r x lo hi H Q->
  ∃T id,typeLookup (.type T) "__getitem__"=pure (some (.builtin id))/\s.TypeIs v T/\wpAny (model X.prog X.w) X.A (getItem v (.ref sl)) (EP X pins σ Q) X.xe s
def tSl (r:V->Option Int->Option Int->Hp->VK->Prop) (te:TE) (tl th:TO):TE:=λσ H Q=>te σ H λx H1=>tl σ H1 λl H2=>th σ H2 λu H3=>r x l u H3 Q
theorem qox_ {r:V->Option Int->Option Int->Hp->VK->Prop} (hr:SlR X r) (he:PE X e te) (hl:PO X lo tl) (hu:PO X hi th):PE X (.Subscript e (.Slice lo hi none p2) pos) (tSl r te tl th):=by
 intro pins s σ H Q I h
 refine Subscript_ (thn (he pins s σ H _ I h) λv s1 zz84=>e23 zz84 λx H1 I1 r1 q1=>?_)
 refine wpAny_Slice (thn (hl pins s1 σ H1 _ I1 q1) λvl s2 zz85=>e23 zz85 λl H2 I2 pl q2=>thn (hu pins s2 σ H2 _ I2 q2) λvu s3 zz86=>e23 zz86 λu H3 I3 pu q3=>?_)
 rw [evalPart_none]
 refine wpAny_pure ?_
 have I4:Inv X pins σ H3 {s3 with heap:=s3.heap.push {cls:= .type "slice",data:= .fields #[vl,vu,.none]}}:=I3.kept (t':=s3.toks) λb ob q=>Heap.get?_push_of_some _ q
 obtain ⟨T,id,hT,ht,hg⟩:=hr pins {s3 with heap:=s3.heap.push {cls:= .type "slice",data:= .fields #[vl,vu,.none]}} σ H3 x v vl vu l u s3.heap.objs.size Q I4 r1 (Heap.IsSliceOf.new ..) pl pu q3
 show wpAny (model X.prog X.w) X.A (subscriptTail e (.Slice lo hi none p2) v (.ref s3.heap.objs.size)) (EP X pins σ Q) X.xe {s3 with heap:=s3.heap.push {cls:= .type "slice",data:= .fields #[vl,vu,.none]}}
 exact tail_any (ops:=[.ref s3.heap.objs.size,v]) ht hT hg (by with_unfolding_all rfl)
def cutV (xs:List V) (lo hi:Option Int):List V:=(xs.drop (HT.sIx xs.length 0 lo)).take (HT.sIx xs.length xs.length hi - HT.sIx xs.length 0 lo)
theorem qij_ (xs:List V) (lo hi:Option Int):(cutV xs lo hi).length<=xs.length:=by
 unfold cutV
 rw [List.length_take,List.length_drop]
 omega
end
end L2
namespace L2
open PySem PySem.Spec PyProof.Rows
def ixN (n:Nat) (i:Int):Option Nat:=if 0<=i then (if i<n then some i.toNat else none) else if -(n:Int)<=i then some (i+n).toNat else none
def atI {α:Type} (xs:List α) (i:Int):Option α:=(ixN xs.length i).bind λj=>xs[j]?
theorem qk8_ {n:Nat} {i:Int} {j:Nat} (h:ixN n i=some j):seqIndex? i n=some j/\j<n/\ -(n:Int)<=i/\i<n:=by
 unfold ixN at h
 by_cases h0:0<=i
 ·rw [if_pos h0] at h
  by_cases h1:i<n
  ·rw [if_pos h1] at h
   have e:i.toNat=j:=Option.some.inj h
   exact ⟨by rw [seqIndex_of h0 h1,e],by omega,by omega,h1⟩
  ·rw [if_neg h1] at h;cases h
 ·rw [if_neg h0] at h
  by_cases h1: -(n:Int)<=i
  ·rw [if_pos h1] at h
   have e:(i+n).toNat=j:=Option.some.inj h
   exact ⟨by rw [seqIndex_neg (by omega) h1,e],by omega,h1,by omega⟩
  ·rw [if_neg h1] at h;cases h
theorem qit_ {α:Type} {xs:List α} {i:Int} {v:α} (h:atI xs i=some v):∃j,seqIndex? i xs.length=some j/\xs[j]?=some v/\j<xs.length/\ -(xs.length:Int)<=i/\i<xs.length:=by
 unfold atI at h
 cases e:ixN xs.length i with
 |none=>rw [e] at h;cases h
 |some j=>
  rw [e] at h
  obtain ⟨h1,h2,h3,h4⟩:=qk8_ e
  exact ⟨j,h1,h,h2,h3,h4⟩
def qfu_ (b:Expr):Prop:=∀o i,subscripted b false o i=operate [o,i] (getItem o i)
def IxR (X:Cx) (r:R2):Prop:=
 ∀(value slice:Expr) (pins:List (Addr×Obj)) (s:Shared) (σ:St) (H:Hp) (x y:V) (v u:Value) (Q:VK),Inv X pins σ H s->RelV x v->RelV y u->r x y H Q->
  subscripted slice false v u=operate [v,u] (getItem v u)->wpAny (model X.prog X.w) X.A (subscriptTail value slice v u) (EP X pins σ Q) X.xe s
def MtR (X:Cx) (id:String) (r:V->List V->Hp->VK->Prop):Prop:=
 ∀(pins:List (Addr×Obj)) (s:Shared) (σ:St) (H:Hp) (x:V) (xs:List V) (v:Value) (us:List Value) (Q:VK),Inv X pins σ H s->RelV x v->Vals xs us->r x xs H Q->
  wpAny (model X.prog X.w) X.A (call (.builtin id) (v::us)) (EP X pins σ Q) X.xe s
section
variable {X:Cx} {a b:Expr} {ta tb:TE} {pos:Pos}
theorem IxR.or {r r':R2} (h:IxR X r) (h':IxR X r'):IxR X (λx y H Q=>r x y H Q\/r' x y H Q):=by
 intro value slice pins s σ H x y v u Q I rx ry q hs
 rcases q with q|q
 ·exact h value slice pins s σ H x y v u Q I rx ry q hs
 ·exact h' value slice pins s σ H x y v u Q I rx ry q hs
theorem qoc_ {r:R2} (hr:IxR X r) (ha:PE X a ta) (hb:PE X b tb) (hs:qfu_ b):PE X (.Subscript a b pos) (tOp r ta tb):=by
 intro pins s σ H Q I h
 exact Subscript_ (binT ha hb I h λv u s2 x y H2 I2 rx ry q=>hr a b pins s2 σ H2 x y v u Q I2 rx ry q (hs _ _))
def rIxL (K:PySem.W.Frag):R2:=λx y H Q=>∃p xs i v,x= .ref p/\y= .int i/\SqL K H p xs/\atI xs i=some v/\Q v H
def rIxT (K:PySem.W.Frag):R2:=λx y H Q=>∃p xs i v,x= .ref p/\y= .int i/\SqT K H p xs/\atI xs i=some v/\Q v H
def rIxS:R2:=λx y H Q=>∃z i c,x= .str z/\y= .int i/\z.length<=sizeLine/\atI z.cps.toList i=some c/\Q (.str ⟨#[c]⟩) H
theorem ix_list:IxR X (rIxL X.K):=by
 intro value slice pins s σ H x y v u Q I rx ry h hs
 obtain ⟨p,xs,i,z,rfl,rfl,hq,he,q⟩:=h
 cases rx
 obtain ⟨t,rfl⟩:=ry
 obtain ⟨its,r,pl,hz⟩:=I.list hq
 obtain ⟨j,h1,h2,h3,h4,h5⟩:=qit_ he
 obtain ⟨w,ew,rw'⟩:=r.get h2
 have hl:=r.length
 have hn:=qhq_
 have fin:EP X pins σ Q w s:=⟨z,H,I,rw',q⟩
 by_cases h0:0<=i
 ·have hj:i.toNat=j:=by
   rw [seqIndex_of h0 h5] at h1
   exact Option.some.inj h1
  exact item_listR pl.isList h0 (by omega) (by rw [hj];simpa using ew) fin hs
 ·have hj:(i+(its.toArray.size:Int)).toNat=j:=by
   rw [seqIndex_neg (by omega) h4] at h1
   rw [List.size_toArray,<-hl]
   exact Option.some.inj h1
  exact subscriptTail_builtinR (x:=w) pl.isList.typeIs slot_list_getitem.lookup
   (wpAny_getItem_list_neg (Q:=λr s'=>r=w/\EP X pins σ Q r s') pl.isList (by omega) (by rw [List.size_toArray]<;>omega) (by omega) (by rw [hj];simpa using ew) ⟨rfl,fin⟩) hs
theorem ix_tup:IxR X (rIxT X.K):=by
 intro value slice pins s σ H x y v u Q I rx ry h hs
 obtain ⟨p,xs,i,z,rfl,rfl,hq,he,q⟩:=h
 cases rx
 obtain ⟨t,rfl⟩:=ry
 obtain ⟨its,r,pl,hz⟩:=I.tuple hq
 obtain ⟨j,h1,h2,h3,h4,h5⟩:=qit_ he
 obtain ⟨w,ew,rw'⟩:=r.get h2
 have hl:=r.length
 have hn:=qhq_
 have fin:EP X pins σ Q w s:=⟨z,H,I,rw',q⟩
 exact subscriptTail_builtinR (x:=w) pl.typeIs slot_tuple_getitem.lookup
  (getItem_tuple (j:=j) (Q:=λr s'=>r=w/\EP X pins σ Q r s') pl (by omega) (by omega) (by rw [List.size_toArray,<-hl];exact h1) (by simpa using ew) ⟨rfl,fin⟩) hs
theorem qsg_:IxR X rIxS:=by
 intro value slice pins s σ H x y v u Q I rx ry h hs
 obtain ⟨z,i,c,rfl,rfl,hz,he,q⟩:=h
 obtain ⟨t,rfl⟩:=rx
 obtain ⟨t',rfl⟩:=ry
 obtain ⟨j,h1,h2,h3,h4,h5⟩:=qit_ he
 have hl:z.cps.toList.length=z.length:=by simp [Str.length]
 rw [hl] at h1 h4 h5
 have hn:=qhq_
 exact tail_any (typeIs_str s z t) slot_str_getitem.lookup (getItem_str (c:=c) (by
  have e1:decide (i< -(2 ^ 63:Int))=false:=decide_eq_false (by omega)
  have e2:decide (i≥2 ^ 63)=false:=decide_eq_false (by omega)
  rw [e1,e2,Bool.or_false]) (by rw [h1];simpa using h2) ⟨.str ⟨#[c]⟩,H,I.tok _,⟨_,rfl⟩,q⟩) hs
def rIx (K:PySem.W.Frag):R2:=λx y H Q=>rIxL K x y H Q\/rIxT K x y H Q\/rIxS x y H Q
theorem qjq_:IxR X (rIx X.K):=ix_list.or (ix_tup.or qsg_)
theorem qkj_ (its:List Value) (n j:Nat) (u:Value):Obj.mapSeq (·.setIfInBounds j u) {cls:= .type "list",data:= .seq its.toArray n}={cls:= .type "list",data:= .seq (its.set j u).toArray n}:=by
 simp [Obj.mapSeq]
theorem Inv.lst {pins:List (Addr×Obj)} {σ:St} {H:Hp} {s:Shared} {p:Addr} {xs:List V} (I:Inv X pins σ H s) (h:H p=some (.lst xs)):
  ∃(its:List Value) (n:Nat),Vals xs its/\s.heap.get? p=some {cls:= .type "list",data:= .seq its.toArray n}/\xs.length<=sizeLine:=by
 obtain ⟨z,its,n,r,e⟩:=I.hok p _ h
 exact ⟨its,n,r,e,z⟩
theorem Inv.lstUpd {pins:List (Addr×Obj)} {σ:St} {H:Hp} {s:Shared} {p:Addr} {xs ys:List V} {its its':List Value} {n n':Nat} {f:Obj->Obj} (I:Inv X pins σ H s) (h:H p=some (.lst xs))
  (ho:s.heap.get? p=some {cls:= .type "list",data:= .seq its.toArray n}) (hf:f {cls:= .type "list",data:= .seq its.toArray n}={cls:= .type "list",data:= .seq its'.toArray n'}) (r:Vals ys its') (hz:ys.length<=sizeLine) (t:Nat):
  Inv X pins σ (upd H p (.lst ys)) {s with heap:=s.heap.update p f,toks:=t}:=by
 have e:(s.heap.update p f).get? p=some {cls:= .type "list",data:= .seq its'.toArray n'}:=by
  rw [Heap.get?_update_self f ho (by rw [hf]<;>rfl),hf]
 refine I.write (x:=p) (e:=p) (by rw [h];trivial) (.inl rfl) (λb u hb q=>(Heap.get?_update_other _ _ (Ne.symm hb)).trans q) ⟨_,e⟩ ?_
 exact ⟨hz,its',n',r,e⟩
def quf_:V->V->V->Hp->(Hp->Prop)->Prop:=λo i v H Q=>∃p xs k j,o= .ref p/\i= .int k/\H p=some (.lst xs)/\ixN xs.length k=some j/\Q (upd H p (.lst (xs.set j v)))
theorem qjx_:PSet X quf_:=by
 intro pins s σ H o i v ov iv u Q I ro ri rv h
 obtain ⟨p,xs,k,j,rfl,rfl,hp,hj,q⟩:=h
 cases ro
 obtain ⟨t,rfl⟩:=ri
 obtain ⟨its,n,r,ho,hz⟩:=I.lst hp
 obtain ⟨h1,h2,h3,h4⟩:=qk8_ hj
 have hl:=r.length
 have hn:=qhq_
 have I':Inv X pins σ (upd H p (.lst (xs.set j v))) {s with heap:=s.heap.update p (Obj.mapSeq (·.setIfInBounds j u))}:=
  I.lstUpd hp ho (qkj_ its n j u) (r.set rv j) (by rw [List.length_set];exact hz) s.toks
 by_cases h0:0<=k
 ·have hk:k.toNat=j:=by
   rw [seqIndex_of h0 h4] at h1
   exact Option.some.inj h1
  exact PySem.W.ki_setAt ho h0 (by omega) (by rw [List.size_toArray,<-hl];exact h4) (by rw [hk];exact ⟨_,I',q⟩)
 ·have hk:(k+(its.toArray.size:Int)).toNat=j:=by
   rw [seqIndex_neg (by omega) h3] at h1
   rw [List.size_toArray,<-hl]
   exact Option.some.inj h1
  exact PySem.W.ki_setBack ho (by omega) (by rw [List.size_toArray,<-hl];exact h3) (by omega) (by rw [hk];exact ⟨_,I',q⟩)
theorem qh9_ (lo hi:Option Int) (n:Nat):(sliceBounds lo hi none n).1=((HT.sIx n 0 lo:Nat):Int)/\(sliceBounds lo hi none n).2.1=((HT.sIx n n hi:Nat):Int)/\(sliceBounds lo hi none n).2.2=1:=by
 refine ⟨?_,?_,rfl⟩
 ·cases lo with
  |none=>simp [sliceBounds,HT.sIx]
  |some i=>
   simp only [sliceBounds,HT.sIx,Option.getD_none,show (1:Int)>0 by decide,if_true]
   by_cases h:i<0
   ·simp only [h,if_true]<;>omega
   ·simp only [h,if_false]<;>omega
 ·cases hi with
  |none=>simp [sliceBounds,HT.sIx]
  |some i=>
   simp only [sliceBounds,HT.sIx,Option.getD_none,show (1:Int)>0 by decide,if_true]
   by_cases h:i<0
   ·simp only [h,if_true]<;>omega
   ·simp only [h,if_false]<;>omega
theorem qg6_ (its:List Value) (lo hi:Option Int):slicePick its.toArray lo hi none=((its.drop (HT.sIx its.length 0 lo)).take (HT.sIx its.length its.length hi - HT.sIx its.length 0 lo)).toArray:=by
 obtain ⟨h1,h2,h3⟩:=qh9_ lo hi its.toArray.size
 unfold slicePick
 rw [h1,h2,h3]
 simp only [sliceRange_one,pick_run,List.size_toArray]<;>rfl
def rSlL (K:PySem.W.Frag):V->Option Int->Option Int->Hp->VK->Prop:=λx lo hi H Q=>∃a xs,x= .ref a/\SqL K H a xs/\∀p,H p=none->Q (.ref p) (upd H p (.lst (cutV xs lo hi)))
theorem qrj_:SlR X (rSlL X.K):=by
 intro pins s σ H x v vl vu lo hi sl Q I rx hs pl pu h
 obtain ⟨a,xs,rfl,hx,q⟩:=h
 cases rx
 obtain ⟨its,r,ht,hz⟩:=I.list hx
 have hlen:=r.length
 refine ⟨"list",_,slot_list_getitem.lookup,ht.isList.typeIs,?_⟩
 refine wpAny_getItem_list_slice ht.isList hs pl pu .none (by simp) ?_ (by rw [List.size_toArray]<;>omega)
 rw [qg6_,<-hlen]
 refine ⟨.ref s.heap.objs.size,_,I.laid (t':=s.toks) (o:= .lst (cutV xs lo hi)) (λb ob q=>Heap.get?_push_of_some _ q) (Nat.le_refl _) ?_,rfl,q _ (I.hok.fresh (Nat.le_refl _))⟩
 exact ⟨Nat.le_trans (qij_ xs lo hi) hz,_,0,(r.drop (HT.sIx xs.length 0 lo)).take (HT.sIx xs.length xs.length hi - HT.sIx xs.length 0 lo),Heap.get?_push_size _ rfl⟩
theorem qdn_:qev_ X (.builtin "len") (λxs H Q=>∃p ys,xs=[.ref p]/\(SqL X.K H p ys\/SqT X.K H p ys)/\Q (.int ys.length) H):=by
 intro pins s σ H xs us Q I r h
 obtain ⟨p,ys,rfl,hq,q⟩:=h
 obtain ⟨u,rfl,rx⟩:=qgw_ r
 cases rx
 have hn:=qhq_
 rcases hq with hq|hq
 ·obtain ⟨its,r',pl,hz⟩:=I.list hq
  have hlen:=r'.length
  exact Calls.call_len_list pl.isList (by simp only [List.size_toArray]<;>omega) ⟨.int ys.length,H,I.tok _,⟨s.toks+1,by rw [List.size_toArray,hlen]⟩,q⟩
 ·obtain ⟨its,r',pl,hz⟩:=I.tuple hq
  have hlen:=r'.length
  exact len_tuple pl (by simp only [List.size_toArray]<;>omega) ⟨.int ys.length,H,I.tok _,⟨s.toks+1,by rw [List.size_toArray,hlen]⟩,q⟩
theorem qhz_:qev_ X (.type "list") (λxs H Q=>∃p ys,xs=[.ref p]/\(SqL X.K H p ys\/SqT X.K H p ys)/\∀l,H l=none->Q (.ref l) (upd H l (.lst ys))):=by
 intro pins s σ H xs us Q I r h
 obtain ⟨p,ys,rfl,hq,q⟩:=h
 obtain ⟨u,rfl,rx⟩:=qgw_ r
 cases rx
 have fin:∀(its:List Value),Vals ys its->ys.length<=sizeLine->∀(h':Heap) (c':Nat),(∀b o',s.heap.get? b=some o'->h'.get? b=some o')->
   h'.get? s.heap.objs.size=some {cls:= .type "list",dict:=none,data:= .seq its.toArray c',slots:= #[]}->EP X pins σ Q (.ref s.heap.objs.size) {s with heap:=h'}:=λits r' hz h' c' kp e=>
  ⟨.ref s.heap.objs.size,_,I.laid (t':=s.toks) kp (Nat.le_refl _) (show ObjOk X.prog X.w _ h' _ (.lst ys) from ⟨hz,its,c',r',e⟩),rfl,q _ (I.hok.fresh (Nat.le_refl _))⟩
 rcases hq with hq|hq
 ·obtain ⟨its,r',pl,hz⟩:=I.list hq
  have hlen:=r'.length
  obtain ⟨o,ho,hc,n,hd⟩:=pl.isList
  exact call_list_seq p (.inl rfl) ho hc hd (λh' c' kp e=>fin its r' hz h' c' kp e) (by simp only [List.size_toArray]<;>omega)
 ·obtain ⟨its,r',pl,hz⟩:=I.tuple hq
  have hlen:=r'.length
  obtain ⟨o,ho,hc,n,hd⟩:=pl
  exact call_list_seq p (.inr rfl) ho hc hd (λh' c' kp e=>fin its r' hz h' c' kp e) (by simp only [List.size_toArray]<;>omega)
theorem qhg_:qev_ X (.type "tuple") (λxs H Q=>∃p ys,xs=[.ref p]/\((SqL X.K H p ys/\∀l,H l=none->Q (.ref l) (upd H l (.tup ys)))\/(SqT X.K H p ys/\Q (.ref p) H))):=by
 intro pins s σ H xs us Q I r h
 obtain ⟨p,ys,rfl,h⟩:=h
 obtain ⟨u,rfl,rx⟩:=qgw_ r
 cases rx
 rcases h with ⟨hq,q⟩|⟨hq,q⟩
 ·obtain ⟨its,r',pl,hz⟩:=I.list hq
  have hlen:=r'.length
  refine call_tuple_list pl.isList (λh' kp=>?_) (by simp only [List.size_toArray]<;>omega)
  have I1:Inv X pins σ H {s with heap:=h'}:=I.kept (t':=s.toks) kp
  have I2:Inv X pins σ (upd H h'.objs.size (.tup ys)) {s with heap:=h'.push {cls:= .type "tuple",data:= .seq its.toArray}}:=
   I1.laid (t':=s.toks) (λb o e=>Heap.get?_push_of_some _ e) (Nat.le_refl _) (show ObjOk X.prog X.w _ _ _ (.tup ys) from ⟨hz,its,r',IsTup.new _ _⟩)
  exact ⟨.ref h'.objs.size,_,I2,rfl,q _ (I1.hok.fresh (Nat.le_refl _))⟩
 ·obtain ⟨its,r',pl,hz⟩:=I.tuple hq
  exact call_tuple_same pl ⟨.ref p,H,I,rfl,q⟩
def tyV (K:PySem.W.Frag) (T:String) (x:V) (H:Hp):Prop:=match x with
 | .str _=>T="str"
 | .int _=>T="int"
 | .ref p=>(T="list"/\∃xs,SqL K H p xs)\/(T="tuple"/\∃o,K.lookup p=some o/\o.cls= .type "tuple"/\o.dict=none)\/
   (T="dict"/\((∃kvs,H p=some (.dK kvs))\/∃kvs,H p=some (.dT kvs)))\/(T="set"/\∃S n,H p=some (.set S n))
 |_=>False
theorem qu2_ {pins:List (Addr×Obj)} {σ:St} {H:Hp} {s:Shared} {T:String} {x:V} {v:Value} (I:Inv X pins σ H s) (r:RelV x v) (ty:tyV X.K T x H):
  s.TypeIs v T/\∀a,v= .ref a->∃ob,s.heap.get? a=some ob/\ob.dict=none:=by
 cases x with
 |str z=>
  obtain ⟨t,rfl⟩:=r
  cases (show T="str" from ty)
  exact ⟨typeIs_str s z t,λ_ e=>nomatch e⟩
 |int i=>
  obtain ⟨t,rfl⟩:=r
  cases (show T="int" from ty)
  exact ⟨typeIs_int s i t,λ_ e=>nomatch e⟩
 |ref p=>
  cases r
  rcases ty with ⟨rfl,xs,hq⟩|⟨rfl,o,hk,hc,hd⟩|⟨rfl,hk⟩|⟨rfl,S,n,hk⟩
  ·obtain ⟨its,_,pl,_⟩:=I.list hq
   refine ⟨pl.isList.typeIs,λa e=>?_⟩
   cases e
   obtain ⟨o,n,e,c,hd,_⟩:=pl
   exact ⟨o,e,hd⟩
  ·refine ⟨⟨o,I.kIn p o hk,hc⟩,λa e=>?_⟩
   cases e
   exact ⟨o,I.kIn _ o hk,hd⟩
  ·have z:∃o,s.heap.get? p=some o/\o.ExactDict:=by
    rcases hk with ⟨kvs,hk⟩|⟨kvs,hk⟩
    ·obtain ⟨_,_,_,_,o,_,_,e,ex,_⟩:=I.hok p _ hk
     exact ⟨o,e,ex⟩
    ·obtain ⟨_,_,_,_,o,_,_,e,ex,_⟩:=I.hok p _ hk
     exact ⟨o,e,ex⟩
   obtain ⟨o,e,ex⟩:=z
   refine ⟨⟨o,e,ex.1⟩,λa e2=>?_⟩
   cases e2
   exact ⟨o,e,ex.2.1⟩
  ·obtain ⟨o,_,_,_,e,ex,_⟩:=I.hok p _ hk
   refine ⟨⟨o,e,ex.1⟩,λa e2=>?_⟩
   cases e2
   exact ⟨o,e,ex.2.1⟩
 |_=>exact False.elim ty
def tBM (K:PySem.W.Frag) (T:String) (r:V->List V->Hp->VK->Prop) (to:TE) (t:TA):TE:=λσ H Q=>to σ H λx H1=>tyV K T x H1/\t σ H1 λxs H2=>r x xs H2 Q
variable {o e:Expr} {es:List Expr} {to:TE} {t:TA} {name:Str} {apos cpos:Pos} {T id:String} {r:V->List V->Hp->VK->Prop}
theorem qon_ (pa:PlainAttrs T) (slot:Slot T name id) (hty:typeOf (.builtin id)=pure (.type "method_descriptor")) (hm:MtR X id r) (ho:PE X o to) (ha:PA X (e::es) t)
  (hbase:attributeBase o name X.env (eval o X.env)=eval o X.env:=by rfl)
  (hfew:((backTo cpos (starEach (e::es) X.env)).all (λx=> !x.1)&&(backToKw cpos (keywordEach [] X.env)).all (λx=>x.1.isSome)
   &&decide ((e::es).length+([]:List Keyword).length+(if ([]:List Keyword).isEmpty then 0 else 1)<30))=true:=by rfl)
  (hline:(apos.endLine==cpos.line)=true:=by rfl) (hs:starEach (e::es) X.env=(false,eval e X.env)::starEach es X.env:=by rfl) (hplain:(backTo cpos (starEach es X.env)).any (·.1)=false:=by rfl):
  PE X (.Call (.Attribute o name apos) (e::es) [] cpos) (tBM X.K T r to t):=by
 intro pins s σ H Q I h
 refine wpAny_Call_method_late hbase hfew hline rfl (thn (ho pins s σ H _ I h) λv s1 zz88=>e24 zz88 λx H1 I1 r1 ty q1=>?_)
 obtain ⟨h1,h2⟩:=qu2_ I1 r1 ty
 refine ⟨T,id,pa,slot,hty,h1,h2,?_⟩
 have hA:=ha cpos pins s1 σ H1 _ I1 q1
 rw [hs] at hA ⊢
 refine Calls.callWith_builtin (by show (false||(backTo cpos (starEach es X.env)).any (·.1))=false;rw [hplain]<;>rfl) (Calls.evalArgs_plain ?_)
 exact thn hA λus s2 zz89=>e23 zz89 λvs H2 I2 r2 q2=>hm pins s2 σ H2 x vs v us Q I2 r1 r2 q2
/- xs.append(e),list.index on a module's tuple .. are MtR facts of 06m -/
end
end L2
namespace L2
open PySem PySem.Spec PyProof.Rows
def MtM (X:Cx) (id:String) (r:V->List V->Hp->VK->Prop):Prop:=
 ∀(pins:List (Addr×Obj)) (s:Shared) (σ:St) (H:Hp) (x:V) (xs:List V) (v:Value) (us:List Value) (Q:VK),Inv X pins σ H s->RelV x v->Vals xs us->r x xs H Q->
  wpAny (model X.prog X.w) X.A (call (.builtin id) (v::us)) (EP X pins σ Q) X.xe s
theorem Vals.one:∀{x:V} {us:List Value},Vals [x] us->∃u,us=[u]/\RelV x u
 |_,_,.cons r .nil=>⟨_,rfl,r⟩
theorem Vals.two:∀{x y:V} {us:List Value},Vals [x,y] us->∃u v,us=[u,v]/\RelV x u/\RelV y v
 |_,_,_,.cons r (.cons q .nil)=>⟨_,_,rfl,r,q⟩
section
variable {X:Cx} {pins:List (Addr×Obj)} {σ:St} {H:Hp} {s:Shared} {l b:Addr} {xs ys zs:List V}
theorem Inv.lset {its its':List Value} {n:Nat} {f:Array Value->Array Value} {t':Nat} (I:Inv X pins σ H s) (hH:H l=some (.lst xs))
  (e:s.heap.get? l=some {cls:= .type "list",data:= .seq its.toArray n}) (hf:f its.toArray=its'.toArray) (hv:Vals ys its') (hz:ys.length<=sizeLine):
  Inv X pins σ (upd H l (.lst ys)) {s with heap:=s.heap.update l (Obj.mapSeq f),toks:=t'}:=by
 have q:=PySem.IsL.update e f
 rw [hf] at q
 refine I.write (x:=l) (e:=l) (by rw [hH];exact trivial) (.inl rfl) (λb' u hb hu=>(Heap.get?_update_other s.heap (Obj.mapSeq f) (Ne.symm hb)).trans hu) ⟨_,q⟩ ?_
 exact ⟨hz,its',_,hv,q⟩
theorem Inv.lnew {its:List Value} {t':Nat} (I:Inv X pins σ H s) (hv:Vals ys its) (hz:ys.length<=sizeLine):
  Inv X pins σ (upd H s.heap.objs.size (.lst ys)) {s with heap:=s.heap.push {cls:= .type "list",data:= .seq its.toArray},toks:=t'}:=
 I.laid (λ_ _ q=>Heap.get?_push_of_some _ q) (Nat.le_refl _) ⟨hz,its,0,hv,Heap.get?_push_size _ rfl⟩
theorem Inv.fresh (I:Inv X pins σ H s):H s.heap.objs.size=none:=I.hok.fresh (Nat.le_refl _)
theorem Inv.lstM (I:Inv X pins σ H s) (hH:H l=some (.lst xs)):xs.length<=sizeLine/\∃(its:List Value) (n:Nat),Vals xs its/\xs.length=its.length/\s.heap.get? l=some {cls:= .type "list",data:= .seq its.toArray n}:=by
 obtain ⟨z,its,n,r,e⟩:=I.hok l _ hH
 exact ⟨z,its,n,r,r.length,e⟩
theorem qns_ {n:Nat} (h:n<=sizeLine):Builtin.List.listTooLong n=false:=by
 unfold Builtin.List.listTooLong
 exact decide_eq_false (by omega)
end
section
variable {X:Cx}
def qlh_:V->List V->Hp->VK->Prop:=λx vs H Q=>∃l xs y,x= .ref l/\vs=[y]/\H l=some (.lst xs)/\xs.length<sizeLine/\Q .non (upd H l (.lst (xs++[y])))
theorem qfm_:MtM X "list.append" qlh_:=by
 intro pins s σ H x vs v us Q I rx rv h
 obtain ⟨l,xs,y,rfl,rfl,hH,hz,q⟩:=h
 cases rx
 obtain ⟨u,rfl,ru⟩:=rv.one
 obtain ⟨z,its,n,r,hl,e⟩:=I.lstM hH
 refine call_meets F.slot_list_append ⟨_,e,rfl⟩ F.entry_list_append (F.args_list_append_2 _ _) (PySem.list_append l its.toArray n u (by rw [List.size_toArray];omega)) ⟨e,?_⟩
 refine ⟨.non,_,I.lset (its':=its++[u]) hH e (by simp) (r.append (.cons ru .nil)) ?_,rfl,q⟩
 rw [List.length_append,List.length_singleton]
 omega
def qra_:V->List V->Hp->VK->Prop:=λx vs H Q=>∃l b xs zs,x= .ref l/\vs=[.ref b]/\H l=some (.lst xs)/\H b=some (.lst zs)/\xs.length+zs.length<=sizeLine/\Q .non (upd H l (.lst (xs++zs)))
theorem qma_:MtM X "list.extend" qra_:=by
 intro pins s σ H x vs v us Q I rx rv h
 obtain ⟨l,b,xs,zs,rfl,rfl,hH,hB,hz,q⟩:=h
 cases rx
 obtain ⟨u,rfl,ru⟩:=rv.one
 cases ru
 obtain ⟨z,its,n,r,hl,e⟩:=I.lstM hH
 obtain ⟨z2,its2,n2,r2,hl2,e2⟩:=I.lstM hB
 have hsz:its.toArray.size+its2.toArray.size<=sizeLine:=by rw [List.size_toArray,List.size_toArray];omega
 have hlong:¬(!its.toArray.isEmpty&&Builtin.List.listTooLong (its.toArray.size+its2.toArray.size))=true:=by
  rw [qns_ hsz,Bool.and_false]
  exact Bool.false_ne_true
 refine call_meets F.slot_list_extend ⟨_,e,rfl⟩ F.entry_list_extend (F.args_list_extend_2 _ _)
  (AutoSeq1.list_extend_list_list_0 l its.toArray n b its2.toArray n2 hlong (by rw [List.size_toArray];omega) (by omega)) ⟨e,e2,?_⟩
 refine ⟨.non,_,I.lset (its':=its++its2) hH e (by simp) (r.append r2) ?_,rfl,q⟩
 rw [List.length_append]
 omega
end
section
variable {prog:Program} {w:World} {A:Around} {E:Value->Shared->Prop} {s:Shared}
theorem qru_ {a c n:Nat} (hac:a<=c) (hc:c<=n):sliceBounds (some (a:Int)) (some (c:Int)) none n=((a:Int),(c:Int),1):=by
 simp only [sliceBounds,Option.getD_none]
 have h1:¬((a:Int)<0):=by omega
 have h2:¬((c:Int)<0):=by omega
 simp only [h1,h2,if_false,show (1:Int)>0 by decide,if_true]
 congr 1
 ·omega
 ·congr 1;omega
end
section
variable {X:Cx}
end
end L2
namespace Att
open PySem PySem.W PySem.Calls PyProof.Rows
theorem qfn_ {P:Params} {h:Heap}:∀(ns:List Int) (vs:List Value),WellAll P h vs (ns.map WData.int)->IntsAre vs ns:=by
 intro ns
 induction ns with
 |nil=>
  intro vs w
  rw [List.map_nil] at w
  cases w
  exact .nil
 |cons n ns ih=>
  intro vs w
  rw [List.map_cons] at w
  cases w with
  |cons a b=>
   cases a
   exact .cons _ _ (ih _ b)
theorem qk7_ {l:OpenLaw} {n:Nat} (hn:l.most=some n) {P:Params} {h:Heap} {args:List WData} {vals:List Value}
  (hpre:l.row.toRowW.claim.pre args=true) (hwl:WellAll P h vals args):
  ∃a vs ns,vals=[Value.ref a]/\args=[WData.list (ns.map WData.int)]/\h.get? a=some {cls:= .type "list",data:= .seq vs.toArray}/\IntsAre vs ns/\ns.length<=n:=by
 have hsh:WShape.hasAll [] args [.list .int]=true:=(pre_splitW hpre).1
 have hc:l.pre.holds [] {args:=args}=true:=(pre_splitW hpre).2
 obtain ⟨d,r,rfl,h1,h2⟩:=hasAllW_cons hsh
 obtain rfl:=hasAllW_nil h2
 obtain ⟨xs,rfl,h3⟩:=hasW_list h1
 obtain ⟨ns,rfl⟩:=items_int h3
 have hlen:ns.length<=n:=by
  unfold OpenLaw.pre at hc
  have h4:(WTm.not (.lt (.lit (.int (n:Int))) (.len (.arg 0)))).holds [] {args:=[.list (ns.map .int)]}=true:=by
   have h4:=(holds_andW hc).1
   rw [hn] at h4
   exact h4
  have h5:=condW_of h4 (w_not (w_lt w_lit (w_len_list (w_arg rfl))))
  rw [List.length_map] at h5
  refine Nat.le_of_not_lt λq=>?_
  have q':(n:Int)<((ns.length:Nat):Int):=by omega
  first
   |(rw [decide_eq_true q'] at h5;exact absurd h5 (by decide))
   |(simp at h5;omega)
 cases hwl with
 |cons w1 w2=>
  cases w2
  cases w1 with
  |list ho hall=>exact ⟨_,_,ns,rfl,rfl,ho,qfn_ ns _ hall,hlen⟩
theorem qmh_ (l:OpenLaw) (args:List WData):l.row.toRowW.claim.post args (.bool true) args=true:=
 postW_of (r:=l.row.toRowW) (X:=(true==true))
  (show WShape.has [] (.bool true) .bool=true by first|rfl|decide|simp [WShape.has,WShape.arms,WShape.armsAll])
  (show (WTm.eq .res (.lit (.bool true))).value [] {args:=args,res:=some (.bool true),after:=args}=some (.bool (true==true)) from w_eq_bool (w_res rfl) w_lit) rfl
theorem attach_call {l:OpenLaw} {n:Nat} {q:Program} {loose:List Str} {XP:(Str->Option Value)->Heap->Prop} {YP:World->Heap->Prop} {d:DefRec}
  (hn:l.most=some n) (hdf:d.params.defaults=[])
  (call:∀(w:World) (s₀ s₁:Shared) (mg mb:Str->Option Value) (fa:Addr) (o:Obj) (pm cd doc:Value) (a:Addr) (vs:List Value) (ns:List Int),
   Ground q loose [] XP w s₀ mg mb s₁.heap->YP w s₁.heap->
   s₁.heap.get? fa=some o->o.data= .func (docDef d.name d.params d.body d.scope pm cd doc)->s₁.heap.CodeRec cd d.name->mg d.name=some (.ref fa)->
   s₁.heap.get? a=some {cls:= .type "list",data:= .seq vs.toArray}->IntsAre vs ns->ns.length<=n->s₁.gens= #[]->
   codeAny (model l.prog w) callerA (.call (.ref fa) ⟨[.ref a],[]⟩) (λr s'=>r= .ok (.ret (.bool true))/\OldK s₁.heap s'.heap/\s'.os=s₁.os/\AllBare s'.gens) s₁):
  WalkO q loose XP YP l.row.toRowW d [] (λf vs=>PySem.call f vs):=by
 intro w s₀ s₁ mg mb G Y fa o pm cd doc dV kV ho hd hcd hD hmg hg args vals as hpre hlay hrd hwl hlo
 obtain rfl:dV= .none:=Dflts.none hD hdf
 obtain rfl:kV= .none:=Dflts.noKw hD
 obtain ⟨a,vs,ns,rfl,rfl,hobj,hints,hlen⟩:=qk7_ hn hpre hwl
 refine enter_call (codeAny_mono (call w s₀ s₁ mg mb fa o pm cd doc a vs ns G Y ho (fd_plain hd) hcd hmg hobj hints hlen hg) λr s' hq=>?_)
 obtain ⟨rfl,h2,h3,h4⟩:=hq
 exact ⟨.inl ⟨.bool true,.bool true,[],rfl,λ_=>rfl,.bool true,qmh_ l _,λ_=>⟨List.Pairwise.nil,λ_ hm=>(nomatch hm)⟩⟩,h2,h3,h4⟩
section
variable {prog:Program} {w:World} {A:Around} {E:Value->Shared->Prop} {s:Shared} {K:Frag}
end
end Att
namespace L2
open PySem PySem.Spec PyProof.Rows
theorem qhk_:∀{vs:List Value} {ns:List Int},IntsAre vs ns->Vals (ns.map V.int) vs
 |_,_,.nil=> .nil
 |_,_,.cons n t h=> .cons ⟨t,rfl⟩ (qhk_ h)
def Only (H:Hp):Prop:=∀b,H b=none\/∃o xs,H b=some (.frz o (.lst xs))
theorem qoq_ {P:Program} {w:World} {K:PySem.W.Frag} {mg mb:Str->Option Value} {CX:CXT} {k:Nat} {fa a:Addr} {fd:FuncData} {x:Str} {sp:Sp} {s₁:Shared} {vs:List Value} {ns:List Int}
  (KX:K.In s₁.heap) (hns:s₁.heap.Ns mainGlobals mg) (hb:s₁.heap.Ns builtinsNs mb) (hbb:∀x:Str,x≠"__name__"->mb x=bootBuiltins x) (hlim:s₁.heap.NoLimit) (hg:s₁.gens= #[])
  (ha:s₁.heap.get? a=some {cls:= .type "list",data:= .seq vs.toArray}) (hi:IntsAre vs ns) (hl:ns.length<=sizeLine) (hr:Room k callerA)
  (F:∀base:Heap,K.In base->base.Ns mainGlobals mg->FnOk P w K mg base CX k fa fd [x] sp) (hbind:∀(s:Shared) (u:Value),BindsTo s fd ⟨[u],[]⟩ [(x,u)])
  (hsp:∀H:Hp,Only H->SqL K H a (ns.map V.int)->sp [.ref a] H (λv _=>v= .bl true) λ_ _ _=>False)
  (hCX:∀H e s',CX [] H s₁ (λ_ _ _=>False) e s'->False):
  codeAny (model P w) callerA (.call (.ref fa) ⟨[.ref a],[]⟩) (λr s'=>r= .ok (.ret (.bool true))/\OldK s₁.heap s'.heap/\s'.os=s₁.os/\AllBare s'.gens) s₁:=by
 have rv:=qhk_ hi
 have lenV:=hi.length
  -- from an abstract heap in which nothing but the script may be tracked
 have core:∀H:Hp,Only H->SqL K H a (ns.map V.int)->HOk P w H s₁.heap->(∀b,H b≠none->b=a)->(H a≠none->K.lookup a=none)->
   codeAny (model P w) callerA (.call (.ref fa) ⟨[.ref a],[]⟩) (λr s'=>r= .ok (.ret (.bool true))/\OldK s₁.heap s'.heap/\s'.os=s₁.os/\AllBare s'.gens) s₁:=by
  intro H hO hS hok hA hK
  have base_of:∀{b:Addr} {o:Obj},s₁.heap.get? b=some o->H b=none->(hidT s₁.heap H).get? b=some o:=λe n=>qn4_ e n
  have noA:∀{b:Addr} {o:Obj} {es:Array DictEntry} {ep:Nat},s₁.heap.get? b=some o->o.data= .dict es ep->H b=none:=λ{b o es ep} e d=>by
   cases q:H b with
   |none=>rfl
   |some u=>
    have e':b=a:=hA b (by rw [q];simp)
    subst e'
    rw [ha] at e;cases e
    have d':Data.seq vs.toArray _=Data.dict es ep:=d
    cases d'
  have nsK:∀{b:Addr} {m:Str->Option Value},s₁.heap.Ns b m->(hidT s₁.heap H).Ns b m:=λ{b m} ⟨o,es,ep,e,d,r⟩=>⟨o,es,ep,base_of e (noA e d),d,r⟩
  have hKb:K.In (hidT s₁.heap H):=λb o e=>base_of (KX b o e) (by
   cases q:H b with
   |none=>rfl
   |some u=>
    have e':b=a:=hA b (by rw [q];simp)
    subst e'
    rw [hK (by rw [q];simp)] at e;cases e)
  have hM:Mod K mg (hidT s₁.heap H):=⟨hKb,nsK hns,⟨mb,nsK hb,hbb⟩,let ⟨mc,h1,h2⟩:=hlim;⟨mc,nsK h1,h2⟩⟩
  have e0:Env0 P w K mg (hidT s₁.heap H) callerA [] s₁ H:=⟨rfl,hM,λb o e=>qpx_ e,Nat.le_of_eq (qld_ _ _),trivial,λb hb=>absurd (show b∈([]:List Addr) from hb) (by simp),hok,.of_eq hg⟩
  refine codeAny_mono ((F _ hKb (nsK hns)).run callerA [] s₁ H ⟨[.ref a],[]⟩ [.ref a] [.ref a] _ _ hr e0 (hbind s₁ (.ref a)) (.cons rfl .nil) (hsp H hO hS)) λr s' h=>?_
  cases r with
  |error e=>exact (hCX H e s' h).elim
  |ok fl=>
   cases fl with
   |next=>exact False.elim h
   |brk=>exact False.elim h
   |cont=>exact False.elim h
   |ret u=>
    obtain ⟨v,H',os,bare,un,hok',r',q⟩:=h
    have q':v= .bl true:=q
    subst q'
    obtain rfl:u=Value.bool true:=r'
    refine ⟨rfl,OldK.of_keep λb o e=>?_,os,bare⟩
    cases q:H b with
    |none=>exact un.keep b o e q (by intro z;exact absurd (show b∈([]:List Addr) from z) (by simp)) (by simp)
    |some u=>
     rcases hO b with z|⟨ob,xs,z⟩
     ·rw [q] at z;cases z
     ·have z2:=un.frzs b ob _ z
      obtain ⟨e1,_⟩:=hok b _ z
      obtain ⟨e2,_⟩:=hok' b _ z2
      rw [e] at e1;cases e1
      exact e2
 cases hk:K.lookup a with
 |some o=>
    -- the script is one of the module's own objects
  have e:=KX a o hk
  rw [ha] at e
  cases e
  refine core (λ_=>none) (λ_=> .inl rfl) (.inr ⟨_,vs.toArray,_,hk,rfl,rfl,rfl,by rw [List.size_toArray,lenV];exact hl,by simpa using rv⟩) (λb u z=>by have z':(none:Option HO)=some u:=z;cases z') (λb z=>absurd rfl z) λz=>absurd rfl z
 |none=>
  refine core (λb=>if b=a then some (.frz {cls:= .type "list",data:= .seq vs.toArray} (.lst (ns.map V.int))) else none) (λb=>?_) (.inl (.inr ⟨{cls:= .type "list",data:= .seq vs.toArray},if_pos rfl⟩)) (λb u z=>?_) (λb z=>?_) λ_=>hk
  ·by_cases hb:b=a
   ·exact .inr ⟨_,_,if_pos hb⟩
   ·exact .inl (if_neg hb)
  ·by_cases hb:b=a
   ·have z':=(if_pos hb).symm.trans z
    cases z'
    subst hb
    exact ⟨ha,by rw [List.length_map];exact hl,vs,_,rv,ha⟩
   ·have z':=(if_neg hb).symm.trans z
    cases z'
  ·by_cases hb:b=a
   ·exact hb
   ·exact absurd (if_neg hb) z
end L2
namespace L2
open PySem PySem.Spec PyProof.Rows
theorem walk_of {l:PySem.W.OpenLaw} {n k:Nat} {q:Program} {loose:List Str} {XP:(Str->Option Value)->Heap->Prop} {YP:World->Heap->Prop} {d:DefRec} {K:Params->PySem.W.Frag} {CX:World->CXT} {sp:World->Sp} {x:Str}
  (hn:l.most=some n) (hn2:n<=sizeLine) (hdf:d.params.defaults=[]) (hr:Room k callerA)
  (hY:∀(w:World) (h:Heap),YP w h->(K w.params).In h)
  (F:∀(w:World) (mg:Str->Option Value) (fa:Addr) (h:Heap),(K w.params).In h->h.Ns mainGlobals mg->mg d.name=some (.ref fa)->
   ∃fd:FuncData,(∀(s:Shared) (u:Value),BindsTo s fd ⟨[u],[]⟩ [(x,u)])/\
    ∀base:Heap,(K w.params).In base->base.Ns mainGlobals mg->FnOk l.prog w (K w.params) mg base (CX w) k fa fd [x] (sp w))
  (hsp:∀(w:World) (H:Hp) (a:Addr) (ns:List Int),ns.length<=n->Only H->SqL (K w.params) H a (ns.map V.int)->sp w [.ref a] H (λv _=>v= .bl true) λ_ _ _=>False)
  (hCX:∀(w:World) (H:Hp) (s:Shared) (e:Value) (s':Shared),CX w [] H s (λ_ _ _=>False) e s'->False):
  PySem.W.WalkO q loose XP YP l.row.toRowW d [] (λf vs=>PySem.call f vs):=by
 refine Att.attach_call hn hdf λw s₀ s₁ mg mb fa o pm cd doc a vs ns G Y ho hd hcd hmg hobj hints hlen hg=>?_
 have KX:=hY w _ Y
 obtain ⟨fd,hb,hF⟩:=F w mg fa _ KX G.T.g hmg
 exact qoq_ KX G.T.g G.T.b G.T.builtins G.T.nolimit hg hobj hints (Nat.le_trans hlen hn2) hr hF hb (λH hO hS=>hsp w H a ns hlen hO hS) λH e s'=>hCX w H s₁ e s'
end L2
/- THE LAST THEOREM (shape; LID, My.* are yours):
   My.Adr:a structure of the addresses that your layer names (classes,functions);My.Txt K t:a structure (Prop) of the equations over K;
   My.txt_mk:{K} {implicit addresses ..} (e1:nsIn K mainGlobals "law"=some (some (.ref f))) (e2:K.lookup f=some ⟨oc,od,.func (fnOf "law" "law" params body scope dV kV doc pm an cdv ct),sl⟩) (e3:codeIn K cdv "law"=true) .. :∃t,My.Txt K t
set_option maxRecDepth 100000 in
set_option maxHeartbeats 0 in
theorem PySem.Challenge.cw_LID_holds : PySem.Challenge.rw_LID.Holds := by
  w_on; o_law; k_head; (case hw => w_witness2)
  k_fill
  refine L2.walk_of (l := PySem.Challenge.rw_LID) (n := 63) (k := 40) (x := "script") (CX := fun w => ..) (sp := fun _ => My.sp_law) rfl (by decide) rfl ⟨rfl, by decide, by decide⟩ (fun w h Y => PySem.W.kIn_of Y) ?F ?S ?C
  case F =>
    intro w mg fa h KX G hmg
    have T : ∃ t, My.Txt (L2.KOf KX) t := by
      dsimp only [L2.KOf]                          -- K must stand as «<heap const> w.params» for k_is
      refine' My.txt_mk ?e1 ?e2 ?e3 ..
      (case e1 => PySem.W.k_is)                    -- in the order: a name -> its address -> its object -> its parts
      (case e2 => PySem.W.k_is)
      ..
    obtain ⟨t, T⟩ := T
    have e0 := hmg.symm.trans (PySem.W.mg_of KX G T.law)
    cases e0                                       -- fa is the law's own address
    exact ⟨_, fun s u => .of_eq rfl, fun base kb nb => My.law_fn T kb nb⟩     -- if «.of_eq rfl» comes too early: refine' ⟨_, ?b, fun base kb nb => My.law_fn T kb nb⟩; exact fun s u => .of_eq rfl
  case S => exact fun w H a ns hl hO hS => ..
  case C => exact ..
(the tactic k_is has no namespace:write k_is) -/
namespace L2
open PySem PySem.Spec PyProof.Rows
def qdc_ (s:Stmt):Arguments:=match s with
 | .FunctionDef _ a _ _ _ _ _ _ _ _=>a
 |_=>{posonlyargs:=[],args:=[],vararg:=none,kwonlyargs:=[],kw_defaults:=[],kwarg:=none,defaults:=[]}
def q8_ (s:Stmt):List Stmt:=match s with
 | .FunctionDef _ _ b _ _ _ _ _ _ _=>b
 |_=>[]
def qe_ (s:Stmt):Scope:=match s with
 | .FunctionDef _ _ _ _ _ _ sc _ _ _=>sc
 |_=>{kind:= .function,names:=[],isGenerator:=false,isCoroutine:=false}
abbrev CX0:CXT:=λ_ _ _ _ _ _=>False
abbrev E0:XK:=λ_ _ _=>False
theorem qov_ {X:Cx}:qjr_ CX0 X E0:=λ_ _ _ _ _ _ _ h=>h.elim
structure Fun (K:PySem.W.Frag) (x qual:Str) (st:Stmt) (f:Addr) (fd:FuncData):Prop where
 ex:∃(oc:Value) (od:Option Addr) (kV doc pm:Value) (an:Option Addr) (cdv ct:Value) (osl:Array (Option Value)),
  fd=PySem.W.fnOf x qual (qdc_ st) (q8_ st) (qe_ st) .none kV doc pm an cdv ct/\K.lookup f=some ⟨oc,od,.func fd,osl⟩/\PySem.W.codeIn K cdv qual=true
 kp:PySem.W.keepIn K (.ref f)=true
section
variable {P:Program} {w:World} {K:PySem.W.Frag} {mg:Str->Option Value} {base:Heap}
theorem Fun.ok {x qual:Str} {st:Stmt} {f:Addr} {fd:FuncData} {N ps:List Str} {k:Nat} {sp:Sp} (F:Fun K x qual st f fd) (S:FnScope N ps (qe_ st)) (len:∀vs H Q E,sp vs H Q E->vs.length=ps.length)
  (hbody:∀(cdv:Value) (A:Around) (outer:List Env) (s:Shared) (H:Hp) (vs:List V) (Q:VK) (E:XK),Room k (A.deeper (envOfC qual (qe_ st) s.heap.objs.size f cdv))->sp vs H Q E->
   ∃t,PSs (cxOf CX0 P w K mg base N qual (qe_ st) f cdv A outer s H E).nox (q8_ st) t/\t {nx:=λ_ H'=>Q .non H',rt:=Q} (start N vs) H):FnOk P w K mg base CX0 (k+1) f fd ps sp:=by
 obtain ⟨oc,od,kV,doc,pm,an,cdv,ct,osl,rfl,lk,hcd⟩:=F.ex
 refine qtj_ lk hcd S len λA outer s H vs Q E hr hsp=>?_
 obtain ⟨t,h,q⟩:=hbody cdv A outer s H vs Q E hr hsp
 exact ⟨t,h.nox,q⟩
theorem Fun.binds {x qual:Str} {st:Stmt} {f:Addr} {fd:FuncData} {ps:List Str} (F:Fun K x qual st f fd)
  (h:∀(kV doc pm:Value) (an:Option Addr) (cdv ct:Value) (us:List Value),us.length=ps.length->bindArgs (PySem.W.fnOf x qual (qdc_ st) (q8_ st) (qe_ st) .none kV doc pm an cdv ct) ⟨us,[]⟩=pure (ps.zip us)):Binds K fd ps []:=by
 obtain ⟨oc,od,kV,doc,pm,an,cdv,ct,osl,rfl,lk,hcd⟩:=F.ex
 exact .all (h kV doc pm an cdv ct)
theorem qh1_ {x qual:Str} {st:Stmt} {f:Addr} {oc:Value} {od an:Option Addr} {osl:Array (Option Value)} {kV doc pm cdv ct:Value} (l:K.lookup f=some ⟨oc,od,.func (PySem.W.fnOf x qual (qdc_ st) (q8_ st) (qe_ st) .none kV doc pm an cdv ct),osl⟩)
  (c:PySem.W.codeIn K cdv qual=true) (k:PySem.W.keepIn K (.ref f)=true):Fun K x qual st f (PySem.W.fnOf x qual (qdc_ st) (q8_ st) (qe_ st) .none kV doc pm an cdv ct):=⟨⟨oc,od,kV,doc,pm,an,cdv,ct,osl,rfl,l,c⟩,k⟩
end
theorem qi_ {n:Nat} (h:n<=1000):n<sizeLine:=Nat.lt_of_le_of_lt h (by decide)
section
variable {X:Cx}
theorem pv (i:Nat) {x:Str} {pos:Pos} (hN:X.N[i]?=some x:=by rfl) (hv:Vis X.env.scope x:=by first|exact Or.inl rfl|exact Or.inr (Or.inl rfl)|exact Or.inr (Or.inr rfl)) (hd:(x==("__debug__":Str))=false:=by decide)
  (hcd:(x==("__classdict__":Str))=false:=by decide):PE X (.Name x pos) (tVar i):=qul_ hN hv hd hcd
end
def Same (H H':Hp):Prop:=∀b o,H b=some o->H' b=some o
theorem Same.refl (H:Hp):Same H H:=λ_ _ h=>h
theorem Same.trans {H H1 H2:Hp} (a:Same H H1) (b:Same H1 H2):Same H H2:=λc o h=>b c o (a c o h)
end L2

namespace L2
open PySem PySem.Spec PyProof.Rows
section
variable {κ:Type} [DecidableEq κ]
end
theorem qwh_ {P:Program} {w:World} {k:Key} {u:Value} (r:RelV (kV k) u):(qd9_ P w).is k u=true:=by
 cases k with
 |inl i=>obtain ⟨t,e⟩:=(show ∃t,u=Value.int i t from r);subst e;exact qi0_ P w i t
 |inr x=>obtain ⟨t,e⟩:=(show ∃t,u=Value.str x t from r);subst e;exact qip_ P w x t
theorem qfl_ {P:Program} {w:World}:∀{ks:List Key} {us:List Value},Vals (ks.map kV) us->ItemsAre (qd9_ P w) ks us
 |[],_,r=>by rw [List.map_nil] at r;cases r;exact .nil
 |k::ks,_,r=>by
  rw [List.map_cons] at r
  cases r with
  |cons h t=>exact .cons (qwh_ h) (qfl_ t)
section
variable {P:Program} {w:World} {H:Hp} {h:Heap} {a:Addr}
end
section
variable {X:Cx} {pins:List (Addr×Obj)} {σ:St} {H:Hp} {s:Shared} {a:Addr} {y v:V} {u r:Value} {o:Option V} {A:Around} {E:Value->Shared->Prop}
theorem Inv.big (I:Inv X pins σ H s):sysModules<s.heap.objs.size:=by
 have h:mainGlobals<s.heap.objs.size:=(I.mod.glob.keeps I.bk).lt
 exact Nat.lt_trans (by decide) h
end
section
variable {X:Cx} {pins:List (Addr×Obj)} {σ:St} {H:Hp} {s:Shared} {a:Addr} {kvs:List (Key×V)} {k:Key} {u:Value} {A:Around} {E:Value->Shared->Prop}
end
def NoSl (i:Expr):Prop:=∀ov iv,subscripted i false ov iv=operate [ov,iv] (getItem ov iv)
theorem qpu_ {prog:Program} {w:World} {A:Around} {E:Value->Shared->Prop} {s:Shared} {env:Env} {value slice:Expr} {pos:Pos} {T id:String} {Q:Value->Shared->Prop}
  (hl:typeLookup (.type T) "__getitem__"=pure (some (.builtin id))) (hs:NoSl slice)
  (h:wpAny (model prog w) A (eval value env) (λo s₁=>wpAny (model prog w) A (eval slice env) (λi s₂=>s₂.TypeIs o T/\wpAny (model prog w) A (getItem o i) Q E s₂) E s₁) E s):
  wpAny (model prog w) A (eval (.Subscript value slice pos) env) Q E s:=by
 refine Subscript_ (wpAny_mono h (λo s₁ h₁=>wpAny_mono h₁ (λi s₂ h₂=>?_) λ_ _ x=>x) λ_ _ x=>x)
 obtain ⟨hT,h₂⟩:=h₂
 unfold subscriptTail
 refine wpAny_bind ?_
 rw [getitemInPython_of_ne hT.not_modules]
 refine wpAny_bind (wpAny_specialOf hT hl ?_)
 have fin:wpAny (model prog w) A (subscripted slice false o i) (λr s₃=>wpAny (model prog w) A (letTemporaryGo value o r >>= λ_=>pure r) Q E s₃) E s₂:=by
  rw [hs o i]
  exact wpAny_operating (wpAny_mono h₂ (λr s₃ h₃=>wpAny_bind (wpAny_letTemporaryGo (wpAny_pure h₃))) λ_ _ x=>x)
 first
  |exact wpAny_pure (wpAny_bind fin)
  |exact wpAny_bind (wpAny_pure (wpAny_bind fin))
  |exact wpAny_bind fin
section
variable {X:Cx} {o i e value:Expr} {pos pos' tpos:Pos} {td ty tv:TE}
end
section
variable {X:Cx} {pos:Pos}
end
section
variable {X:Cx} {pins:List (Addr×Obj)} {σ:St} {H:Hp} {s:Shared} {a:Addr} {y d:V} {u r:Value} {o:Option V} {A:Around} {E:Value->Shared->Prop}
end
section
variable {X:Cx} {o e f:Expr} {apos cpos:Pos} {td ty tx:TE}
end
section
variable {X:Cx} {pins:List (Addr×Obj)} {σ:St} {H:Hp} {s:Shared} {a:Addr} {kvs:List (Key×V)} {A:Around} {E:Value->Shared->Prop}
end
section
variable {X:Cx} {pins:List (Addr×Obj)} {σ:St} {H:Hp} {s:Shared} {a:Addr} {y:V} {u:Value} {A:Around} {E:Value->Shared->Prop}
end
end L2

namespace L3
open PySem PySem.Spec PyProof.Rows L2
def Sm (n:Nat) (i:Int):Prop:=i.natAbs<2 ^ n
theorem Sm.mono {a b:Nat} {i:Int} (h:Sm a i) (k:a<=b):Sm b i:=Nat.lt_of_lt_of_le h (Nat.pow_le_pow_right (by decide) k)
theorem Sm.add {a:Nat} {i j:Int} (h:Sm a i) (k:Sm a j):Sm (a+1) (i+j):=by
 unfold Sm at*
 have:=Int.natAbs_add_le i j
 rw [Nat.pow_succ]
 omega
theorem Sm.neg {a:Nat} {i:Int} (h:Sm a i):Sm a (-i):=by
 unfold Sm at*
 rw [Int.natAbs_neg];exact h
theorem Sm.mul {a b:Nat} {i j:Int} (h:Sm a i) (k:Sm b j):Sm (a+b) (i*j):=by
 unfold Sm at*
 rw [Int.natAbs_mul,Nat.pow_add]
 exact Nat.mul_lt_mul'' h k
theorem Sm.le {a:Nat} {i j:Int} (h:Sm a i) (k:j.natAbs<=i.natAbs):Sm a j:=Nat.lt_of_le_of_lt k h
theorem Sm.bits {n:Nat} {i:Int} (h:Sm n i):Builtin.Int.intBits i<=n:=by
 unfold Builtin.Int.intBits
 split
 ·exact Nat.zero_le _
 ·rename_i z
  have nz:i.natAbs≠0:=by
   intro e
   apply z
   rw [Int.natAbs_eq_zero] at e
   subst e
   rfl
  have:=(Nat.log2_lt nz (k:=n)).mpr h
  omega
theorem Sm.log {n:Nat} {i:Int} (h:Sm n i) (k:0<n):i.natAbs.log2<n:=by
 by_cases z:i.natAbs=0
 ·rw [z];simpa using k
 ·exact (Nat.log2_lt z).mpr h
def CMulS (i j:Int):Prop:=∃a b,a+b<=100000000/\Sm a i/\Sm b j
theorem CMulS.ok {i j:Int} (h:CMulS i j):IntMulOk i j:=by
 obtain ⟨a,b,ab,hi,hj⟩:=h
 have h1:=hi.bits
 have h2:=hj.bits
 unfold IntMulOk
 intro z
 rw [Bool.and_eq_true] at z
 have z2:=z.2
 unfold Builtin.Int.intTooBig at z2
 have z3:=of_decide_eq_true z2
 have e:(bitsLine:Int)=134217728:=by decide
 rw [e] at z3
 omega
def qi5_ (_i j:Int):Prop:=j≠0/\Sm 9000 j
section
variable {X:Cx}
theorem qq5_:OpR X (binaryOp .Mult) (rI CMulS λi j=> .int (i*j)):=opI λ_ _ _ _ _ _ _ hc q=>mul_int q hc.ok
theorem qn1_:OpR X (binaryOp .FloorDiv) (rI qi5_ λi j=> .int (i.fdiv j)):=opI λ_ _ _ _ _ _ _ hc q=>floordiv_int hc.1 q (.inl (PyProof.noPylong_of_log2 (hc.2.log (by decide))))
end
section
variable {X:Cx}
end
inductive D where
 |non|bl (b:Bool)|int (i:Int)|str (x:Str)|tup (xs:List D)|lst (xs:List D)
def b2n (b:Bool):Int:=if b then 1 else 0
mutual
def peq:D->D->Bool
 | .non,e=>match e with| .non=>true|_=>false
 | .bl a,e=>match e with| .bl b=>a==b| .int i=>b2n a==i|_=>false
 | .int i,e=>match e with| .bl b=>i==b2n b| .int j=>i==j|_=>false
 | .str x,e=>match e with| .str y=>x==y|_=>false
 | .tup ds,e=>match e with| .tup es=>peqs ds es|_=>false
 | .lst ds,e=>match e with| .lst es=>peqs ds es|_=>false
def peqs:List D->List D->Bool
 |[],e=>match e with|[]=>true|_=>false
 |d::ds,e=>match e with|e::es=>peq d e&&peqs ds es|[]=>false
end
mutual
def dep:D->Nat
 | .tup ds=>deps ds+1
 | .lst ds=>deps ds+1
 |_=>0
def deps:List D->Nat
 |[]=>0
 |d::ds=>max (dep d) (deps ds)
end
theorem qgk_ {d:D}:∀{ds:List D} {i:Nat},ds[i]?=some d->dep d<=deps ds
 |[],i,h=>by simp at h
 |e::ds,0,h=>by simp at h;subst h;rw [deps];exact Nat.le_max_left _ _
 |e::ds,i+1,h=>by
  rw [deps]
  exact Nat.le_trans (qgk_ (ds:=ds) (i:=i) (by simpa using h)) (Nat.le_max_right _ _)
mutual
theorem qcw_:∀d:D,peq d d=true
 | .non=>by rw [peq]
 | .bl b=>by simp only [peq];simp
 | .int b=>by simp only [peq];simp
 | .str b=>by simp only [peq];simp
 | .tup ds=>by simp only [peq];exact qdl_ ds
 | .lst ds=>by simp only [peq];exact qdl_ ds
theorem qdl_:∀d:List D,peqs d d=true
 |[]=>by rw [peqs]
 |d::ds=>by rw [peqs];simp [qcw_ d,qdl_ ds]
end
theorem qhb_:∀(ds es:List D),ds.length=es.length->peqs ds es=(List.range ds.length).all λi=>peq (ds.getD i .non) (es.getD i .non)
 |[],[],_=>by rw [peqs];rfl
 |d::ds,e::es,h=>by
  rw [peqs,qhb_ ds es (by simpa using h),List.length_cons,List.range_succ_eq_map]
  simp [List.all_map,Function.comp_def]
 |[],_::_,h=>by simp at h
 |_::_,[],h=>by simp at h
theorem qg4_:∀(ds es:List D),ds.length≠es.length->peqs ds es=false
 |[],[],h=>absurd rfl h
 |d::ds,e::es,h=>by rw [peqs,qg4_ ds es (by simpa using h)];simp
 |[],_::_,h=>by simp only [peqs]
 |_::_,[],h=>by simp only [peqs]
open SeqAt
section
variable {X:Cx} {pins:List (Addr×Obj)} {σ:L2.St} {H:Hp} {s:Shared}
theorem qbz_ {A:Around}:A.in1.units=A.units+1:=rfl
theorem qj8_ {ds es:List D} {us ts:List Value} (l1:ds.length=us.length) (l2:es.length=ts.length):
  ((List.range (min us.toArray.size ts.toArray.size)).all (λj=>peq (ds.getD j .non) (es.getD j .non))&&us.toArray.size==ts.toArray.size)=peqs ds es:=by
 by_cases h:ds.length=es.length
 ·have e:us.toArray.size=ds.length:=by simp [l1]
  have e2:ts.toArray.size=ds.length:=by simp [h,l2]
  rw [e,e2,qhb_ ds es h,Nat.min_self]
  simp
 ·rw [qg4_ ds es h]
  have:(us.toArray.size==ts.toArray.size)=false:=by
   rw [beq_eq_false_iff_ne]
   simp only [List.size_toArray,<-l1,<-l2]
   exact h
  rw [this,Bool.and_false]
end
section
variable {X:Cx}
end
theorem Room.u60 {k:Nat} {A:Around} (r:Room k A):A.units+60<cLine:=by have:=r.un;omega
end L3
namespace L3
open PySem PySem.Spec PyProof.Rows L2
abbrev S:=L2.St
theorem qli_ {prog:Program} {w:World} {A:Around} {R:Result->Shared->Prop} {s:Shared} {elt target iter:Expr} {ifs:List Expr} {scope:Scope} {pos:Pos} {it acc:Value} {env:Env} (J:Nat->Shared->Prop)
  (turn:∀n s,J n s->wpAny (model prog w) A (pyNext it) (λr s1=>match r with
   |none=>R (.ok .next) s1
   |some v=>wpAny (model prog w) A (letOwnedTupleGo target it v) (λ_ s2=>wpAny (model prog w) A (assign target env v) (λ_ s3=>
     wpAny (model prog w) A (forIn ifs true λc r=>if r=true then do let ok <-isTrue c env (eval c env);pure (ForInStep.yield ok) else pure (ForInStep.yield r)) (λok s4=>
      if ok=true then wpAny (model prog w) A (eval elt env) (λx s5=>wpAny (model prog w) A (call (.builtin "list.append") [acc,x]) (λ_ s6=>∃m,m<n/\J m s6) (λ_ _=>False) s5) (λ_ _=>False) s4
      else ∃m,m<n/\J m s4) (λ_ _=>False) s3) (λ_ _=>False) s2) (λ_ _=>False) s1) (λ_ _=>False) s)
  (n:Nat) (h:J n s):codeAny (model prog w) A (.compLoop (.ListComp elt [⟨target,iter,ifs,0⟩] scope pos) 0 it acc env) R s:=by
 refine codeAny_loop rfl J (λn s hJ=>?_) n h
 show wpAny (model prog w) A ((compTurn (.ListComp elt [⟨target,iter,ifs,0⟩] scope pos) 0 it acc env).onRaise (λx=>do noteFrame x env;theTreesLotGoes x)) _ _ s
 refine wpAny_noted ?_
 rw [compTurn_list]
 refine wpAny_bind (wpAny_standAt (wpAny_bind (wpAny_mono (turn n s hJ) (λr s1 h1=>?_) λ_ _ z=>z.elim)))
 cases r with
 |none=>exact wpAny_pure h1
 |some v=>
  refine wpAny_bind (wpAny_mono h1 (λ_ s2 h2=>wpAny_bind (wpAny_mono h2 (λ_ s3 h3=>wpAny_bind (wpAny_mono h3 (λok s4 h4=>?_) λ_ _ z=>z.elim)) λ_ _ z=>z.elim)) λ_ _ z=>z.elim)
  cases ok with
  |false=>exact wpAny_pure ⟨rfl,h4⟩
  |true=>exact wpAny_bind (wpAny_bind (wpAny_mono h4 (λx s5 h5=>wpAny_bind (wpAny_mono h5 (λ_ s6 h6=>wpAny_pure (wpAny_pure ⟨rfl,h6⟩)) λ_ _ z=>z.elim)) λ_ _ z=>z.elim))
def clOf (env:Env):List (Str×NameKind)->List (Str×Addr)->List (Str×Addr)
 |[],acc=>acc
 |(n,k)::r,acc=>if k== .free then clOf env r ((n,(env.cells.lookup n).getD 0)::acc) else clOf env r acc
theorem qdb_ {env:Env}:∀(names:List (Str×NameKind)) (acc:List (Str×Addr)),(names.all λy=>y.2 != .free||(env.cells.lookup y.1).isSome)=true->
  (forIn names acc (λ(x:Str×NameKind) (cs:List (Str×Addr))=>match x with|(name,kind)=>if (kind==NameKind.free)=true then do let a <-cellOf env name;pure (ForInStep.yield ((name,a)::cs)) else pure (ForInStep.yield cs)):Sem (List (Str×Addr)))=pure (clOf env names acc)
 |[],acc,_=>rfl
 |(n,k)::r,acc,h=>by
  rw [List.all_cons,Bool.and_eq_true] at h
  rw [List.forIn_cons]
  dsimp only
  by_cases hk:(k==NameKind.free)=true
  ·rw [if_pos hk]
   have h1:=h.1
   have e:k= .free:=by simpa using hk
   subst e
   simp only [bne_self_eq_false,Bool.false_or] at h1
   obtain ⟨a,ha⟩:=Option.isSome_iff_exists.mp h1
   have:cellOf env n=pure a:=by unfold cellOf;rw [ha]
   rw [this,pure_bind,pure_bind]
   dsimp only
   rw [qdb_ r _ h.2,clOf,if_pos hk,ha]
   rfl
  ·rw [if_neg hk,pure_bind]
   dsimp only
   rw [qdb_ r _ h.2,clOf,if_neg hk]
theorem qgn_ {scope:Scope} {env:Env} (h:(scope.names.all λy=>y.2 != .free||(env.cells.lookup y.1).isSome)=true):closureFor scope env=pure (clOf env scope.names []):=by
 unfold closureFor
 show (forIn scope.names [] _ >>= λr=>pure r)=_
 rw [bind_pure]
 exact qdb_ scope.names [] h
theorem qcx_ {env:Env} {x:Str} {c:Addr}:∀(names:List (Str×NameKind)) (acc:List (Str×Addr)),(names.all λy=>y.2 != .free||(env.cells.lookup y.1).isSome)=true->
  (∀c,acc.lookup x=some c->env.cells.lookup x=some c)->(clOf env names acc).lookup x=some c->env.cells.lookup x=some c
 |[],acc,_,ha,h=>ha c h
 |(n,k)::r,acc,hall,ha,h=>by
  rw [List.all_cons,Bool.and_eq_true] at hall
  rw [clOf] at h
  by_cases hk:(k==NameKind.free)=true
  ·rw [if_pos hk] at h
   refine qcx_ r _ hall.2 (λc hc=>?_) h
   rw [List.lookup_cons] at hc
   split at hc
   ·rename_i hx
    have hx':x=n:=by simpa using hx
    subst hx'
    have h1:=hall.1
    have e:k= .free:=by simpa using hk
    subst e
    simp only [bne_self_eq_false,Bool.false_or] at h1
    obtain ⟨a,ha'⟩:=Option.isSome_iff_exists.mp h1
    rw [ha'] at hc ⊢
    exact hc
   ·exact ha c hc
  ·rw [if_neg hk] at h
   exact qcx_ r acc hall.2 ha h
theorem qgz_ {env:Env} {x:Str}:∀(names:List (Str×NameKind)) (acc:List (Str×Addr)),(∃c,acc.lookup x=some c)->∃c,(clOf env names acc).lookup x=some c
 |[],acc,h=>h
 |(n,k)::r,acc,h=>by
  rw [clOf]
  split
  ·refine qgz_ r _ ?_
   rw [List.lookup_cons]
   split
   ·exact ⟨_,rfl⟩
   ·exact h
  ·exact qgz_ r acc h
theorem qe7_ {env:Env} {x:Str}:∀(names:List (Str×NameKind)) (acc:List (Str×Addr)),(x,NameKind.free)∈names->∃c,(clOf env names acc).lookup x=some c
 |[],_,h=>nomatch h
 |(n,k)::r,acc,h=>by
  rw [clOf]
  rcases List.mem_cons.mp h with e|h
  ·cases e
   rw [if_pos (by rfl)]
   exact qgz_ r _ ⟨(env.cells.lookup x).getD 0,by rw [List.lookup_cons];simp⟩
  ·split
   ·exact qe7_ r _ h
   ·exact qe7_ r acc h
theorem qf2_ {scope:Scope} {env:Env} {x:Str} {k:NameKind} (hc:∀y∈scope.names,y.2≠ .cell) (hk:k= .cell\/k= .free) (h:(relabel scope env).names.lookup x=some k):(x,NameKind.free)∈scope.names:=by
 have h1:=PySem.mem_of_lookup h
 unfold relabel at h1
 obtain ⟨⟨n,k'⟩,hm,e⟩:=List.mem_map.mp h1
 dsimp only at e
 split at e
 ·rename_i hq
  cases e
  rw [Bool.and_eq_true,Bool.and_eq_true] at hq
  have:k'= .free:=by simpa using hq.1.1
  subst this
  exact hm
 ·cases e
  rcases hk with rfl|rfl
  ·exact absurd rfl (hc _ hm)
  ·exact hm
def q0_ (X:Cx) (pins:List (Addr×Obj)) (s2:Shared) (H2:Hp) (N:List Str) (scope:Scope) (C:Addr) (fp:List Addr):Cx:=
 {X with N:=N,s₀:=s2,H₀:=H2,env:=compEnvC scope (clOf X.env scope.names []) C X.env,outer:=X.stack,stack:=X.stack,ex:=fp,fn:=λ_=>false,pn:=X.pn++pins,xe:=λ_ _=>False}
def ini (src:List (Option Nat)) (σ:S):S:=src.map λo=>o.bind λj=>(σ[j]?).join
structure CompOk (X:Cx) (scope:Scope) (N:List Str) (src:List (Option Nat)):Prop where
 kind:scope.kind= .function
 names:∀x∈scope.names,x.2= .local->scope.names.lookup x.1=some .local
 ncell:∀y∈scope.names,y.2≠ .cell
 clos:(scope.names.all λy=>y.2 != .free||(X.env.cells.lookup y.1).isSome)=true
 len:src.length=N.length
 free:∀(i:Nat) (x:Str) (j:Nat),N[i]?=some x->src[i]?=some (some j)->X.N[j]?=some x/\Vis X.env.scope x/\X.env.scope.names.lookup x≠some .local/\
  ((relabel scope X.env).names.lookup x=some .cell\/(relabel scope X.env).names.lookup x=some .free)
theorem qj3_ {X:Cx} {pins:List (Addr×Obj)} {σ:S} {H H':Hp} {s:Shared} {b:Addr} (I:Inv X pins σ H s) (h:FpOk X pins H' b):b∉frs X.stack:=λz=>by
 rcases List.mem_cons.mp (I.stkSub b z) with e|e
 ·exact h.2.1 e
 ·exact h.2.2.1 e
theorem qoh_ {X:Cx} {pins:List (Addr×Obj)} {σ:S} {H:Hp} {s2:Shared} {scope:Scope} {N:List Str} {src:List (Option Nat)} {fp:List Addr} (I:Inv X pins σ H s2) (ok:CompOk X scope N src) (hf:∀b∈fp,FpOk X pins H b) (hfo:∀b∈fp,∃o,s2.heap.get? b=some o)
  {D C:Addr} {h':Heap} {t:Nat} (hD:s2.heap.objs.size<=D) (hC:s2.heap.objs.size<=C) (hCD:C≠D) (keep:∀b o,s2.heap.get? b=some o->h'.get? b=some o) (hns:h'.Ns C (λ_=>none)) (hnew:h'.get? D=some {cls:= .type "list",data:= .seq #[]}):
  Inv (q0_ X pins s2 H N scope C fp) [] (ini src σ) (upd H D (.lst [])) {s2 with heap:=h',toks:=t}:=by
 have hH:∀a,s2.heap.objs.size<=a->H a=none:=λa ha=>I.hok.fresh ha
 have lt:∀{b:Addr} {o:Obj},s2.heap.get? b=some o->b<s2.heap.objs.size:=λe=>Heap.lt_size e
 have cl_of:∀x c,(clOf X.env scope.names []).lookup x=some c->X.env.cells.lookup x=some c:=λx c e=>qcx_ scope.names [] ok.clos (λc z=>by simp at z) e
 have hlk:HOk X.prog X.w (upd H D (.lst [])) h':=I.hok.laid keep hD ⟨Nat.zero_le _,[],0,.nil,hnew⟩
 have un:Un (frs X.stack) fp H (upd H D (.lst [])) s2.heap h':=Un.laid keep hD (hH D hD)
 obtain ⟨m0,hn0,hl0⟩:=I.loc
 refine ⟨⟨I.ok.mod,?_,I.ok.glob,I.ok.blt,hC,λx y c e1 e2=>I.ok.inj x y c (cl_of x c e1) (cl_of y c e2),λx hx=>?_,λx c z=>?_,I.ok.hd,I.ok.frames,.inl rfl,λb hb=>⟨?_,λx c e=>?_⟩,I.bs,Nat.le_trans I.ok.bsz I.sz,λb o e hb=>?_,λb hb=>qj3_ I (hf b hb),I.stack,I.stkFree⟩,
  rfl,I.bare,un,⟨_,hns,λi x v e1 e2 e3=>?_⟩,λx c e=>?_,?_,λx c e=>?_,λp hp=>?_,hlk,?_⟩
 ·exact ok.kind
 ·obtain ⟨k,hk,hx⟩:∃k,(k=NameKind.cell\/k= .free)/\(relabel scope X.env).names.lookup x=some k:=by
   rcases hx with hx|hx
   ·exact ⟨_,.inl rfl,hx⟩
   ·exact ⟨_,.inr rfl,hx⟩
  exact qe7_ _ _ (qf2_ ok.ncell hk hx)
 ·exact absurd z (by simp [q0_])
 ·obtain ⟨o,e⟩:=hfo b hb
  intro z
  have z':b=C:=z
  subst z'
  exact Nat.lt_irrefl _ (Nat.lt_of_lt_of_le (lt e) hC)
 ·intro z
  exact (hf b hb).2.2.2.2.1 x c (cl_of x c e) z
 ·obtain ⟨f0,f1,f2,f3,f4,f5⟩:=hf b hb
  rcases f3 with z|z
  ·exact I.ok.noex b o e z
  ·exact absurd (Nat.lt_of_lt_of_le (Heap.lt_size (I.ok.bs b o e).1) z) (Nat.lt_irrefl _)
 ·have hj:∃j,src[i]?=some (some j)/\σ[j]?=some (some v):=by
   unfold ini at e2
   rw [List.getElem?_map] at e2
   cases q:src[i]? with
   |none=>rw [q] at e2;simp at e2
   |some oj=>
    cases oj with
    |none=>rw [q] at e2;simp at e2
    |some j=>
     rw [q] at e2
     simp only [Option.map_some,Option.bind_some,Option.some.injEq] at e2
     refine ⟨j,rfl,?_⟩
     cases q2:σ[j]? with
     |none=>rw [q2] at e2;simp at e2
     |some ov=>rw [q2] at e2;simp only [Option.join_some] at e2;rw [e2]
  obtain ⟨j,hj1,hj2⟩:=hj
  obtain ⟨g1,g2,g3,g4⟩:=ok.free i x j e1 hj1
  obtain ⟨u,ru,lk⟩:=hl0 j x v g1 hj2 g2
  refine ⟨u,ru,?_⟩
  rcases lk with ⟨hk,_⟩|⟨hk,c,hc,hcell⟩
  ·exact absurd hk g3
  ·obtain ⟨k,hk1,hk2⟩:∃k,(k=NameKind.cell\/k= .free)/\(relabel scope X.env).names.lookup x=some k:=by
    rcases g4 with hx|hx
    ·exact ⟨_,.inl rfl,hx⟩
    ·exact ⟨_,.inr rfl,hx⟩
   obtain ⟨c',hc'⟩:=qe7_ (env:=X.env) scope.names [] (qf2_ ok.ncell hk1 hk2)
   have ec:=cl_of x c' hc'
   rw [hc] at ec
   cases ec
   refine .inr ⟨?_,c,hc',?_⟩
   ·rcases g4 with hx|hx
    ·exact .inl hx
    ·exact .inr hx
   ·obtain ⟨o,ho,hd⟩:=hcell
    exact ⟨o,keep c o ho,hd⟩
 ·obtain ⟨v,o,ho,hd⟩:=I.cell x c (cl_of x c e)
  exact ⟨v,o,keep c o ho,hd⟩
 ·show upd H D (.lst []) C=none
  rw [qo_ hCD]
  exact hH C hC
 ·obtain ⟨v,o,ho,hd⟩:=I.cell x c (cl_of x c e)
  rw [qo_ (Nat.ne_of_lt (Nat.lt_of_lt_of_le (lt ho) hD))]
  exact I.freeC x c (cl_of x c e)
 ·have hp':p∈X.pn++pins:=by
   have:p∈(X.pn++pins)++[]:=hp
   simpa using this
  obtain ⟨q1,q2,q3,q4,q5⟩:=I.pin p hp'
  refine ⟨keep _ _ q1,?_,?_,λz=>?_,q5⟩
  ·rw [qo_ (Nat.ne_of_lt (Nat.lt_of_lt_of_le (lt q1) hD))];exact q2
  ·show p.1≠C
   exact Nat.ne_of_lt (Nat.lt_of_lt_of_le (lt q1) hC)
  ·have z':p.1∈frs X.stack:=z
   rcases List.mem_cons.mp (I.stkSub _ z') with e|e
   ·exact q3 e
   ·exact q4 e
 ·show (ini src σ).length=N.length
  unfold ini
  rw [List.length_map]
  exact ok.len
theorem qtv_ {X:Cx} {pins:List (Addr×Obj)} {σ:S} {H Hc:Hp} {s2:Shared} {scope:Scope} {N:List Str} {C:Addr} {fp:List Addr} (I:Inv X pins σ H s2) (hf:∀b∈fp,FpOk X pins H b) (hfo:∀b∈fp,∃o,s2.heap.get? b=some o) (hC:s2.heap.objs.size<=C)
  (clos:(scope.names.all λy=>y.2 != .free||(X.env.cells.lookup y.1).isSome)=true) (hn:∀b∈fp,Hc b=none):∀b∈fp,FpOk (q0_ X pins s2 H N scope C fp) [] Hc b:=λb hb=>by
 obtain ⟨o,e⟩:=hfo b hb
 refine ⟨hn b hb,Nat.ne_of_lt (Nat.lt_of_lt_of_le (Heap.lt_size e) hC),qj3_ I (hf b hb),.inl hb,λx c q=>?_,λp hp=>?_⟩
 ·exact (hf b hb).2.2.2.2.1 x c (qcx_ scope.names [] clos (λc z=>by simp at z) q)
 ·have hp':p∈X.pn++pins:=by
   have:p∈(X.pn++pins)++[]:=hp
   simpa using this
  exact (hf b hb).2.2.2.2.2 p hp'
theorem qnj_ {X:Cx} {pins:List (Addr×Obj)} {σ σc:S} {H Hc:Hp} {s2 s':Shared} {scope:Scope} {N:List Str} {C:Addr} {fp:List Addr} {pl:List (Addr×Obj)} (I:Inv X pins σ H s2) (hf:∀b∈fp,FpOk X pins H b)
  (J:Inv (q0_ X pins s2 H N scope C fp) pl σc Hc s'):Inv X pins σ Hc s':=
 I.call' (ch:=fp) J.os J.base J.hok J.bare λb hb=>by
  obtain ⟨f0,f1,f2,f3,f4,f5⟩:=hf b hb
  exact ⟨f3,f1,f4,f5⟩
def qr4_ (J:It) (g:TG) (tc:TT) (te:TE) (D:Addr) (σ:S) (H:Hp) (R:Hp->Prop):Prop:=∃W:Nat->Nat->S->Hp->Prop,(∃m,W 0 m σ H)/\∀i m σ2 H2,W i m σ2 H2->
 (J.stop i H2/\R H2)\/(J.go i H2/\∃N:S->Hp->Prop,(∀σ' H',N σ' H'->∃m',m'<m/\W (i+1) m' σ' H')/\∀x H3,J.yld i H2 x H3->g x σ2 H3 λσ4 H4=>tc σ4 H4 λb H5=>
  if b=true then te σ4 H5 λy H6=>∃ys,H6 D=some (.lst ys)/\ys.length<sizeLine/\N σ4 (upd H6 D (.lst (ys++[y]))) else N σ4 H5)
def qmg_ (wi:TI) (g:TG) (tc:TT) (te:TE) (src:List (Option Nat)):TE:=λσ H Q=>wi σ H λJ H1=>∀D,H1 D=none->qr4_ J g tc te D (ini src σ) (upd H1 D (.lst [])) (Q (.ref D))
def tYes:TT:=λ_ H Q=>Q true H
def PIfs (X:Cx) (ifs:List Expr) (t:TT):Prop:=
 ∀(pins:List (Addr×Obj)) (s:Shared) (σ:S) (H:Hp) (Q:Bool->Hp->Prop),Inv X pins σ H s->t σ H Q->
  wpAny (model X.prog X.w) X.A (forIn ifs true λc r=>if r=true then do let ok <-isTrue c X.env (eval c X.env);pure (ForInStep.yield ok) else pure (ForInStep.yield r)) (TP X pins σ Q) X.xe s
theorem qq2_ {X:Cx}:PIfs X [] tYes:=λ_ _ _ H _ I h=>wpAny_tests_nil ⟨H,I,h⟩
theorem qpt_ {X:Cx} {c:Expr} {t:TT} (h:PT X c t):PIfs X [c] t:=λpins s σ H Q I q=>wpAny_tests_one (h pins s σ H Q I q)
theorem qhw_ {X:Cx} {pins:List (Addr×Obj)} {σ:S} {H2:Hp} {s2:Shared} {scope:Scope} {N:List Str} {src:List (Option Nat)} {fp:List Addr} {it:Addr} {tn:Nat->Heap->Prop} {J:It} {tg elt iter:Expr} {ifs:List Expr} {pos:Pos} {g:TG} {tc:TT} {te:TE} {Q:VK}
  {E:Value->Shared->Prop} {RR:Value->Addr->Result->Shared->Prop}
  (ok:CompOk X scope N src) (hcalm:X.calm=true) (I:Inv X pins σ H2 s2) (T:Turn X.prog X.w X.K tg J fp it tn) (st:tn 0 s2.heap) (hf:∀b∈fp,FpOk X pins H2 b)
  (hg:∀C,PG (q0_ X pins s2 H2 N scope C fp) tg g) (hc:∀C,PIfs (q0_ X pins s2 H2 N scope C fp) ifs tc) (he:∀C,PE (q0_ X pins s2 H2 N scope C fp) elt te)
  (h:∀D,H2 D=none->qr4_ J g tc te D (ini src σ) (upd H2 D (.lst [])) (Q (.ref D)))
  (hRR:∀D C s' H',FpOk X pins H' C->(∃m,s'.heap.Ns C m)->Inv X pins σ H' s'->Q (.ref D) H'->RR (.ref D) C (.ok .next) s'):
  wpAny (model X.prog X.w) X.A (newList []) (λacc s3=>wpAny (model X.prog X.w) X.A (newFunctionEnv scope X.env.globals (clOf X.env scope.names []) [] X.env.qual none .none (some X.env)) (λcenv s4=>
   codeAny (model X.prog X.w) X.A (.compStart (.ListComp elt [⟨tg,iter,ifs,0⟩] scope pos) 0 (.ref it) acc {cenv with scope:=relabel scope X.env}) (RR acc cenv.locals) s4) E s3) E s2:=by
 refine wpAny_newObj_type (wpAny_newFunctionEnv ok.ncell (by intro y hy;simp at hy) (λh1 hns1 hsb1=>?_) ok.kind)
 have hfo:∀b∈fp,∃o,s2.heap.get? b=some o:=λb hb=>let ⟨o,e,_⟩:=T.obj 0 _ st b hb;⟨o,e⟩
 have hpush:(s2.heap.push {cls:= .type "list",dict:=none,data:= .seq ([]:List Value).toArray}).objs.size=s2.heap.objs.size+1:=Heap.size_push ..
 generalize hH:s2.heap.push {cls:= .type "list",dict:=none,data:= .seq ([]:List Value).toArray}=hp at hns1 hsb1 hpush ⊢
 dsimp only at hns1 hsb1 ⊢
 have hD:s2.heap.objs.size<=s2.heap.objs.size:=Nat.le_refl _
 have hC:s2.heap.objs.size<=hp.objs.size:=by rw [hpush];exact Nat.le_succ _
 have hCD:hp.objs.size≠s2.heap.objs.size:=by rw [hpush];exact Nat.succ_ne_self _
 have keep:∀b o,s2.heap.get? b=some o->h1.get? b=some o:=λb o e=>
  hsb1.extBut b o (Nat.ne_of_lt (Nat.lt_of_lt_of_le (Heap.lt_size e) hC)) (Heap.get?_push_of_some _ (hH ▸ Heap.get?_push_of_some _ e))
 have hnew:h1.get? s2.heap.objs.size=some {cls:= .type "list",data:= .seq #[]}:=
  hsb1.extBut _ _ (Ne.symm hCD) (Heap.get?_push_of_some _ (hH ▸ Heap.get?_push_size _ rfl))
 have hHD:H2 s2.heap.objs.size=none:=I.hok.fresh hD
 obtain ⟨W,⟨m0,w0⟩,turn⟩:=h _ hHD
 have I0:=qoh_ (t:=s2.toks+([]:List (Str×Value)).length) I ok hf hfo hD hC hCD keep hns1 hnew
 have f0:∀b∈fp,upd H2 s2.heap.objs.size (.lst []) b=none:=λb hb=>by
  obtain ⟨o,e⟩:=hfo b hb
  rw [qo_ (Nat.ne_of_lt (Heap.lt_size e))]
  exact (hf b hb).1
 have st0:tn 0 h1:=T.keep 0 _ _ st λb _ o e=>keep b o e
 have loop:codeAny (model X.prog X.w) X.A (.compLoop (.ListComp elt [⟨tg,iter,ifs,0⟩] scope pos) 0 (.ref it) (.ref s2.heap.objs.size) (compEnvC scope (clOf X.env scope.names []) hp.objs.size X.env))
   (RR (.ref s2.heap.objs.size) hp.objs.size) {s2 with heap:=h1,toks:=s2.toks+([]:List (Str×Value)).length}:=by
  refine qli_ (λn s=>∃i σc Hc,Inv (q0_ X pins s2 H2 N scope hp.objs.size fp) [] σc Hc s/\tn i s.heap/\(∀b∈fp,Hc b=none)/\W i n σc Hc) ?_ m0 ⟨0,_,_,I0,st0,f0,w0⟩
  rintro n s3 ⟨i,σ3,H3,I3,st3,fr3,w3⟩
  have fps:=λ{Hc:Hp} (hn:∀b∈fp,Hc b=none)=>qtv_ (N:=N) I hf hfo hC ok.clos hn
  rcases turn i n σ3 H3 w3 with ⟨stop,qn⟩|⟨go,NN,hNN,step⟩
  ·refine wpAny_mono (T.done (q0_ X pins s2 H2 N scope hp.objs.size fp) rfl rfl rfl hcalm i [] s3 σ3 H3 (λ_ _=>False) I3 (fps fr3) st3 stop) (λr s4 h4=>?_) λ_ _ z=>z
   obtain ⟨rfl,I4⟩:=h4
   have J4:=qnj_ I hf I4
   obtain ⟨m4,n4,_⟩:=I4.loc
   exact hRR _ _ s4 H3 (I.fpOk hC I4.free) ⟨m4,n4⟩ J4 qn
  ·refine wpAny_mono (T.item (q0_ X pins s2 H2 N scope hp.objs.size fp) rfl rfl rfl hcalm i [] s3 σ3 H3 (λ_ _=>False) I3 (fps fr3) st3 go) (λr s4 h4=>?_) λ_ _ z=>z
   obtain ⟨u,rfl,h4⟩:=h4
   refine wpAny_mono h4 (λ_ s5 h5=>?_) λ_ _ z=>z
   obtain ⟨x,H5,I5,r5,y5,st5,fr5⟩:=h5
   have I5':=I5.pinned (fps fr5) (T.obj _ _ st5)
   refine wpAny_mono (hg hp.objs.size _ s5 σ3 H5 x u _ I5' r5 (step x H5 y5)) (λ_ s6 h6=>?_) λ_ _ z=>z
   obtain ⟨σ6,H6,I6,q6⟩:=h6
   refine wpAny_mono (hc hp.objs.size _ s6 σ6 H6 _ I6 q6) (λb s7 h7=>?_) λ_ _ z=>z
   obtain ⟨H7,I7,q7⟩:=h7
   have again:∀{s8:Shared} {H8:Hp},Inv (q0_ X pins s2 H2 N scope hp.objs.size fp) ([]++qhl_ fp s5.heap) σ6 H8 s8->NN σ6 H8->∃m,m<n/\∃i σc Hc,Inv (q0_ X pins s2 H2 N scope hp.objs.size fp) [] σc Hc s8/\tn i s8.heap/\(∀b∈fp,Hc b=none)/\W i m σc Hc:=λ{s8 H8} I8 q8=>by
    obtain ⟨m',hm,w8⟩:=hNN _ _ q8
    refine ⟨m',hm,i+1,σ6,H8,I8.unpinned,T.keep _ _ _ st5 λb hb o e=>(I8.pin (b,o) (List.mem_append_right _ (List.mem_append_right _ (qd0_ hb e)))).1,λb hb=>?_,w8⟩
    obtain ⟨o,e,d⟩:=T.obj _ _ st5 b hb
    exact (I8.pin (b,o) (List.mem_append_right _ (List.mem_append_right _ (qd0_ hb e)))).2.1
   cases b with
   |false=>
    rw [if_neg Bool.false_ne_true] at q7 ⊢
    exact again I7 q7
   |true=>
    rw [if_pos rfl] at q7 ⊢
    refine wpAny_mono (he hp.objs.size _ s7 σ6 H7 _ I7 q7) (λyv s8 h8=>?_) λ_ _ z=>z
    obtain ⟨y,H8,I8,r8,ys,hys,hz,q8⟩:=h8
    refine wpAny_mono (qfm_ (X:=q0_ X pins s2 H2 N scope hp.objs.size fp) _ s8 σ6 H8 (.ref s2.heap.objs.size) [y] _ [yv] (λ_ H9=>NN σ6 H9) I8 rfl (.cons r8 .nil) ⟨_,ys,y,rfl,rfl,hys,hz,q8⟩) (λ_ s9 h9=>?_) λ_ _ z=>z
    obtain ⟨_,H9,I9,_,q9⟩:=h9
    exact again I9 q9
 exact codeAny_compStart_list loop (T.self _ _ _ _ _ st0 loop)
theorem ql3_ {X:Cx} {scope:Scope} {tg elt iter:Expr} {ifs:List Expr} {pos:Pos} {wi:TI} {g:TG} {tc:TT} {te:TE} (N:List Str) (src:List (Option Nat)) (ok:CompOk X scope N src) (hcalm:X.calm=true) (hi:PI X tg iter wi)
  (hg:∀pins s2 H2 C fp,PG (q0_ X pins s2 H2 N scope C fp) tg g) (hc:∀pins s2 H2 C fp,PIfs (q0_ X pins s2 H2 N scope C fp) ifs tc) (he:∀pins s2 H2 C fp,PE (q0_ X pins s2 H2 N scope C fp) elt te)
  (hs:∀x,foldedSetIterable iter X.env x=pure x:=by intro _;rfl):PE X (.ListComp elt [⟨tg,iter,ifs,0⟩] scope pos) (qmg_ wi g tc te src):=by
 intro pins s σ H Q I h
 rw [eval_ListComp]
 refine wpAny_comprehension_free (use:=none) rfl hs (qgn_ ok.clos) ok.kind ok.names (wpAny_mono (hi pins s σ H _ I h) (λxv s1 h1=>wpAny_mono h1 (λitv s2 h2=>?_) λ_ _ e=>e) λ_ _ e=>e)
 obtain ⟨it,fp,tn,J,H2,rfl,I2,T,st2,f2,hh⟩:=h2
 refine qhw_ (RR:=λacc C=>compPost (model X.prog X.w) X.A X.xe none (EP X pins σ Q) acc C) ok hcalm I2 T st2 f2 (λC=>hg pins s2 H2 C fp) (λC=>hc pins s2 H2 C fp) (λC=>he pins s2 H2 C fp) hh ?_
 intro D C s' H' fC hns I' q
 obtain ⟨m,hm⟩:=hns
 refine ⟨m,hm,λh' hs'=>?_⟩
 obtain ⟨f0,f1,f2,f3,f4,f5⟩:=fC
 exact ⟨.ref D,H',I'.turned (t':=s'.toks) (λb o hb e=>hs'.extBut b o hb e) f0 f1 f3 f4 f5,rfl,q⟩
theorem qgj_ {X:Cx} {scope:Scope} {tg elt iter:Expr} {ifs:List Expr} {pos cpos pos':Pos} {wi:TI} {g:TG} {tc:TT} {te:TE} {k:Nat} {x:Str} (hN:X.N.Nodup) (hk:X.N[k]?=some x) (hx:Loc X.env.scope x) (N:List Str) (src:List (Option Nat)) (ok:CompOk X scope N src) (hcalm:X.calm=true) (hi:PI X tg iter wi)
  (hg:∀pins s2 H2 C fp,PG (q0_ X pins s2 H2 N scope C fp) tg g) (hc:∀pins s2 H2 C fp,PIfs (q0_ X pins s2 H2 N scope C fp) ifs tc) (he:∀pins s2 H2 C fp,PE (q0_ X pins s2 H2 N scope C fp) elt te)
  (hsw:swapsWith (.ListComp elt [⟨tg,iter,ifs,0⟩] scope cpos) (some (.Name x pos')) pos.line X.env=pure true:=by rfl)
  (hs:∀x,foldedSetIterable iter X.env x=pure x:=by intro _;rfl) (hfn:X.fn x=true\/X.env.scope.names.lookup x=some .local:=by first|exact .inl rfl|exact .inr rfl|assumption):
  PS X (.Assign [.Name x pos'] (.ListComp elt [⟨tg,iter,ifs,0⟩] scope cpos) pos) (tAsg (qmg_ wi g tc te src) (qnl_ k)):=by
 intro pins s σ H D I h
 rw [exec_Assign_Name_used _ _ _ _ hsw]
 refine wpAny_bind (wpAny_standAt (wpAny_bind ?_))
 show wpAny _ X.A (do let _ <-comprehension (.ListComp elt [⟨tg,iter,ifs,0⟩] scope cpos) scope X.env _ (newList []) false (eval iter X.env) (some (assign (.Name x pos') X.env))) _ _ s
 refine wpAny_bind (wpAny_mono (wpAny_comprehension_free (use:=some (assign (.Name x pos') X.env)) (Q:=λ_ s'=>SP X pins D .next s') rfl hs (qgn_ ok.clos) ok.kind ok.names
  (wpAny_mono (hi pins s σ H _ I h) (λxv s1 h1=>wpAny_mono h1 (λitv s2 h2=>?_) λ_ _ e=>e) λ_ _ e=>e)) (λ_ s' hq=>wpAny_pure (wpAny_pure hq)) λ_ _ e=>e)
 obtain ⟨it,fp,tn,J,H2,rfl,I2,T,st2,f2,hh⟩:=h2
 refine qhw_ (Q:=λv H'=>D.nx (σ.set k (some v)) H') (RR:=λacc C=>compPost (model X.prog X.w) X.A X.xe (some (assign (.Name x pos') X.env)) (λ_ s'=>SP X pins D .next s') acc C) ok hcalm I2 T st2 f2 (λC=>hg pins s2 H2 C fp) (λC=>hc pins s2 H2 C fp) (λC=>he pins s2 H2 C fp) hh ?_
 intro D' C s' H' fC hns I' q
 obtain ⟨m,hm⟩:=hns
 show wpAny _ X.A (assign (.Name x pos') X.env (.ref D')) _ _ _
 refine wpAny_assign_Name (qhs_ I' hN hk hx (v:= .ref D') rfl (λs'' I'' ⟨a,hsa,ha⟩=>?_) hfn)
 obtain ⟨f0,f1,f2,f3,f4,f5⟩:=fC
 have hCa:C≠a:=by
  rcases ha with e|e
  ·rw [e];exact f1
  ·exact Ne.symm (f4 x a e)
 refine ⟨m,hm.sameBut hsa hCa,λh' hs'=>?_⟩
 exact ⟨_,H',I''.turned (t':=s''.toks) (λb o hb e=>hs'.extBut b o hb e) f0 f1 f3 f4 f5,q⟩
end L3
namespace L3
open PySem PySem.Spec PyProof.Rows L2
structure Has (P:Program) (w:World) (K:PySem.W.Frag) (mg:Str->Option Value) (base:Heap) (CX:CXT) (k:Nat) (x:Str) (ps:List Str) (sp:Sp):Prop where
 ex:∃f fd,FnOk P w K mg base CX k f fd ps sp/\Binds K fd ps []/\PySem.W.keepIn K (.ref f)=true/\mg x=some (.ref f)
structure Def (K:PySem.W.Frag) (mg:Str->Option Value) (x:Str) (st:Stmt) (ps:List Str):Prop where
 ex:∃f fd,Fun K x x st f fd/\Binds K fd ps []/\mg x=some (.ref f)
theorem Def.has {P:Program} {w:World} {K:PySem.W.Frag} {mg:Str->Option Value} {base:Heap} {k:Nat} {x:Str} {st:Stmt} {N ps:List Str} {sp:Sp} (F:Def K mg x st ps) (sc:FnScope N ps (qe_ st)) (len:∀vs H Q E,sp vs H Q E->vs.length=ps.length)
  (hbody:∀(f:Addr) (cdv:Value) (A:Around) (outer:List Env) (s:Shared) (H:Hp) (vs:List V) (Q:VK) (E:XK),Room k (A.deeper (envOfC x (qe_ st) s.heap.objs.size f cdv))->sp vs H Q E->
   ∃t,PSs (cxOf CX0 P w K mg base N x (qe_ st) f cdv A outer s H E).nox (q8_ st) t/\t {nx:=λ_ H'=>Q .non H',rt:=Q} (start N vs) H):Has P w K mg base CX0 (k+1) x ps sp:=by
 obtain ⟨f,fd,F1,b,m⟩:=F.ex
 exact ⟨f,fd,F1.ok sc len (λcdv A outer s H vs Q E hr h=>hbody f cdv A outer s H vs Q E hr h),b,F1.kp,m⟩
section
variable {X:Cx} {CX:CXT} {k:Nat} {ps:List Str} {sp:Sp} {E:XK} {x:Str} {p pos:Pos} {e:Expr} {es:List Expr} {t:TA}
theorem pe_h (F:Has X.prog X.w X.K X.mg X.base CX k x ps sp) (hr:Room k X.A) (hg:Gl X x) (hx:qjr_ CX X E) (ha:PA X (e::es) t) (hdb:(x==("__debug__":Str))=false:=by decide) (he:starEach (e::es) X.env=(false,eval e X.env)::starEach es X.env:=by rfl) (hpl:(backTo pos (starEach es X.env)).any (·.1)=false:=by rfl):
  PE X (.Call (.Name x p) (e::es) [] pos) (qr5_ sp [] E t):=by
 obtain ⟨f,fd,F1,b,kp,m⟩:=F.ex
 exact qpv_ F1 hr hg m kp b .nil hx ha hdb he hpl
end
structure Bl (mg:Str->Option Value):Prop where
 len:mg "len"=none
 abs:mg "abs"=none
 isinstance:mg "isinstance"=none
 tuple:mg "tuple"=none
 list:mg "list"=none
 int:mg "int"=none
 bool:mg "bool"=none
 str:mg "str"=none
 range:mg "range"=none
 zip:mg "zip"=none
 all:mg "all"=none
 any:mg "any"=none
 ValueError:mg "ValueError"=none
theorem Same.new {H:Hp} {p:Addr} {o:HO} (h:H p=none):Same H (upd H p o):=λb u q=>by rw [qo_ (qbs_ q h)];exact q
theorem qf6_ {H:Hp} {p b:Addr} {o u:HO} (h:H p=none) (q:H b=some u):upd H p o b=some u:=by rw [qo_ (qbs_ q h)];exact q
def frD (q:Rat):D:= .tup [.int q.num,.int (q.den:Int)]
theorem qhy_ (q r:Rat):peq (frD q) (frD r)=decide (q=r):=by
 unfold frD
 simp only [peq,peqs,Bool.and_true]
 by_cases h:q=r
 ·subst h;simp
 ·have:¬(q.num=r.num/\q.den=r.den):=λz=>h (Rat.ext z.1 z.2)
  rw [decide_eq_false h,Bool.and_eq_false_iff]
  by_cases h1:q.num=r.num
  ·right
   rw [beq_eq_false_iff_ne]
   intro e
   exact this ⟨h1,by omega⟩
  ·left
   rw [beq_eq_false_iff_ne]
   exact h1
def SmR (n:Nat) (q:Rat):Prop:=Sm n q.num/\Sm n (q.den:Int)
theorem SmR.mono {a b:Nat} {q:Rat} (h:SmR a q) (k:a<=b):SmR b q:=⟨h.1.mono k,h.2.mono k⟩
theorem qm8_ (q:Rat):(0:Int)<(q.den:Int):=by have:=q.den_nz;omega
theorem qid_ (q:Rat):(q.den:Int)≠0:=by have:=q.den_nz;omega
theorem qpp_ {a b:Int} (hb:b≠0):(Rat.divInt a b).num=a.fdiv (if b<0 then -(Int.gcd a b:Int) else (Int.gcd a b:Int)):=by
 have h1:(Int.gcd a b:Int) ∣ a:=Int.gcd_dvd_left a b
 rw [Rat.num_divInt,Int.gcd_comm b a]
 split
 ·rename_i h
  rw [Int.fdiv_eq_ediv_of_dvd (Int.neg_dvd.mpr h1),Int.ediv_neg,Int.sign_eq_neg_one_of_neg h,Int.neg_mul,Int.one_mul,Int.neg_ediv_of_dvd h1]
 ·rename_i h
  rw [Int.fdiv_eq_ediv_of_dvd h1,Int.sign_eq_one_of_pos (by omega),Int.one_mul]
theorem qo7_ {a b:Int} (hb:b≠0):(((Rat.divInt a b).den:Nat):Int)=b.fdiv (if b<0 then -(Int.gcd a b:Int) else (Int.gcd a b:Int)):=by
 have h1:(Int.gcd a b:Int) ∣ b:=Int.gcd_dvd_right a b
 rw [Rat.den_divInt,if_neg hb,Int.gcd_comm b a]
 split
 ·rename_i h
  rw [Int.fdiv_eq_ediv_of_dvd (Int.neg_dvd.mpr h1),Int.ediv_neg,Int.natCast_ediv,<-Int.neg_ediv_of_dvd h1]
  congr 1
  omega
 ·rename_i h
  rw [Int.fdiv_eq_ediv_of_dvd h1,Int.natCast_ediv]
  congr 1
  omega
theorem qm5_ {a b:Int} (hb:b≠0):(Rat.divInt a b).den<=b.natAbs:=by
 rw [Rat.den_divInt,if_neg hb]
 exact Nat.div_le_self _ _
theorem qk9_ {a b:Int} (hb:b≠0):(Rat.divInt a b).num.natAbs<=a.natAbs:=by
 rw [Rat.num_divInt]
 have:=Int.natAbs_ediv_le_natAbs (b.sign*a) (b.gcd a:Int)
 rw [Int.natAbs_mul] at this
 have h2:b.sign.natAbs=1:=by
  rw [Int.natAbs_sign]
  rw [if_neg hb]
 rw [h2,Nat.one_mul] at this
 exact this
theorem qux_ {n:Nat} {a b:Int} (hb:b≠0) (ha:Sm n a) (hb':Sm n b):SmR n (Rat.divInt a b):=
 ⟨ha.le (qk9_ hb),hb'.le (by have:=qm5_ (a:=a) hb;simpa using this)⟩
theorem qn6_ (a b:Int):Int.gcd b (a.fmod b)=Int.gcd a b:=by
 rw [Int.fmod_def,Int.gcd_comm a b]
 have:=Int.gcd_sub_mul_right_right b a (a.fdiv b)
 rw [Int.mul_comm] at this
 exact this
theorem qkc_ {a b:Int} (h:b≠0):(a.fmod b).natAbs<b.natAbs:=by
 by_cases hb:0<b
 ·have h1:=Int.fmod_lt_of_pos a hb
  have h2:=Int.fmod_nonneg_of_pos a hb
  omega
 ·have hb':b<0:=by omega
  have e:a.fmod b= -((-a).fmod (-b)):=by
   rw [Int.neg_fmod_neg];omega
  have h1:=Int.fmod_lt_of_pos (-a) (b:= -b) (by omega)
  have h2:=Int.fmod_nonneg_of_pos (-a) (b:= -b) (by omega)
  omega
theorem qm0_ {a b:Int} (h:b≠0):0<Int.gcd a b:=Int.gcd_pos_of_ne_zero_right a h
theorem qpg_ {n:Nat} {a b:Int} (hb:b≠0) (h:Sm n b):Sm n (Int.gcd a b:Int):=by
 refine h.le ?_
 have:=Int.gcd_le_natAbs_right a hb
 simpa using this
theorem iteN {c:Bool} {A B:Prop} (h:c=false) (k:B):if c=true then A else B:=by subst h;rw [if_neg Bool.false_ne_true];exact k
theorem iteY {c:Bool} {A B:Prop} (h:c=true) (k:A):if c=true then A else B:=by subst h;rw [if_pos rfl];exact k
theorem iteB {c:Bool} {A B:Prop} (h1:c=true->A) (h2:c=false->B):if c=true then A else B:=by
 cases c with
 |true=>exact iteY rfl (h1 rfl)
 |false=>exact iteN rfl (h2 rfl)
theorem qtd_ (q r:Rat):Rat.divInt (q.num*(r.den:Int)+r.num*(q.den:Int)) ((q.den:Int)*(r.den:Int))=q+r:=by
 rw [Rat.add_def',<-Int.natCast_mul];rfl
theorem qri_ (q r:Rat):Rat.divInt (q.num*r.num) ((q.den:Int)*(r.den:Int))=q*r:=by
 rw [Rat.mul_def',<-Int.natCast_mul];rfl
theorem qvt_ (q r:Rat) (h:r.num≠0):Rat.divInt (q.num*(r.den:Int)) ((q.den:Int)*r.num)=q / r:=by
 have h1:=Rat.num_divInt_den q
 have h2:=Rat.num_divInt_den r
 rw [Rat.divInt_eq_div] at*
 rw [Rat.intCast_mul,Rat.intCast_mul]
 have a1:((q.den:Int):Rat)≠0:=by have:=q.den_nz;simpa using this
 have a2:((r.den:Int):Rat)≠0:=by have:=r.den_nz;simpa using this
 have a3:(r.num:Rat)≠0:=by simpa using h
 conv=>rhs;rw [<-h1,<-h2]
 grind
theorem r_lt (q r:Rat):decide (q.num*(r.den:Int)<r.num*(q.den:Int))=decide (q<r):=by
 congr 1
 rw [Rat.lt_iff]
theorem qmp_ {n:Nat} {i:Int} (h1: -(2 ^ n:Int)<i) (h2:i<(2 ^ n:Int)):Sm n i:=by
 unfold Sm
 have e:((2 ^ n:Nat):Int)=(2 ^ n:Int):=by simp
 omega
section
variable {X:Cx} {K:PySem.W.Frag}
end
end L3
namespace L3
open PySem PySem.Spec PyProof.Rows L2
def isCF:Option NameKind->Bool
 |some .cell=>true
 |some .free=>true
 |_=>false
theorem qi7_ {o:Option NameKind} (h:isCF o=true):o=some .cell\/o=some .free:=by
 unfold isCF at h
 split at h
 ·exact .inl rfl
 ·exact .inr rfl
 ·cases h
def qnx_ (X:Cx) (scope:Scope):List Str->List (Option Nat)->Bool
 |x::N,o::src=>(match o with
   |none=>true
   |some j=>decide (X.N[j]?=some x)&&isCF (X.env.scope.names.lookup x)&&isCF ((relabel scope X.env).names.lookup x))&&qnx_ X scope N src
 |_,_=>true
theorem q3_ {X:Cx} {scope:Scope}:∀{N:List Str} {src:List (Option Nat)},qnx_ X scope N src=true->∀(i:Nat) (x:Str) (j:Nat),N[i]?=some x->src[i]?=some (some j)->X.N[j]?=some x/\Vis X.env.scope x/\X.env.scope.names.lookup x≠some .local/\
  ((relabel scope X.env).names.lookup x=some .cell\/(relabel scope X.env).names.lookup x=some .free)
 |[],_,_,i,x,j,h1,_=>by simp at h1
 |_::_,[],_,i,x,j,_,h2=>by simp at h2
 |y::N,o::src,h,0,x,j,h1,h2=>by
  simp only [List.getElem?_cons_zero,Option.some.injEq] at h1 h2
  subst h1 h2
  rw [qnx_,Bool.and_eq_true,Bool.and_eq_true,Bool.and_eq_true] at h
  obtain ⟨⟨⟨a,b⟩,c⟩,_⟩:=h
  refine ⟨of_decide_eq_true a,?_,?_,qi7_ c⟩
  ·rcases qi7_ b with e|e
   ·exact .inr (.inl e)
   ·exact .inr (.inr e)
  ·rcases qi7_ b with e|e<;>rw [e]<;>simp
 |y::N,o::src,h,i+1,x,j,h1,h2=>by
  have h':(_&&qnx_ X scope N src)=true:=h
  rw [Bool.and_eq_true] at h'
  exact q3_ h'.2 i x j (by simpa using h1) (by simpa using h2)
theorem qeq_:∀{bs:List Bool} {us:List Value},Vals (bs.map V.bl) us->us=bs.map Value.bool
 |[],_,h=>by cases h;rfl
 |b::bs,_,h=>by
  cases h with
  |cons r rr=>cases r;rw [qeq_ rr];rfl
theorem qcc_ {a b:Nat} {q r:Rat} (h:SmR a q) (k:SmR b r):SmR (a+b) (q*r):=by
 rw [<-qri_]
 exact qux_ (Int.mul_ne_zero (qid_ q) (qid_ r)) (h.1.mul k.1) (h.2.mul k.2)
end L3
namespace L3
open PySem PySem.Spec PyProof.Rows L2
section
variable {X:Cx}
theorem qfh_ {bs:List Bool} {i:Nat} {v:Value} (h:(bs.map Value.bool)[i]?=some v):∃b,bs[i]?=some b/\v= .bool b:=by
 rw [List.getElem?_map] at h
 cases e:bs[i]? with
 |none=>rw [e] at h;cases h
 |some b=>rw [e] at h;injection h with h;exact ⟨b,rfl,h.symm⟩
def rAll (K:PySem.W.Frag):List V->Hp->VK->Prop:=λxs H Q=>∃(p:Addr) (bs:List Bool),xs=[.ref p]/\SqL K H p (bs.map V.bl)/\Q (.bl (bs.all id)) H
theorem qoa_ (hc:X.calm=true):qev_ X (.builtin "all") (rAll X.K):=by
 intro pins s σ H xs us Q I r h
 obtain ⟨p,bs,rfl,hq,q⟩:=h
 obtain ⟨u,rfl,rx⟩:=qgw_ r
 cases rx
 obtain ⟨its,rv,pl,hz⟩:=I.list hq
 have hb:=qeq_ rv
 subst hb
 have hl:=pl.isList
 have hlt:p<s.heap.objs.size:=by obtain ⟨_,e,_⟩:=hl;exact Heap.lt_size e
 refine call_all_walk (wpAny_pyIter_list hl ?_)
 refine ⟨s.heap.objs.size,[s.heap.objs.size,p],[s.heap.objs.size],(bs.map Value.bool).toArray.size,_,_,λi=>(bs[i]?).getD true,rfl,Walks.list (A:=X.A.in1) (I.ok.hd hc) _ p (Nat.ne_of_lt hlt) (bs.map Value.bool).toArray,
  ⟨⟨_,Heap.get?_push_size _ rfl,rfl,rfl⟩,hl.push _⟩,λi v s' Q' E' hP hQ=>?_,λh' tk hk=>?_⟩
 ·obtain ⟨b,e,rfl⟩:=qfh_ (bs:=bs) (i:=i) (v:=v) (by simpa using hP)
  simp only [e,Option.getD_some] at hQ
  exact wpAny_truthy_bool hQ
 ·have e:((List.range (bs.map Value.bool).toArray.size).all λi=>(bs[i]?).getD true)=bs.all id:=by
   rw [List.size_toArray,List.length_map];exact LSm.range_all bs
  rw [e]
  exact ⟨.bl (bs.all id),H,I.kept (t':=tk) (LSm.kept_iter hk),rfl,q⟩
def rAny (K:PySem.W.Frag):List V->Hp->VK->Prop:=λxs H Q=>∃(p:Addr) (bs:List Bool),xs=[.ref p]/\SqL K H p (bs.map V.bl)/\Q (.bl (bs.any id)) H
theorem qnc_ (hc:X.calm=true):qev_ X (.builtin "any") (rAny X.K):=by
 intro pins s σ H xs us Q I r h
 obtain ⟨p,bs,rfl,hq,q⟩:=h
 obtain ⟨u,rfl,rx⟩:=qgw_ r
 cases rx
 obtain ⟨its,rv,pl,hz⟩:=I.list hq
 have hb:=qeq_ rv
 subst hb
 have hl:=pl.isList
 have hlt:p<s.heap.objs.size:=by obtain ⟨_,e,_⟩:=hl;exact Heap.lt_size e
 refine call_any_walk (wpAny_pyIter_list hl ?_)
 refine ⟨s.heap.objs.size,[s.heap.objs.size,p],[s.heap.objs.size],(bs.map Value.bool).toArray.size,_,_,λi=>(bs[i]?).getD false,rfl,Walks.list (A:=X.A.in1) (I.ok.hd hc) _ p (Nat.ne_of_lt hlt) (bs.map Value.bool).toArray,
  ⟨⟨_,Heap.get?_push_size _ rfl,rfl,rfl⟩,hl.push _⟩,λi v s' Q' E' hP hQ=>?_,λh' tk hk=>?_⟩
 ·obtain ⟨b,e,rfl⟩:=qfh_ (bs:=bs) (i:=i) (v:=v) (by simpa using hP)
  simp only [e,Option.getD_some] at hQ
  exact wpAny_truthy_bool hQ
 ·have e:((List.range (bs.map Value.bool).toArray.size).any λi=>(bs[i]?).getD false)=bs.any id:=by
   rw [List.size_toArray,List.length_map];exact LSm.range_any bs
  rw [e]
  exact ⟨.bl (bs.any id),H,I.kept (t':=tk) (LSm.kept_iter hk),rfl,q⟩
end
def tyN:D->String
 | .non=>"NoneType"
 | .bl _=>"bool"
 | .int _=>"int"
 | .str _=>"str"
 | .tup _=>"tuple"
 | .lst _=>"list"
def qt4_:D->Bool
 | .tup _=>true
 |_=>false
section
variable {K:PySem.W.Frag}
theorem quh_ (d:D):PySem.W.kitOne K (.type (tyN d)) (.type "tuple")=some (qt4_ d):=by cases d<;>first|rfl|with_unfolding_all rfl
end
def cutD {α:Type} (xs:List α) (lo hi:Option Int):List α:=(xs.drop (HT.sIx xs.length 0 lo)).take (HT.sIx xs.length xs.length hi - HT.sIx xs.length 0 lo)
theorem cut_to {α:Type} {xs:List α} {i:Int} (h0:0<=i):cutD xs none (some i)=xs.take i.toNat:=by
 unfold cutD HT.sIx
 dsimp only
 rw [if_neg (by omega),List.drop_zero,Nat.sub_zero,List.take_eq_take_iff]
 omega
theorem cut_from {α:Type} {xs:List α} {i:Int} (h0:0<=i):cutD xs (some i) none=xs.drop i.toNat:=by
 unfold cutD HT.sIx
 dsimp only
 rw [if_neg (by omega)]
 by_cases h:i.toNat<=xs.length
 ·rw [Nat.min_eq_left h,List.take_of_length_le (by rw [List.length_drop];omega)]
 ·rw [Nat.min_eq_right (by omega),List.drop_eq_nil_of_le (Nat.le_refl _),List.drop_eq_nil_of_le (by omega),List.take_nil]
theorem cut_map {α β:Type} (f:α->β) (xs:List α) (lo hi:Option Int):cutD (xs.map f) lo hi=(cutD xs lo hi).map f:=by
 unfold cutD
 rw [List.length_map,List.map_take,List.map_drop]
section
variable {X:Cx} {pos:Pos} {es:List Expr} {t:TA}
end
end L3
namespace L3
open PySem PySem.Spec PyProof.Rows L2
section
variable {X:Cx} {pins:List (Addr×Obj)} {σ:S} {H:Hp} {s:Shared} {h':Heap}
theorem qkv_ {t':Nat} {ch:List Addr} (I:Inv X pins σ H s) (k:∀b o,b∉ch->s.heap.get? b=some o->h'.get? b=some o) (hf:∀b∈ch,FpOk X pins H b):Inv X pins σ H {s with heap:=h',toks:=t'}:=by
 have nit:∀b u,H b=some u->b∉ch:=λb u e z=>by rw [(hf b z).1] at e;cases e
 refine I.step (g':=s.gens) (d':=s.drawn) (ch:=ch) (λb hb=>?_) (λb o _ _ hc e _=>k b o hc e) (λb o _ _ hc e _=>⟨o.slots,k b o hc e⟩) (λ_ _ _ _ n=>n)
  (λb o hc e=>⟨o,k b o hc e⟩) (λ_ _ e=>e) (λ_ _ _ e=>e) (λb ps e=>⟨#[],by rw [e];simp⟩) (λm hm=>?_) (λb u e=>?_) I.bare
 ·obtain ⟨f0,f1,f2,f3,f4,f5⟩:=hf b hb
  exact ⟨f3,f1,f4,f5⟩
 ·obtain ⟨o,es,ep,ho,r⟩:=hm
  exact ⟨o,es,ep,k _ o (λz=>(hf _ z).2.1 rfl) ho,r⟩
 ·refine (I.hok b u e).stay (λc v hc q=>k c v ?_ q) (λ_ q=>q) λ_ _ q=>q
  rcases hc with z|z
  ·rw [z];exact nit b u e
  ·exact nit c _ z
theorem ql7_ {t':Nat} {ch:List Addr} {T:Addr} {xs:List V} {us:List Value} (I:Inv X pins σ H s) (k:∀b o,b∉ch->s.heap.get? b=some o->h'.get? b=some o) (hf:∀b∈ch,FpOk X pins H b) (hT:s.heap.objs.size<=T) (hz:xs.length<=sizeLine) (r:Vals xs us) (ht:IsTup h' T us.toArray):
  Inv X pins σ (upd H T (.tup xs)) {s with heap:=h',toks:=t'}:=by
 have nit:∀b u,H b=some u->b∉ch:=λb u e z=>by rw [(hf b z).1] at e;cases e
 have nT:H T=none:=I.hok.fresh hT
 have neT:∀{b:Addr} {o:Obj},s.heap.get? b=some o->b≠T:=λe z=>by subst z;exact Nat.lt_irrefl _ (Nat.lt_of_lt_of_le (Heap.lt_size e) hT)
 refine I.step (g':=s.gens) (d':=s.drawn) (ch:=ch) (λb hb=>?_) (λb o _ _ hc e _=>k b o hc e) (λb o _ _ hc e _=>⟨o.slots,k b o hc e⟩) (λb o _ e n=>by rw [qo_ (neT e)];exact n)
  (λb o hc e=>⟨o,k b o hc e⟩) (λb xs e=>qf6_ nT e) (λb o u e=>qf6_ nT e) (λb ps e=>⟨#[],by rw [qf6_ nT e];simp⟩) (λm hm=>?_) (λb u e=>?_) I.bare
 ·obtain ⟨f0,f1,f2,f3,f4,f5⟩:=hf b hb
  exact ⟨f3,f1,f4,f5⟩
 ·obtain ⟨o,es,ep,ho,r⟩:=hm
  exact ⟨o,es,ep,k _ o (λz=>(hf _ z).2.1 rfl) ho,r⟩
 ·by_cases z:b=T
  ·subst z
   rw [qt_] at e
   cases e
   exact ⟨hz,us,r,ht⟩
  ·rw [qo_ z] at e
   refine (I.hok b u e).stay (λc v hc q=>k c v ?_ q) (λc q=>qf6_ nT q) λc _ q=>qf6_ nT q
   rcases hc with z|z
   ·rw [z];exact nit b u e
   ·exact nit c _ z
end
def Itz (K:PySem.W.Frag) (a b:Addr):It:=
  ⟨fun i H => ∃ xs ys x y, SqL K H a xs ∧ SqL K H b ys ∧ xs[i]? = some x ∧ ys[i]? = some y,
   fun i H v H'=>∃p x y,v= .ref p∧H p=none∧H'=upd H p (.tup [x,y])∧(∀xs,SqL K H a xs→xs[i]?=some x)∧∀ys,SqL K H b ys→ys[i]?=some y,
   fun i H=>∃xs ys,SqL K H a xs∧SqL K H b ys∧(xs.length≤i∨ys.length≤i)⟩
def qvq_ (a b z TI TO i1 i2:Addr) (i:Nat) (h:Heap):Prop:=IsZip h z TI TO .none/\IsPair h TI (.ref i1) (.ref i2)/\(∃u v,IsPair h TO u v)/\h.IsListIter i1 a i/\h.IsListIter i2 b i
theorem qok_ {P:Program} {w:World} {K:PySem.W.Frag} {elts:List Expr} {k:Nat} {pos:Pos} {a b z TI TO i1 i2:Addr} (D:ZipApart z TI TO i1 i2 a b):Turn P w K (.Tuple elts k pos) (Itz K a b) [z,TI,TO,i1,i2] z (qvq_ a b z TI TO i1 i2) where
 mem:=by simp
 obj:=λi h st b' hb=>by
  obtain ⟨h1,h2,⟨u,v,h3⟩,h4,h5⟩:=st
  simp only [List.mem_cons,List.not_mem_nil,or_false] at hb
  rcases hb with rfl|rfl|rfl|rfl|rfl
  ·exact ⟨_,h1,λv z=>by cases z⟩
  ·exact ⟨_,h2,λv z=>by cases z⟩
  ·exact ⟨_,h3,λv z=>by cases z⟩
  ·obtain ⟨o,e,c,d⟩:=h4
   exact ⟨o,e,λv z=>by rw [d] at z;cases z⟩
  ·obtain ⟨o,e,c,d⟩:=h5
   exact ⟨o,e,λv z=>by rw [d] at z;cases z⟩
 keep:=λi h h' st kp=>by
  obtain ⟨h1,h2,⟨u,v,h3⟩,h4,h5⟩:=st
  exact ⟨kp z (by simp) _ h1,kp TI (by simp) _ h2,⟨u,v,kp TO (by simp) _ h3⟩,h4.at λo e=>kp i1 (by simp) o e,h5.at λo e=>kp i2 (by simp) o e⟩
 item:=by
  intro X hP hw hK hc i pins s σ H E I hf st hg
  subst hP hw hK
  obtain ⟨xs,ys,x,y,hqa,hqb,hx,hy⟩:=hg
  obtain ⟨ia,ra,pa,za⟩:=I.list hqa
  obtain ⟨ib,rb,pb,zb⟩:=I.list hqb
  obtain ⟨u,hu,ru⟩:=ra.get hx
  obtain ⟨v,hv,rv⟩:=rb.get hy
  obtain ⟨h1,h2,⟨t1,t2,h3⟩,h4,h5⟩:=st
  have h40:=h4
  have h50:=h5
  obtain ⟨o4,e4,_⟩:=h40
  obtain ⟨o5,e5,_⟩:=h50
  refine wpAny_pyNext_zip_item D h1 h2 h3 h4 h5 pa.isList pb.isList (x:=u) (y:=v) (by simpa using hu) (by simpa using hv) λh' g1 g2 g3 g4 g5 g6 g7=>?_
  refine ⟨_,rfl,wpAny_letOwnedTupleGo_zip g1 λh'' k1 k2=>?_⟩
  have nz:s.heap.objs.size≠z:=λe=>Nat.lt_irrefl _ (by have:=Heap.lt_size h1;rw [<-e] at this;exact this)
  have kA:∀b o,b∉[z,TI,TO,i1,i2]->s.heap.get? b=some o->h''.get? b=some o:=λb o hb e=>by
   simp only [List.mem_cons,List.not_mem_nil,or_false,not_or] at hb
   exact k2.extBut b o hb.1 (g7 b o hb.1 hb.2.2.1 hb.2.2.2.1 hb.2.2.2.2 e)
  have I2:Inv X pins σ (upd H s.heap.objs.size (.tup [x,y])) {s with heap:=h''}:=
   ql7_ (t':=s.toks) (xs:=[x,y]) (us:=[u,v]) I kA hf (Nat.le_refl _) (by show 2<=sizeLine;decide) (.cons ru (.cons rv .nil)) ⟨_,k2.extBut _ _ nz g5,rfl,_,rfl⟩
  refine ⟨.ref s.heap.objs.size,_,I2,rfl,⟨_,x,y,rfl,I.fresh,rfl,λzs hz=>by rw [I.list_inj hz hqa];exact hx,λzs hz=>by rw [I.list_inj hz hqb];exact hy⟩,⟨k1,?_,⟨_,_,k2.extBut _ _ D.TOz g2⟩,?_,?_⟩,λb hb=>?_⟩
  ·exact k2.extBut _ _ D.TIz (g7 _ _ D.TIz D.TITO D.TIi1 D.TIi2 h2)
  ·exact g3.at λo e=>k2.extBut _ o D.i1z e
  ·exact g4.at λo e=>k2.extBut _ o D.i2z e
  ·rw [qo_]
   ·exact (hf b hb).1
   ·intro e
    simp only [List.mem_cons,List.not_mem_nil,or_false] at hb
    have lt:∀{c:Addr} {o:Obj},s.heap.get? c=some o->c≠s.heap.objs.size:=λh=>Nat.ne_of_lt (Heap.lt_size h)
    rcases hb with rfl|rfl|rfl|rfl|rfl
    ·exact lt h1 e
    ·exact lt h2 e
    ·exact lt h3 e
    ·exact lt e4 e
    ·exact lt e5 e
 done:=by
  intro X hP hw hK hc i pins s σ H E I hf st hg
  subst hP hw hK
  obtain ⟨xs,ys,hqa,hqb,hend⟩:=hg
  obtain ⟨ia,ra,pa,za⟩:=I.list hqa
  obtain ⟨ib,rb,pb,zb⟩:=I.list hqb
  obtain ⟨h1,h2,⟨t1,t2,h3⟩,h4,h5⟩:=st
  have la:=ra.length
  have lb:=rb.length
  refine wpAny_pyNext_zip_end (I.ok.hd hc) D h1 h2 h3 h4 h5 pa.isList pb.isList ?_ λh' kk=>⟨rfl,qkv_ (t':=s.toks) I (λb o hb e=>?_) hf⟩
  ·rcases hend with e|e
   ·left;simp;omega
   ·right;simp;omega
  ·simp only [List.mem_cons,List.not_mem_nil,or_false,not_or] at hb
   exact kk b o hb.1 hb.2.2.1 hb.2.2.2.1 hb.2.2.2.2 e
 self:=λ_ _ _ _ _ st h=>wpAny_pyIter_zip st.1 h
section
variable {X:Cx} {tg:Expr}
def iZip (K:PySem.W.Frag) (ta:TA):TI:=λσ H R=>ta σ H λvs H1=>∃a b,vs=[.ref a,.ref b]/\(∃xs,SqL K H1 a xs)/\(∃ys,SqL K H1 b ys)/\R (Itz K a b) H1
theorem qui_ {a b:Expr} {ta:TA} {p pos tpos:Pos} {elts:List Expr} {k:Nat} (hg:Gl X "zip") (hm:X.mg "zip"=none) (ha:PA X [a,b] ta) (hs:starEach [a,b] X.env=[(false,eval a X.env),(false,eval b X.env)]:=by rfl) (hs2:starEach [b] X.env=[(false,eval b X.env)]:=by rfl):
  PI X (.Tuple elts k tpos) (.Call (.Name "zip" p) [a,b] [] pos) (iZip X.K ta):=by
 intro pins s σ H R I h
 refine Call_ (qde_ I hg hm boot_zip (PyProof.Rows.callWith_type1 (thn (ha pos pins s σ H _ I h) λus s1 ⟨vs,H1,I1,r1,q1⟩=>?_) (by rw [hs,hs2]) (by rw [hs2];rfl)))
 obtain ⟨a,b,rfl,⟨xs,hqa⟩,⟨ys,hqb⟩,q⟩:=q1
 obtain ⟨u,v,rfl,ru,rv⟩:=qkb_ r1
 cases ru
 cases rv
 obtain ⟨ia,ra,pa,za⟩:=I1.list hqa
 obtain ⟨ib,rb,pb,zb⟩:=I1.list hqb
 have lt:∀{c:Addr} {its:Array Value},s1.heap.IsList c its->c<s1.heap.objs.size:=λh=>by obtain ⟨o,e,_⟩:=h;exact Heap.lt_size e
 refine call_zip_2 pa.isList pb.isList λh' q1 q2 q3 q4 q5 q6 q7=>?_
 refine wpAny_pyIter_zip (s:={s1 with heap:=h'}) q1 ⟨_,_,_,_,H1,rfl,I1.kept (t':=s1.toks) q7,qok_ (zipApart_new (lt pa.isList) (lt pb.isList)),⟨q1,q2,⟨_,_,q3⟩,q4,q5⟩,λc hc=>?_,q⟩
 have hle:s1.heap.objs.size<=c:=by
  simp only [List.mem_cons,List.not_mem_nil,or_false] at hc
  rcases hc with rfl|rfl|rfl|rfl|rfl
  ·exact Nat.le_add_right _ 4
  ·exact Nat.le_add_right _ 2
  ·exact Nat.le_add_right _ 3
  ·exact Nat.le_refl _
  ·exact Nat.le_add_right _ 1
 exact I1.fpOk hle (I1.hok.fresh hle)
end
end L3
namespace L3
open PySem PySem.Spec PyProof.Rows L2
section
variable {prog:Program} {w:World} {A:Around} {E:Value->Shared->Prop} {s:Shared}
theorem qez_ {M:Model} {a:Addr} {Q:Option Obj->Shared->Prop} (h:Q (s.heap.get? a) s):wpAny M A (loadIfAlive a) Q E s:=λΓ p _=>by
 unfold loadIfAlive
 rw [Sem.wp_loadIfAlive]
 exact h
abbrev qej_ (h:Heap) (z TI TO T0:Addr) (f1:Bool):Prop:=
 h.get? z=some {cls:= .type "zip",dict:=none,data:= .fields #[rawInt T0,.bool f1,.bool false,.ref TI,.ref TO],slots:= #[]}
theorem qfr_ {z TI TO T0:Addr} {f1:Bool} {oT:Obj} {Q:Bool->Shared->Prop} (hz:qej_ s.heap z TI TO T0 f1) (hT:s.heap.get? T0=some oT)
  (h:∀h',qej_ h' z TI TO T0 true->Heap.SameBut z s.heap h'->Q false {s with heap:=h'}):wpAny (model prog w) A (Builtin.SmallTypes.ownedTupleIsFree (.ref z)) Q E s:=by
 unfold Builtin.SmallTypes.ownedTupleIsFree
 refine wpAny_bind (wpAny_field hz rfl (x:=rawInt T0) rfl ?_)
 show wpAny _ _ (loadIfAlive ((T0:Int).toNat) >>= _) _ _ _
 refine wpAny_bind (qez_ ?_)
 rw [Int.toNat_natCast,hT]
 show wpAny _ _ (field (.ref z) 1 >>= _) _ _ _
 refine wpAny_bind (wpAny_field hz rfl (x:= .bool f1) rfl ?_)
 cases f1 with
 |true=>exact wpAny_pure (h s.heap hz (Heap.SameBut.refl ..))
 |false=>exact wpAny_bind (wpAny_setField_rec hz (by simp) λh₁ hz₁ hs₁=>wpAny_pure (h h₁ hz₁ hs₁))
theorem qgg_ {z TI TO T0 i1 i2 l1 l2:Addr} {k1 k2:Nat} {f1:Bool} {oT:Obj} {xs ys:Array Value} {x y:Value} {Q:Value->Shared->Prop} (D:ZipApart z TI TO i1 i2 l1 l2)
  (hz:qej_ s.heap z TI TO T0 f1) (hT:s.heap.get? T0=some oT) (hTI:IsPair s.heap TI (.ref i1) (.ref i2))
  (h1:s.heap.IsListIter i1 l1 k1) (h2:s.heap.IsListIter i2 l2 k2) (hl1:s.heap.IsList l1 xs) (hl2:s.heap.IsList l2 ys) (hx:xs[k1]?=some x) (hy:ys[k2]?=some y)
  (hQ:∀h',qej_ h' z TI TO T0 true->h'.IsListIter i1 l1 (k1+1)->h'.IsListIter i2 l2 (k2+1)->IsPair h' s.heap.objs.size x y->
   (∀c o,c≠z->c≠i1->c≠i2->s.heap.get? c=some o->h'.get? c=some o)->Q (.ref s.heap.objs.size) {s with heap:=h'}):
  wpAny (model prog w) A (Builtin.«zip.__next__» ⟨[.ref z],[]⟩) (λfin s'=>∃v,fin= .done (.ret v)/\Q v s') E s:=by
 show wpAny _ _ (field (.ref z) 2 >>= _) _ _ _
 refine wpAny_bind (wpAny_field hz rfl (x:= .bool false) rfl ?_)
 show wpAny _ _ (field (.ref z) 3 >>= _) _ _ _
 refine wpAny_bind (wpAny_field hz rfl (x:= .ref TI) rfl ?_)
 refine wpAny_bind (wpAny_seqItems hTI rfl ?_)
 show wpAny _ _ (Builtin.SmallTypes.ownedTupleIsFree (.ref z) >>= _) _ _ _
 refine wpAny_bind (qfr_ hz hT λh₁ hz₁ hs₁=>?_)
 simp only [Bool.false_eq_true,if_false]
 show wpAny _ _ (forIn (#[.ref i1,.ref i2]:Array Value) _ _ >>= _) _ _ _
 refine wpAny_bind ?_
 simp only [List.forIn_toArray,List.forIn_cons,List.forIn_nil]
 refine wpAny_bind (wpAny_bind (wpAny_holding ?_))
 show wpAny _ _ (Builtin.SmallTypes.nextOf (.ref i1) >>= _) _ _ _
 refine wpAny_bind (wpAny_nextOf_list_item (h1.extBut hs₁.extBut D.i1z) (hl1.extBut hs₁.extBut D.l1z) hx λh₂ h1₂ hs₂=>wpAny_pure (wpAny_pure ?_))
 refine wpAny_bind (wpAny_bind (wpAny_holding ?_))
 show wpAny _ _ (Builtin.SmallTypes.nextOf (.ref i2) >>= _) _ _ _
 refine wpAny_bind (wpAny_nextOf_list_item ((h2.extBut hs₁.extBut D.i2z).extBut hs₂.extBut D.i12.symm) ((hl2.extBut hs₁.extBut D.l2z).extBut hs₂.extBut D.l2i1) hy λh₃ h2₃ hs₃=>wpAny_pure (wpAny_pure (wpAny_pure ?_)))
 refine wpAny_bind (wpAny_newTuple ?_ (by show 2<=sizeLine;decide))
 have hsz:h₃.objs.size=s.heap.objs.size:=by rw [hs₃.1,hs₂.1,hs₁.1]
 refine wpAny_pure ⟨_,rfl,?_⟩
 show Q (.ref h₃.objs.size) {s with heap:=h₃.push {cls:= .type "tuple",data:= .seq #[x,y]}}
 have hz₃:qej_ h₃ z TI TO T0 true:=hs₃.extBut _ _ D.i2z.symm (hs₂.extBut _ _ D.i1z.symm hz₁)
 have hnew:IsPair (h₃.push {cls:= .type "tuple",data:= .seq #[x,y]}) h₃.objs.size x y:=Heap.get?_push_size _ rfl
 rw [hsz] at hnew ⊢
 refine hQ _ (Heap.get?_push_of_some _ hz₃) ((h1₂.extBut hs₃.extBut D.i12).at λo e=>Heap.get?_push_of_some _ e) (h2₃.at λo e=>Heap.get?_push_of_some _ e) hnew λc o c1 c3 c4 e=>?_
 exact Heap.get?_push_of_some _ (hs₃.extBut _ _ c4 (hs₂.extBut _ _ c3 (hs₁.extBut _ _ c1 e)))
theorem qhi_ {z TI TO T0 i1 i2 l1 l2:Addr} {k1:Nat} {f1:Bool} {oT:Obj} {xs:Array Value} {Q:Fin->Shared->Prop} (hh:A.handled=none) (D:ZipApart z TI TO i1 i2 l1 l2)
  (hz:qej_ s.heap z TI TO T0 f1) (hT:s.heap.get? T0=some oT) (hTI:IsPair s.heap TI (.ref i1) (.ref i2))
  (h1:s.heap.IsListIter i1 l1 k1) (hl1:s.heap.IsList l1 xs) (hend:xs[k1]?=none)
  (hE:∀h' e,(∀c o,c≠z->c≠i1->s.heap.get? c=some o->h'.get? c=some o)->(∃o,h'.get? e=some o/\o.cls= .type "StopIteration")->E (.ref e) {s with heap:=h'}):
  wpAny (model prog w) A (Builtin.«zip.__next__» ⟨[.ref z],[]⟩) Q E s:=by
 show wpAny _ _ (field (.ref z) 2 >>= _) _ _ _
 refine wpAny_bind (wpAny_field hz rfl (x:= .bool false) rfl ?_)
 show wpAny _ _ (field (.ref z) 3 >>= _) _ _ _
 refine wpAny_bind (wpAny_field hz rfl (x:= .ref TI) rfl ?_)
 refine wpAny_bind (wpAny_seqItems hTI rfl ?_)
 show wpAny _ _ (Builtin.SmallTypes.ownedTupleIsFree (.ref z) >>= _) _ _ _
 refine wpAny_bind (qfr_ hz hT λh₁ hz₁ hs₁=>?_)
 simp only [Bool.false_eq_true,if_false]
 show wpAny _ _ (forIn (#[.ref i1,.ref i2]:Array Value) _ _ >>= _) _ _ _
 refine wpAny_bind ?_
 simp only [List.forIn_toArray,List.forIn_cons,List.forIn_nil]
 refine wpAny_bind (wpAny_bind (wpAny_holding ?_))
 show wpAny _ _ (Builtin.SmallTypes.nextOf (.ref i1) >>= _) _ _ _
 refine wpAny_bind (wpAny_nextOf_list_end hh (h1.extBut hs₁.extBut D.i1z) (hl1.extBut hs₁.extBut D.l1z) hend λh₂ e hs₂ he=>?_)
 exact hE h₂ e (λc o c1 c3 x=>hs₂ _ _ c3 (hs₁.extBut _ _ c1 x)) he
theorem qge_ {z TI TO T0 i1 i2 l1 l2:Addr} {k1 k2:Nat} {f1:Bool} {oT:Obj} {xs ys:Array Value} {x:Value} {Q:Fin->Shared->Prop} (hh:A.handled=none) (D:ZipApart z TI TO i1 i2 l1 l2)
  (hz:qej_ s.heap z TI TO T0 f1) (hT:s.heap.get? T0=some oT) (hTI:IsPair s.heap TI (.ref i1) (.ref i2))
  (h1:s.heap.IsListIter i1 l1 k1) (h2:s.heap.IsListIter i2 l2 k2) (hl1:s.heap.IsList l1 xs) (hl2:s.heap.IsList l2 ys) (hx:xs[k1]?=some x) (hend:ys[k2]?=none)
  (hE:∀h' e,(∀c o,c≠z->c≠i1->c≠i2->s.heap.get? c=some o->h'.get? c=some o)->(∃o,h'.get? e=some o/\o.cls= .type "StopIteration")->E (.ref e) {s with heap:=h'}):
  wpAny (model prog w) A (Builtin.«zip.__next__» ⟨[.ref z],[]⟩) Q E s:=by
 show wpAny _ _ (field (.ref z) 2 >>= _) _ _ _
 refine wpAny_bind (wpAny_field hz rfl (x:= .bool false) rfl ?_)
 show wpAny _ _ (field (.ref z) 3 >>= _) _ _ _
 refine wpAny_bind (wpAny_field hz rfl (x:= .ref TI) rfl ?_)
 refine wpAny_bind (wpAny_seqItems hTI rfl ?_)
 show wpAny _ _ (Builtin.SmallTypes.ownedTupleIsFree (.ref z) >>= _) _ _ _
 refine wpAny_bind (qfr_ hz hT λh₁ hz₁ hs₁=>?_)
 simp only [Bool.false_eq_true,if_false]
 show wpAny _ _ (forIn (#[.ref i1,.ref i2]:Array Value) _ _ >>= _) _ _ _
 refine wpAny_bind ?_
 simp only [List.forIn_toArray,List.forIn_cons,List.forIn_nil]
 refine wpAny_bind (wpAny_bind (wpAny_holding ?_))
 show wpAny _ _ (Builtin.SmallTypes.nextOf (.ref i1) >>= _) _ _ _
 refine wpAny_bind (wpAny_nextOf_list_item (h1.extBut hs₁.extBut D.i1z) (hl1.extBut hs₁.extBut D.l1z) hx λh₂ h1₂ hs₂=>wpAny_pure (wpAny_pure ?_))
 refine wpAny_bind (wpAny_bind (wpAny_holding ?_))
 show wpAny _ _ (Builtin.SmallTypes.nextOf (.ref i2) >>= _) _ _ _
 refine wpAny_bind (wpAny_nextOf_list_end hh ((h2.extBut hs₁.extBut D.i2z).extBut hs₂.extBut D.i12.symm) ((hl2.extBut hs₁.extBut D.l2z).extBut hs₂.extBut D.l2i1) hend λh₃ e hs₃ he=>?_)
 exact hE h₃ e (λc o c1 c3 c4 x=>hs₃ _ _ c4 (hs₂.extBut _ _ c3 (hs₁.extBut _ _ c1 x))) he
end
structure ZL (a b z TI TO i1 i2:Addr) (xs ys:Array Value) (i:Nat) (h:Heap):Prop where
 zip:(IsZip h z TI TO .none/\∃u v,IsPair h TO u v)\/∃T0 f1 oT,qej_ h z TI TO T0 f1/\h.get? T0=some oT
 ti:IsPair h TI (.ref i1) (.ref i2)
 c1:h.IsListIter i1 a i
 c2:h.IsListIter i2 b i
 la:h.IsList a xs
 lb:h.IsList b ys
 to:∃o,h.get? TO=some o
section
variable {prog:Program} {w:World} {A:Around} {E:Value->Shared->Prop} {s:Shared} {a b z TI TO i1 i2 S:Addr} {xs ys:Array Value} {i:Nat} {h h':Heap}
theorem ZL.frame (Z:ZL a b z TI TO i1 i2 xs ys i h) (hS:S∉[z,TI,TO,i1,i2,a,b]) (k:∀c o,c≠S->h.get? c=some o->h'.get? c=some o) (hs:∃o,h'.get? S=some o):ZL a b z TI TO i1 i2 xs ys i h':=by
 simp only [List.mem_cons,List.not_mem_nil,or_false,not_or] at hS
 obtain ⟨s1,s2,s3,s4,s5,s6,s7⟩:=hS
 refine ⟨?_,k _ _ (Ne.symm s2) Z.ti,Z.c1.at λo e=>k _ o (Ne.symm s4) e,Z.c2.at λo e=>k _ o (Ne.symm s5) e,Z.la.at λo e=>k _ o (Ne.symm s6) e,Z.lb.at λo e=>k _ o (Ne.symm s7) e,let ⟨o,e⟩:=Z.to;⟨o,k _ o (Ne.symm s3) e⟩⟩
 rcases Z.zip with ⟨h1,u,v,h2⟩|⟨T0,f1,oT,h1,h2⟩
 ·exact .inl ⟨k _ _ (Ne.symm s1) h1,u,v,k _ _ (Ne.symm s3) h2⟩
 ·refine .inr ⟨T0,f1,?_⟩
  by_cases e:T0=S
  ·subst e
   obtain ⟨o,ho⟩:=hs
   exact ⟨o,k _ _ (Ne.symm s1) h1,ho⟩
  ·exact ⟨oT,k _ _ (Ne.symm s1) h1,k _ _ e h2⟩
theorem ZL.zt (Z:ZL a b z TI TO i1 i2 xs ys i s.heap):s.TypeIs (.ref z) "zip":=by
 rcases Z.zip with ⟨h1,u,v,h2⟩|⟨T0,f1,oT,h1,h2⟩
 ·exact ⟨_,h1,rfl⟩
 ·exact ⟨_,h1,rfl⟩
theorem ZL.next {x y:Value} {Q:Option Value->Shared->Prop} (D:ZipApart z TI TO i1 i2 a b) (Z:ZL a b z TI TO i1 i2 xs ys i s.heap) (hx:xs[i]?=some x) (hy:ys[i]?=some y)
  (hQ:∀h',ZL a b z TI TO i1 i2 xs ys (i+1) h'->IsPair h' s.heap.objs.size x y->(∀c o,c∉[z,TO,i1,i2]->s.heap.get? c=some o->h'.get? c=some o)->Q (some (.ref s.heap.objs.size)) {s with heap:=h'}):
  wpAny (model prog w) A (pyNext (.ref z)) Q E s:=by
 have hT:=Z.zt
 rcases Z.zip with ⟨h1,u,v,h2⟩|⟨T0,f1,oT,h1,h2⟩
 ·refine wpAny_pyNext_zip_item D h1 Z.ti h2 Z.c1 Z.c2 Z.la Z.lb hx hy λh' g1 g2 g3 g4 g5 g6 g7=>hQ h' ?_ g5 λc o hc e=>?_
  ·exact ⟨.inr ⟨s.heap.objs.size,false,_,g1,g5⟩,g7 _ _ D.TIz D.TITO D.TIi1 D.TIi2 Z.ti,g3,g4,Z.la.at λo e=>g7 _ o D.l1z D.l1TO D.l1i1 D.l1i2 e,Z.lb.at λo e=>g7 _ o D.l2z D.l2TO D.l2i1 D.l2i2 e,⟨_,g2⟩⟩
  ·simp only [List.mem_cons,List.not_mem_nil,or_false,not_or] at hc
   exact g7 c o hc.1 hc.2.1 hc.2.2.1 hc.2.2.2 e
 ·unfold pyNext
  refine wpAny_bind (wpAny_attempt (wpAny_callSpecial?_slot (name:=Str.ofString "__next__") hT F.slot_zip_next
   (wpAny_call_entry F.slot_zip_next hT F.entry_zip_next
    (qgg_ D h1 h2 Z.ti Z.c1 Z.c2 Z.la Z.lb hx hy λh' g1 g3 g4 g5 g7=>wpAny_pure (hQ h' ?_ g5 λc o hc e=>?_)) (F.args_zip_next_1 _))))
  ·have hT0:∃oT',h'.get? T0=some oT':=by
    by_cases e1:T0=z
    ·subst e1;exact ⟨_,g1⟩
    ·by_cases e2:T0=i1
     ·subst e2;obtain ⟨o,e,_⟩:=g3;exact ⟨o,e⟩
     ·by_cases e3:T0=i2
      ·subst e3;obtain ⟨o,e,_⟩:=g4;exact ⟨o,e⟩
      ·exact ⟨_,g7 _ _ e1 e2 e3 h2⟩
   obtain ⟨oT',hT0⟩:=hT0
   exact ⟨.inr ⟨T0,true,_,g1,hT0⟩,g7 _ _ D.TIz D.TIi1 D.TIi2 Z.ti,g3,g4,Z.la.at λo e=>g7 _ o D.l1z D.l1i1 D.l1i2 e,Z.lb.at λo e=>g7 _ o D.l2z D.l2i1 D.l2i2 e,let ⟨o,e⟩:=Z.to;⟨o,g7 _ o D.TOz D.TOi1 D.TOi2 e⟩⟩
  ·simp only [List.mem_cons,List.not_mem_nil,or_false,not_or] at hc
   exact g7 c o hc.1 hc.2.2.1 hc.2.2.2 e
theorem qml_ {T0:Addr} {f1:Bool} {oT:Obj} {Q:Fin->Shared->Prop} (hh:A.handled=none) (D:ZipApart z TI TO i1 i2 a b) (h1:qej_ s.heap z TI TO T0 f1) (h2:s.heap.get? T0=some oT) (Z:ZL a b z TI TO i1 i2 xs ys i s.heap) (hx:xs[i]?=none\/ys[i]?=none)
  (hE:∀h' e,(∀c o,c≠z->c≠i1->c≠i2->s.heap.get? c=some o->h'.get? c=some o)->(∃o,h'.get? e=some o/\o.cls= .type "StopIteration")->E (.ref e) {s with heap:=h'}):
  wpAny (model prog w) A (Builtin.«zip.__next__» ⟨[.ref z],[]⟩) Q E s:=by
 cases e:xs[i]? with
 |none=>exact qhi_ hh D h1 h2 Z.ti Z.c1 Z.la e λh' e hk he=>hE h' e (λc o c1 c3 _ x=>hk c o c1 c3 x) he
 |some x=>exact qge_ hh D h1 h2 Z.ti Z.c1 Z.c2 Z.la Z.lb e (hx.resolve_left (by rw [e];simp)) hE
theorem ZL.done {Q:Option Value->Shared->Prop} (hh:A.handled=none) (D:ZipApart z TI TO i1 i2 a b) (Z:ZL a b z TI TO i1 i2 xs ys i s.heap) (hx:xs[i]?=none\/ys[i]?=none)
  (hQ:∀h',(∀c o,c∉[z,TO,i1,i2]->s.heap.get? c=some o->h'.get? c=some o)->Q none {s with heap:=h'}):wpAny (model prog w) A (pyNext (.ref z)) Q E s:=by
 have hT:=Z.zt
 rcases Z.zip with ⟨h1,u,v,h2⟩|⟨T0,f1,oT,h1,h2⟩
 ·refine wpAny_pyNext_zip_end hh D h1 Z.ti h2 Z.c1 Z.c2 Z.la Z.lb hx λh' g7=>hQ h' λc o hc e=>?_
  simp only [List.mem_cons,List.not_mem_nil,or_false,not_or] at hc
  exact g7 c o hc.1 hc.2.1 hc.2.2.1 hc.2.2.2 e
 ·unfold pyNext
  refine wpAny_bind (wpAny_attempt (wpAny_callSpecial?_slot (name:=Str.ofString "__next__") hT F.slot_zip_next
   (wpAny_call_entry F.slot_zip_next hT F.entry_zip_next (qml_ hh D h1 h2 Z hx λh' e hk he=>?_) (F.args_zip_next_1 _))))
  obtain ⟨o,ho,hc⟩:=he
  refine wpAny_bind (wpAny_isInstance (T:="StopIteration") (b:=true) ⟨o,ho,hc⟩ isSubtype_stop ?_)
  refine wpAny_pure (hQ _ λc o hc e=>?_)
  simp only [List.mem_cons,List.not_mem_nil,or_false,not_or] at hc
  exact hk c o hc.1 hc.2.2.1 hc.2.2.2 e
end
end L3
namespace L3
open PySem PySem.Spec PyProof.Rows L2
section
variable {K:PySem.W.Frag} {a D0:Addr} {te:TE} {σ:S} {H0:Hp} {R:Hp->Prop} {xs:List V}
end
end L3
set_option linter.all false
namespace M
namespace Q
open PySem PySem.Spec PyProof.Rows L2 L3
section
variable {X:Cx} {CX:CXT} {k:Nat} {ps:List Str} {sp:Sp} {E:XK} {x:Str} {p pos:Pos} {e a b o tg:Expr} {es:List Expr} {te ta tb to:TE} {t:TA} {st:Stmt} {rest body:List Stmt} {s u:TS}
end
end Q
end M
namespace L3
open PySem PySem.Spec PyProof.Rows L2
section
variable {prog:Program} {w:World} {A:Around} {E:Value->Shared->Prop} {K:PySem.W.Frag} {x C:Addr} {ox:Obj}
structure XCls (K:PySem.W.Frag) (C:Addr):Prop where
 ga:PySem.W.findIn K (.ref C) "__getattribute__"=some (some (.builtin "BaseException.__getattribute__"))
 hk:PySem.W.findIn K (.ref C) "__getattr__"=some none
 ha:PySem.W.findIn K (.ref C) "__class__"=some (some (.builtin "object.__class__"))
 hn:PySem.W.specialIn K (.builtin "object.__class__") "__get__"=some (some (.builtin "getset_descriptor.__get__"))
 ht:PySem.W.takesIn K (.builtin "object.__class__")=some true
 mo:PySem.W.mroIn K C (.type "object")=some true
 mb:PySem.W.mroIn K C (.type "BaseException")=some true
 ty:PySem.W.typeIn K (.ref C)=some (.type "type")
 sb:PySem.W.subIn K (.ref C) (.type "BaseException")=some true
theorem XCls.cl (c:XCls K C):(PySem.W.clsIn K C).isSome=true:=by
 have h:=c.mo
 unfold PySem.W.mroIn at h
 cases e:PySem.W.clsIn K C with
 |none=>rw [e] at h;cases h
 |some _=>rfl
theorem qqv_ {N:Addr} {b:Bool} (c:XCls K C) (h:PySem.W.subIn K (.ref N) (.ref C)=some b):PySem.W.exmOne K (.ref N) (.ref C)=some b:=by
 unfold PySem.W.exmOne
 rw [c.sb,if_pos (beq_self_eq_true _)]
 unfold PySem.W.kitCls
 simp only [c.cl,c.ty,Bool.true_and,beq_self_eq_true,if_true]
 exact h
end
end L3
namespace L3
open PySem PySem.Spec PyProof.Rows L2
structure Flies (h:Heap) (e C:Addr) (tb:Option Addr):Prop where
 ob:∃oe vs,h.get? e=some oe/\oe.cls= .ref C/\oe.dict=none/\oe.data= .fields vs/\vs[1]?=some (match tb with|none=>Value.none|some T=> .ref T)
 tr:∀T,tb=some T->T≠e/\∃oT ts,h.get? T=some oT/\oT.data= .fields ts/\ts[3]?=some .none
theorem qmw_ (f:Array Value->Array Value) (o:Obj):(o.mapFields f).dict=o.dict:=by
 obtain ⟨c,d,dt,sl⟩:=o
 cases dt<;>rfl
structure Kp (S:List Addr) (e:Addr) (tb:Option Addr) (h h':Heap):Prop where
 keep:∀b o,b≠e->tb≠some b->b∉S->h.get? b=some o->h'.get? b=some o
 slot:∀b o,b≠e->tb≠some b->h.get? b=some o->∃sl,h'.get? b=some {o with slots:=sl}
 size:h.objs.size<=h'.objs.size
section
variable {M:Model} {A:Around} {E:Value->Shared->Prop} {s:Shared} {base:Heap} {env:Env} {outer:List Env} {L e C:Addr}
theorem qjo_ {oe:Obj} {vs:Array Value} {head:Value} {hadNext:Bool} {Q:Unit->Shared->Prop}
  (hfr:A.frames=some (env::outer)) (hl:s.heap.FunFrames base (env::outer)) (hf:env.frame=some L)
  (he:s.heap.get? e=some oe) (hcl:oe.cls= .ref C) (hdi:oe.dict=none) (hd:oe.data= .fields vs) (hz:1<vs.size)
  (h:∀h' T,s.heap.objs.size<=T->Flies h' e C (some T)->Kp (frs (env::outer)) e none s.heap h'->Q () {s with heap:=h'}):
  wpAny M A (do
    let a <-frameOf env
    let pl <-entryPlaceOf L hadNext
    let b <-EntryCells.newEntry head a .none (rawInt L) .none pl
    setField (.ref e) 1 b) (λ_ s'=>wpAny M A (setFlight (.ref e) none) Q E s') E s:=by
 have hne:e∉frs (env::outer):=by
  intro hm
  obtain ⟨_,o,ho,hn⟩:=hl.mem hm
  rw [he] at ho
  cases ho
  exact hn vs hd
 refine wpAny_bind (wpAny_frameOf_fun hfr hl hf λg1 so=>wpAny_bind (wpAny_entryPlaceOf λpl hpl=>?_))
 have e1:g1.get? e=some oe:=(so.2.1 e hne).trans he
 unfold EntryCells.newEntry newFields
 refine wpAny_bind (wpAny_newObj_type ?_ (hpl.sizeOk5 _ _ _ _ _))
 generalize hT:({cls:= .type "traceback",dict:=none,data:= .fields ([head,.ref L,.none,rawInt L,.none]++(if pl.isEmpty then List.replicate 6 Value.none else pl)).toArray}:Obj)=oT
 have dT:oT.data= .fields ([head,.ref L,.none,rawInt L,.none]++(if pl.isEmpty then List.replicate 6 Value.none else pl)).toArray:=by rw [<-hT]
 have zT:3<(([head,.ref L,.none,rawInt L,.none]++(if pl.isEmpty then List.replicate 6 Value.none else pl)).toArray).size:=by simp
 generalize hts:([head,.ref L,.none,rawInt L,.none]++(if pl.isEmpty then List.replicate 6 Value.none else pl)).toArray=ts at dT zT
 have e2:(g1.push oT).get? e=some oe:=Heap.get?_push_of_some oT e1
 refine wpAny_setField e2 hd hz ?_
 have n1:g1.objs.size≠e:=Nat.ne_of_gt (Heap.lt_size e1)
 have d3:=Obj.data_mapFields hd (·.setIfInBounds 1 (Value.ref g1.objs.size))
 have e3:=Heap.get?_update_self (Obj.mapFields (·.setIfInBounds 1 (Value.ref g1.objs.size))) e2 (Obj.isFreed_of_fields d3)
 have t3:((g1.push oT).update e (Obj.mapFields (·.setIfInBounds 1 (Value.ref g1.objs.size)))).get? g1.objs.size=some oT:=
  (Heap.get?_update_other _ _ (Ne.symm n1)).trans (Heap.get?_push_size g1 (by rw [<-hT];rfl))
 unfold setFlight
 refine wpAny_bind (wpAny_field e3 d3 (x:= .ref g1.objs.size) (by simp [hz]) ?_)
 rw [if_pos (by simp)]
 refine wpAny_setField t3 dT zT (h _ g1.objs.size ?_ ⟨⟨_,_,(Heap.get?_update_other _ _ n1).trans e3,?_,?_,d3,by simp [hz]⟩,λT hTT=>?_⟩ ⟨λb o hb _ hS q=>?_,λb o hb _ q=>?_,?_⟩)
 ·exact Nat.le_of_eq so.1.symm
 ·rw [Obj.cls_mapFields];exact hcl
 ·rw [qmw_];exact hdi
 ·cases hTT
  exact ⟨n1,_,_,Heap.get?_update_self _ t3 (Obj.isFreed_of_fields (Obj.data_mapFields dT _)),Obj.data_mapFields dT _,by simp [zT]⟩
 ·have q1:=(so.2.1 b hS).trans q
  have n2:g1.objs.size≠b:=Nat.ne_of_gt (Heap.lt_size q1)
  rw [Heap.get?_update_other _ _ n2,Heap.get?_update_other _ _ (Ne.symm hb)]
  exact Heap.get?_push_of_some _ q1
 ·obtain ⟨sl,q1⟩:=so.2.2 b o q
  have n2:g1.objs.size≠b:=Nat.ne_of_gt (Heap.lt_size q1)
  refine ⟨sl,?_⟩
  rw [Heap.get?_update_other _ _ n2,Heap.get?_update_other _ _ (Ne.symm hb)]
  exact Heap.get?_push_of_some _ q1
 ·have:=so.1
  simp
  omega
theorem qk2_ {tb:Option Addr} {Q:Unit->Shared->Prop}
  (hfr:A.frames=some (env::outer)) (hl:s.heap.FunFrames base (env::outer)) (hf:env.frame=some L) (fl:Flies s.heap e C tb)
  (h:∀h' T,s.heap.objs.size<=T->Flies h' e C (some T)->Kp (frs (env::outer)) e tb s.heap h'->Q () {s with heap:=h'}):
  wpAny M A (noteFrame (.ref e) env) (λ_ s'=>wpAny M A (setFlight (.ref e) none) Q E s') E s:=by
 obtain ⟨⟨oe,vs,he,hcl,hdi,hd,h1⟩,tr⟩:=fl
 have hz:1<vs.size:=(Array.getElem?_eq_some_iff.mp h1).1
 unfold noteFrame
 simp only [hf]
 refine wpAny_bind (wpAny_field he hd h1 ?_)
 cases tb with
 |none=>
  rw [if_neg (by decide)]
  exact qjo_ hfr hl hf he hcl hdi hd hz h
 |some T=>
  obtain ⟨n1,oT,ts,hT,dT,h3⟩:=tr T rfl
  have zT:3<ts.size:=(Array.getElem?_eq_some_iff.mp h3).1
  simp only
  rw [if_pos (by simp)]
  refine wpAny_bind (wpAny_field hT dT h3 ?_)
  rw [if_neg (by simp [rawInt])]
  refine wpAny_bind (wpAny_setField hT dT zT ?_)
  have oth:∀b,b≠T->(s.heap.update T (Obj.mapFields (·.setIfInBounds 3 Value.none))).get? b=s.heap.get? b:=λb hb=>Heap.get?_update_other _ _ (Ne.symm hb)
  have zs:(s.heap.update T (Obj.mapFields (·.setIfInBounds 3 Value.none))).objs.size=s.heap.objs.size:=Heap.size_after_update ..
  have nrec:∀b o,s.heap.get? b=some o->(∀ws,o.data≠ .fields ws)->b≠T:=λb o q hn z=>by
   rw [z,hT] at q
   cases q
   exact hn ts dT
  refine qjo_ (hfr:=hfr) (hl.of_keeps λb o q hn=>⟨o,(oth b (nrec b o q hn)).trans q,rfl⟩) hf ((oth e (Ne.symm n1)).trans he) hcl hdi hd hz λh' T' hT' fl' kp=>?_
  have nT':s.heap.objs.size<=T':=by rw [<-zs];exact hT'
  refine h h' T' nT' fl' ⟨λb o hb hbT hS q=>?_,λb o hb hbT q=>?_,?_⟩
  ·exact kp.keep b o hb (λz=>nomatch z) hS ((oth b λz=>hbT (by rw [z])).trans q)
  ·exact kp.slot b o hb (λz=>nomatch z) ((oth b λz=>hbT (by rw [z])).trans q)
  ·rw [<-zs];exact kp.size
theorem qqc_ {T:Addr} {Q:Unit->Shared->Prop} (fl:Flies s.heap e C (some T)) (h:∀h',Flies h' e C (some T)->(∀b o,b≠T->s.heap.get? b=some o->h'.get? b=some o)->h'.objs.size=s.heap.objs.size->Q () {s with heap:=h'}):
  wpAny M A (setFlight (.ref e) none) Q E s:=by
 obtain ⟨⟨oe,vs,he,hcl,hdi,hd,h1⟩,tr⟩:=fl
 obtain ⟨n1,oT,ts,hT,dT,h3⟩:=tr T rfl
 have zT:3<ts.size:=(Array.getElem?_eq_some_iff.mp h3).1
 have oth:∀b,b≠T->(s.heap.update T (Obj.mapFields (·.setIfInBounds 3 ((none:Option Addr).elim Value.none λf=>rawInt f)))).get? b=s.heap.get? b:=λb hb=>Heap.get?_update_other _ _ (Ne.symm hb)
 unfold setFlight
 refine wpAny_bind (wpAny_field he hd h1 ?_)
 simp only
 rw [if_pos (by simp)]
 refine wpAny_setField hT dT zT (h _ ⟨⟨oe,vs,(oth e (Ne.symm n1)).trans he,hcl,hdi,hd,h1⟩,λT' z=>?_⟩ (λb o hb q=>(oth b hb).trans q) (Heap.size_after_update ..))
 cases z
 exact ⟨n1,_,_,Heap.get?_update_self _ hT (Obj.isFreed_of_fields (Obj.data_mapFields dT _)),Obj.data_mapFields dT _,by simp [zT]⟩
end
end L3
namespace L3
open PySem PySem.Spec PyProof.Rows L2
structure Lay (P:Program) (w:World) (st:List Env) (H H':Hp) (s s':Shared) (a C:Addr) (tb:Option Addr):Prop where
 os:s'.os=s.os
 bare:AllBare s'.gens
 un:Un (frs st) [] H H' s.heap s'.heap
 hok:HOk P w H' s'.heap
 na:H' a=none
 nT:∀T,tb=some T->H' T=none/\s.heap.get? T=none
 fa:s.heap.get? a=none
 fl:Flies s'.heap a C tb
def CX1 (P:Program) (w:World):CXT:=λouter H s E e s'=>∃(a C T:Addr) (H':Hp),e= .ref a/\Lay P w outer H H' s s' a C (some T)/\E (.ref C) (some a) H'
def Arr (X:Cx) (R:L2.St->XK):Prop:=∀(pins:List (Addr×Obj)) (σ:L2.St) (H H':Hp) (s s':Shared) (a C:Addr) (tb:Option Addr),Inv X pins σ H s->Lay X.prog X.w X.stack H H' s s' a C tb->R σ (.ref C) (some a) H'->X.xe (.ref a) s'
theorem qle_ {base:Heap} {h h':Heap}:∀{l:List Env},h.FunFrames base l->(∀b∈frs l,∀o,h.get? b=some o->∃sl,h'.get? b=some {o with slots:=sl})->h'.FunFrames base l
 |[],_,_=>True.intro
 |env::r,⟨hk,⟨L,o,hf,hn,ho,hd⟩,hr⟩,k=>by
  have hL:L∈frs (env::r):=by unfold frs;rw [List.filterMap_cons,hf];exact List.mem_cons_self
  obtain ⟨sl,e⟩:=k L hL o ho
  exact ⟨hk,⟨L,_,hf,hn,e,hd⟩,qle_ hr λb hb=>k b (by unfold frs;rw [List.filterMap_cons,hf];exact List.mem_cons_of_mem _ hb)⟩
section
variable {X:Cx} {pins:List (Addr×Obj)} {σ:L2.St} {H H':Hp} {s s':Shared} {a C:Addr} {tb:Option Addr} {P:Program} {w:World}
theorem Lay.frN {st:List Env} (y:Lay P w st H H' s s' a C tb) {base:Heap} (fu:s.heap.FunFrames base st) (fr:∀b∈frs st,H b=none):∀b∈frs st,H' b=none:=λb hb=>by
 obtain ⟨_,o,ho,_⟩:=fu.mem hb
 exact y.un.free b o ho (fr b hb) (by simp)
theorem Lay.funs {st:List Env} (y:Lay P w st H H' s s' a C tb) {base:Heap} (fu:s.heap.FunFrames base st) (fr:∀b∈frs st,H b=none):s'.heap.FunFrames base st:=
 qle_ fu λb hb o ho=>y.un.slot b o ho (fr b hb) hb (by simp)
theorem Lay.noted {st:List Env} {h':Heap} {T:Addr} (y:Lay P w st H H' s s' a C tb) {base:Heap} (fu:s.heap.FunFrames base st) (fr:∀b∈frs st,H b=none) (hT:s'.heap.objs.size<=T) (fl:Flies h' a C (some T)) (kp:Kp (frs st) a tb s'.heap h'):
  Lay P w st H H' s {s' with heap:=h'} a C (some T):=by
 have no:∀b o,s.heap.get? b=some o->b≠a/\tb≠some b:=λb o q=>⟨λz=>(by rw [z,y.fa] at q;cases q),λz=>(by rw [(y.nT b z).2] at q;cases q)⟩
 have nfr:=y.frN fu fr
 refine ⟨y.os,y.bare,⟨λb o q n hb hx=>?_,λb o q n hb hx=>?_,y.un.free,λb o q hx=>?_,y.un.tups,y.un.frzs,y.un.tbls⟩,λb o q=>?_,y.na,λT' z=>?_,y.fa,fl⟩
 ·exact kp.keep b o (no b o q).1 (no b o q).2 hb (y.un.keep b o q n hb hx)
 ·obtain ⟨sl,q1⟩:=y.un.slot b o q n hb hx
  obtain ⟨sl',q2⟩:=kp.slot b _ (no b o q).1 (no b o q).2 q1
  exact ⟨sl',q2⟩
 ·obtain ⟨o1,q1⟩:=y.un.there b o q hx
  obtain ⟨sl',q2⟩:=kp.slot b _ (no b o q).1 (no b o q).2 q1
  exact ⟨_,q2⟩
 ·have tr:∀c u,H' c=some u->c≠a/\tb≠some c/\c∉frs st:=λc u z=>
   ⟨λx=>(by rw [x,y.na] at z;cases z),λx=>(by rw [(y.nT c x).1] at z;cases z),λx=>(by rw [nfr c x] at z;cases z)⟩
  refine (y.hok b o q).stay (λc u hc z=>?_) (λ_ z=>z) λ_ _ z=>z
  have:∃u',H' c=some u':=by
   rcases hc with rfl|hc
   ·exact ⟨o,q⟩
   ·exact ⟨_,hc⟩
  obtain ⟨u',hu⟩:=this
  obtain ⟨t1,t2,t3⟩:=tr c u' hu
  exact kp.keep c u t1 t2 t3 z
 ·cases z
  refine ⟨y.hok.fresh hT,?_⟩
  cases q:s.heap.get? T with
  |none=>rfl
  |some o=>
   obtain ⟨o',q'⟩:=y.un.there T o q (by simp)
   exact absurd (Nat.lt_of_lt_of_le (Heap.lt_size q') hT) (Nat.lt_irrefl _)
end
section
variable {P:Program} {w:World} {K:PySem.W.Frag} {mg:Str->Option Value} {base:Heap} {N:List Str} {qual:Str} {scope:Scope} {f:Addr} {cd:Value} {A:Around} {outer:List Env} {s₀:Shared} {H₀:Hp} {E:XK}
theorem qh8_:Arr (cxOf (CX1 P w) P w K mg base N qual scope f cd A outer s₀ H₀ E) λ_=>E:=by
 intro pins σ H H' s s' a C tb I y hE
 show wpAny _ _ (leaving _ _) _ _ _
 unfold leaving
 refine wpAny_bind (qk2_ I.ok.frames (y.funs I.stack I.stkFree) rfl y.fl λh' T hT fl kp=>?_)
 have y':=y.noted I.stack I.stkFree hT fl kp
 have ab:∀b o,s₀.heap.get? b=some o->b≠s₀.heap.objs.size:=λb o q=>Nat.ne_of_lt (Heap.lt_size q)
 have nin:∀b o,s₀.heap.get? b=some o->b∉frs outer->b∉frs (envOfC qual scope s₀.heap.objs.size f cd::outer):=λb o q h1 h2=>by
  have:b∈s₀.heap.objs.size::frs outer:=h2
  rcases List.mem_cons.mp this with z|z
  ·exact ab b o q z
  ·exact h1 z
 have yin:∀b,b∈frs outer->b∈frs (envOfC qual scope s₀.heap.objs.size f cd::outer):=λb h1=>by
  show b∈s₀.heap.objs.size::frs outer
  exact List.mem_cons_of_mem _ h1
 have bk:∀b o,s₀.heap.get? b=some o->∃o',s.heap.get? b=some o':=λb o q=>I.base.there b o q (by simp [cxOf])
 refine ⟨a,C,T,H',rfl,⟨y'.os.trans I.os,y'.bare,⟨λb o q n hb hx=>?_,λb o q n hb hx=>?_,λb o q n hx=>?_,λb o q hx=>?_,λb xs q=>y'.un.tups b xs (I.base.tups b xs q),λb o u q=>y'.un.frzs b o u (I.base.frzs b o u q),λb ps q=>?_⟩,y'.hok,y'.na,λT' z=>⟨(y'.nT T' z).1,?_⟩,?_,y'.fl⟩,hE⟩
 ·exact y'.un.keep b o (I.base.keep b o q n hb (by simp [cxOf])) (I.base.free b o q n (by simp [cxOf])) (nin b o q hb) hx
 ·obtain ⟨sl,q1⟩:=I.base.slot b o q n hb (by simp [cxOf])
  obtain ⟨sl',q2⟩:=y'.un.slot b _ q1 (I.base.free b o q n (by simp [cxOf])) (yin b hb) hx
  exact ⟨sl',q2⟩
 ·obtain ⟨o',q1⟩:=bk b o q
  exact y'.un.free b o' q1 (I.base.free b o q n (by simp [cxOf])) hx
 ·obtain ⟨o',q1⟩:=bk b o q
  exact y'.un.there b o' q1 hx
 ·obtain ⟨m1,e1⟩:=I.base.tbls b ps q
  obtain ⟨m2,e2⟩:=y'.un.tbls b _ e1
  exact ⟨m1++m2,by rw [e2,Array.append_assoc]⟩
 ·cases q:s₀.heap.get? T' with
  |none=>rfl
  |some o=>
   obtain ⟨o',q1⟩:=bk T' o q
   rw [(y'.nT T' z).2] at q1
   cases q1
 ·cases q:s₀.heap.get? a with
  |none=>rfl
  |some o=>
   obtain ⟨o',q1⟩:=bk a o q
   rw [y'.fa] at q1
   cases q1
end
end L3
namespace L3
open PySem PySem.Spec PyProof.Rows L2
theorem qm7_ {P:Program} {w:World} {H:Hp} {h:Heap} {a:Addr} {o:HO} (x:ObjOk P w H h a o):∃u,h.get? a=some u:=by
 induction o with
 |lst xs=>obtain ⟨_,_,_,_,e⟩:=x;exact ⟨_,e⟩
 |tup xs=>obtain ⟨_,_,_,o,e,_⟩:=x;exact ⟨_,e⟩
 |dK kvs=>obtain ⟨_,_,_,_,o,_,_,e,_⟩:=x;exact ⟨_,e⟩
 |dT kvs=>obtain ⟨_,_,_,_,o,_,_,e,_⟩:=x;exact ⟨_,e⟩
 |set S n=>obtain ⟨o,_,_,_,e,_⟩:=x;exact ⟨_,e⟩
 |ins C dx fs=>obtain ⟨_,_,_,e,_⟩:=x;exact ⟨_,e⟩
 |own y=>exact x
 |xd fs=>obtain ⟨_,⟨_,_,_,e,_⟩,_⟩:=x;exact ⟨_,e⟩
 |rng lo hi=>obtain ⟨_,_,_,e⟩:=x;exact ⟨_,e⟩
 |frz ob u ih=>exact ⟨_,x.1⟩
 |tbl ps=>exact ⟨_,x⟩
 |met f y=>exact ⟨_,x⟩
 |ext φ=>exact x.2.1
theorem qng_ {P:Program} {w:World} {H:Hp} {h:Heap} {a:Addr} (x:HOk P w H h) (e:h.get? a=none):H a=none:=by
 cases q:H a with
 |none=>rfl
 |some o=>
  obtain ⟨u,z⟩:=qm7_ (x a o q)
  rw [e] at z
  cases z
abbrev qlj_:List Value:=[.type "ValueError",.type "Exception",.type "BaseException",.type "object"]
theorem own_of {K:PySem.W.Frag} {h:Heap} {C:Addr} {bmB:List Value} {newId:String} (X:K.In h) (q:PySem.W.excIn K C bmB newId=true):
  ∃tl N nm qn bs hd sn sub ab col dd k0 k1 k2 k3 k5 mN,h.get? C=some (excClassObj nm qn C N bs tl hd sn sub ab col dd k0 k1 k2 k3 k5 newId)/\h.Ns N mN/\mN "__init__"=none/\OwnTail h bmB tl:=by
 unfold PySem.W.excIn at q
 split at q
 ·rename_i dd cd sl ho
  split at q
  ·rename_i C' bm k0 k1 k2 k3 nn k5 hmr hsl
   simp only [Bool.and_eq_true,beq_iff_eq,Bool.not_eq_true'] at q
   obtain ⟨⟨⟨⟨⟨e1,e2⟩,e3⟩,e4⟩,e5⟩,e6⟩:=q
   subst e1 e2
   obtain ⟨nm,bs,mro,ns,qn,hd,sn,sub,ab,col,del⟩:=cd
   simp only at hmr e3 e5 e6
   subst hmr e3
   have z:sl= #[k0,k1,k2,k3,some (.builtin nn),k5]:=by
    cases sl
    simpa using hsl
   subst z
   exact ⟨bm,ns,nm,qn,bs,hd,sn,sub,ab,col,dd,k0,k1,k2,k3,k5,_,X _ _ ho,.of_isNs (PySem.W.isNs_of_in X e5),PySem.W.nsMap_none_of_in X e5 e6,PySem.W.tail_of_in X e4⟩
  ·cases q
 ·cases q
section
variable {X:Cx} {R:L2.St->XK} {x:Str} {C:Addr} {e:Expr} {es:List Expr} {t:TA} {np cpos pos:Pos}
def qrv_ (C:Addr) (R:L2.St->XK) (t:TA):TS:=λ_ σ H=>t σ H λvs H1=>vs.length<=sizeLine/\∀a,H1 a=none->R σ (.ref C) (some a) H1
theorem qn0_ (hg:Gl X x) (hm:X.mg x=some (.ref C)) (q:PySem.W.excIn X.K C qlj_ "ValueError.__new__"=true) (ar:Arr X R) (ha:PA X (e::es) t) (hc:X.calm=true:=by rfl)
  (hdb:(x==("__debug__":Str))=false:=by decide) (he:starEach (e::es) X.env=(false,eval e X.env)::starEach es X.env:=by rfl) (hpl:(backTo cpos (starEach es X.env)).any (·.1)=false:=by rfl):
  PS X (.Raise (some (.Call (.Name x np) (e::es) [] cpos)) none pos) (qrv_ C R t):=by
 intro pins s σ H D I h
 obtain ⟨tl,N,nm,qn,bs,hd,sn,sub,ab,col,dd,k0,k1,k2,k3,k5,mN,hC,hNs,hni,T⟩:=own_of I.mod.kin q
 refine wpAny_Raise_call_subU (C:=C) (nm:=nm) (q:=qn) (N:=N) (bs:=bs) (bm:=tl) (hdct:=hd) (sn:=sn) (sub:=sub) (ab:=ab) (col:=col) (dd:=dd) (k0:=k0) (k1:=k1) (k2:=k2) (k3:=k3) (k5:=k5) (mN:=mN)
  F.excBase_ValueError (by decide+kernel) F.excBase_ValueError (T.hasType F.excBase_ValueError.hasBase) (I.ok.hd hc) ?_ hni (qgb_ I hg hm ⟨rfl,?_⟩ hdb)
 ·rw [he]
  show (false||(backTo cpos (starEach es X.env)).any (·.1))=false
  rw [hpl];rfl
 ·have h2:=ha cpos pins s σ H _ I h
  rw [he] at h2 ⊢
  refine Calls.evalArgs_plain (wpAny_mono h2 (λus s2 y=>?_) λ_ _ y=>y)
  obtain ⟨vs,H1,I1,r,z,k⟩:=y
  refine ⟨rfl,by rw [<-r.length];exact z,I1.bk _ _ hC,hNs.keeps I1.bk,T.keeps I1.bk,λh' a m=>?_⟩
  obtain ⟨tt,m1,_⟩:=m.there
  have na:H1 a=none:=qng_ I1.hok m.new
  refine ar pins σ H1 H1 s2 {s2 with heap:=h'} a C none I1 ⟨rfl,I1.bare,Un.kept m.keeps,I1.hok.kept m.keeps,na,λT z=>(nomatch z),m.new,⟨⟨_,_,m1,rfl,rfl,rfl,rfl⟩,λT z=>(nomatch z)⟩⟩ (k a na)
end
theorem qkh_ {X:Cx} {R:L2.St->XK} (ar:Arr X R) {pins:List (Addr×Obj)} {σ:L2.St} {H:Hp} {s s':Shared} {e:Value} (I:Inv X pins σ H s) (h:CX1 X.prog X.w X.stack H s (R σ) e s'):X.xe e s':=by
 obtain ⟨a,C,T,H',rfl,y,r⟩:=h
 exact ar pins σ H H' s s' a C (some T) I y r
section
variable {X:Cx} {R:L2.St->XK} {k:Nat} {ps:List Str} {sp:Sp} {x:Str} {p pos:Pos} {e:Expr} {es:List Expr} {t:TA}
def qpf_ (sp:Sp) (R:L2.St->XK) (t:TA):TE:=λσ H Q=>t σ H λvs H1=>sp vs H1 Q (R σ)
theorem qug_ (F:Has X.prog X.w X.K X.mg X.base (CX1 X.prog X.w) k x ps sp) (hr:Room k X.A) (hg:Gl X x) (ar:Arr X R) (ha:PA X (e::es) t) (hdb:(x==("__debug__":Str))=false:=by decide) (he:starEach (e::es) X.env=(false,eval e X.env)::starEach es X.env:=by rfl) (hpl:(backTo pos (starEach es X.env)).any (·.1)=false:=by rfl):
  PE X (.Call (.Name x p) (e::es) [] pos) (qpf_ sp R t):=by
 obtain ⟨f,fd,F1,hb,kp,hm⟩:=F.ex
 intro pins s σ H Q I h
 refine wpAny_Call_Name_kw (qgb_ I hg hm ?_ hdb)
 refine PySem.W.callWith_K (h₀:=X.base) I.ok.mod.kin kp (thn (ha pos pins s σ H _ I h) λus s1 ⟨vs,H1,I1,r,q⟩=>⟨I1.kIn,?_⟩) he hpl
 have r2:Vals (vs++[]) (us++[]):=r.append .nil
 have hl:(us++[]).length=ps.length:=by rw [<-r2.length];exact F1.len _ _ _ _ (by rw [List.append_nil];exact q)
 refine wpAny_call (codeAny_mono (F1.run X.A X.stack s1 H1 ⟨us,[]⟩ (us++[]) (vs++[]) Q (R σ) hr I1.env0 (hb s1 us I1.kIn hl) r2 (by rw [List.append_nil];exact q)) λr s' hq=>?_)
 cases r with
 |error e=>exact qkh_ ar I1 hq
 |ok fl=>
  cases fl with
  |ret u=>exact I1.after hq
  |next=>exact False.elim hq
  |brk=>exact False.elim hq
  |cont=>exact False.elim hq
end
theorem Def.hasX {P:Program} {w:World} {K:PySem.W.Frag} {mg:Str->Option Value} {base:Heap} {k:Nat} {x:Str} {st:Stmt} {N ps:List Str} {sp:Sp} (F:Def K mg x st ps) (sc:FnScope N ps (qe_ st)) (len:∀vs H Q E,sp vs H Q E->vs.length=ps.length)
  (hbody:∀(f:Addr) (cdv:Value) (A:Around) (outer:List Env) (s:Shared) (H:Hp) (vs:List V) (Q:VK) (E:XK),Room k (A.deeper (envOfC x (qe_ st) s.heap.objs.size f cdv))->sp vs H Q E->
   ∃t,PSs (cxOf (CX1 P w) P w K mg base N x (qe_ st) f cdv A outer s H E) (q8_ st) t/\t {nx:=λ_ H'=>Q .non H',rt:=Q} (start N vs) H):Has P w K mg base (CX1 P w) (k+1) x ps sp:=by
 obtain ⟨f,fd,F1,b,m⟩:=F.ex
 obtain ⟨oc,od,kV,doc,pm,an,cdv,ct,osl,rfl,lk,hcd⟩:=F1.ex
 exact ⟨f,_,qtj_ lk hcd sc len λA outer s H vs Q E hr hsp=>hbody f cdv A outer s H vs Q E hr hsp,b,F1.kp,m⟩
section
variable {X:Cx} {pins:List (Addr×Obj)} {σ:L2.St} {H:Hp} {s:Shared}
abbrev Cx.tr (X:Cx) (pn:List (Addr×Obj)) (xe:Value->Shared->Prop):Cx:={X with pn:=pn,xe:=xe}
abbrev Cx.mk' (X:Cx) (e:Addr):Cx:={X with A:=X.A.mark (some (.ref e)),calm:=false,xe:=λ_ _=>False}
theorem qwp_ {pn:List (Addr×Obj)} {xe:Value->Shared->Prop} (ok:X.Ok):(Cx.tr X pn xe).Ok:=⟨ok.mod,ok.kind,ok.glob,ok.blt,ok.above,ok.inj,ok.has,ok.cab,ok.hd,ok.frames,ok.stk,ok.exf,ok.bs,ok.bsz,ok.noex,ok.exfs,ok.funs,ok.frf⟩
theorem qqj_ {pn:List (Addr×Obj)} {xe:Value->Shared->Prop} (ok:(Cx.tr X pn xe).Ok):X.Ok:=⟨ok.mod,ok.kind,ok.glob,ok.blt,ok.above,ok.inj,ok.has,ok.cab,ok.hd,ok.frames,ok.stk,ok.exf,ok.bs,ok.bsz,ok.noex,ok.exfs,ok.funs,ok.frf⟩
theorem qtk_ {xe:Value->Shared->Prop} (I:Inv X pins σ H s):Inv (Cx.tr X (X.pn++pins) xe) [] σ H s:=
 ⟨qwp_ I.ok,I.os,I.bare,I.base,I.loc,I.cell,I.free,I.freeC,λp hp=>I.pin p (by simpa using hp),I.hok,I.len⟩
theorem qek_ {xe:Value->Shared->Prop} {pins':List (Addr×Obj)} (I:Inv (Cx.tr X (X.pn++pins) xe) pins' σ H s):Inv X pins σ H s:=
 ⟨qqj_ I.ok,I.os,I.bare,I.base,I.loc,I.cell,I.free,I.freeC,λp hp=>I.pin p (List.mem_append_left _ hp),I.hok,I.len⟩
theorem qjs_ {e:Addr} (I:Inv X pins σ H s):Inv (Cx.mk' X e) pins σ H s:=
 ⟨⟨I.ok.mod,I.ok.kind,I.ok.glob,I.ok.blt,I.ok.above,I.ok.inj,I.ok.has,I.ok.cab,λz=>(nomatch z),I.ok.frames,I.ok.stk,I.ok.exf,I.ok.bs,I.ok.bsz,I.ok.noex,I.ok.exfs,I.ok.funs,I.ok.frf⟩,I.os,I.bare,I.base,I.loc,I.cell,I.free,I.freeC,I.pin,I.hok,I.len⟩
theorem qdt_ {e:Addr} (hd:X.calm=true->X.A.handled=none) (I:Inv (Cx.mk' X e) pins σ H s):Inv X pins σ H s:=
 ⟨⟨I.ok.mod,I.ok.kind,I.ok.glob,I.ok.blt,I.ok.above,I.ok.inj,I.ok.has,I.ok.cab,hd,I.ok.frames,I.ok.stk,I.ok.exf,I.ok.bs,I.ok.bsz,I.ok.noex,I.ok.exfs,I.ok.funs,I.ok.frf⟩,I.os,I.bare,I.base,I.loc,I.cell,I.free,I.freeC,I.pin,I.hok,I.len⟩
def IsX (a C:Addr):Heap->Prop:=λh=>∃ox,PySem.W.InstAt h a ox C none
theorem qua_ {P:Program} {w:World} {H:Hp} {h:Heap} {a C:Addr} {tb:Option Addr} (fl:Flies h a C tb):ObjOk P w H h a (.ext (IsX a C)):=by
 obtain ⟨oe,vs,he,hc,hd,hf,_⟩:=fl.ob
 refine ⟨⟨oe,he,hc,?_,?_⟩,⟨oe,he⟩,λh1 h2 q k=>?_⟩
 ·unfold PySem.W.notCls;rw [hf]
 ·rw [hd];trivial
 ·obtain ⟨ox,q1,q2,q3,q4⟩:=q
  refine ⟨ox,k _ q1,q2,q3,?_⟩
  cases z:ox.dict with
  |none=>trivial
  |some y=>rw [z] at q4;exact q4.elim
theorem qog_ {H':Hp} {s':Shared} {a C T:Addr} (I:Inv X pins σ H s) (y:Lay X.prog X.w X.stack H H' s s' a C (some T)):Inv X pins σ (upd H' a (.ext (IsX a C))) s':=by
  have nb:∀b o,s.heap.get? b=some o→b≠a:=fun b o q z=>by rw [z,y.fa] at q;cases q
  have nh:∀b u,H' b=some u→b≠a:=fun b u q z=>by rw [z,y.na] at q;cases q
  have un:Un (frs X.stack) [] H (upd H' a (.ext (IsX a C))) s.heap s'.heap:=
    ⟨y.un.keep, y.un.slot, fun b o q n hx => by rw [qo_ (nb b o q)]; exact y.un.free b o q n hx, y.un.there, fun b xs q => by have z := y.un.tups b xs q; rw [qo_ (nh b _ z)]; exact z,
     fun b o u q=>by have z:=y.un.frzs b o u q;rw [qo_ (nh b _ z)];exact z,fun b ps q=>by obtain ⟨m,z⟩:=y.un.tbls b ps q;exact ⟨m,by rw [qo_ (nh b _ z)];exact z⟩⟩
  have hok:HOk X.prog X.w (upd H' a (.ext (IsX a C))) s'.heap:=fun b o q=>by
    by_cases z:b=a
    · subst z
      rw [qt_] at q
      cases q
      exact qua_ y.fl
    · rw [qo_ z] at q
      exact (y.hok b o q).stay (fun _ _ _ e=>e) (fun c e=>by rw [qo_ (nh c _ e)];exact e) fun c xs e=>by rw [qo_ (nh c _ e)];exact e
  have os:=y.os
  have bare:=y.bare
  clear y
  obtain ⟨hh,g,d,t,os'⟩:=s'
  obtain rfl:os'=s.os:=os
  exact I.call (h':=hh) (g':=g) (d':=d) (t':=t) (ch:=[]) un hok bare fun b z=>absurd z (by simp)
end
end L3
namespace L3
open PySem PySem.Spec PyProof.Rows L2
section
variable {X:Cx} {pins:List (Addr×Obj)} {σ:L2.St} {H:Hp} {s:Shared}
end
def cOf (mg:Str->Option Value) (x:Str):Addr:=match mg x with
 |some (.ref a)=>a
 |_=>0
theorem qk3_ {mg:Str->Option Value} {x:Str} {C:Addr} (h:mg x=some (.ref C)):cOf mg x=C:=by unfold cOf;rw [h]
structure ExC (K:PySem.W.Frag) (mg:Str->Option Value) (x:Str):Prop where
 m:mg x=some (.ref (cOf mg x))
 q:PySem.W.excIn K (cOf mg x) qlj_ "ValueError.__new__"=true
 c:XCls K (cOf mg x)
theorem ExC.of {K:PySem.W.Frag} {mg:Str->Option Value} {x:Str} {C:Addr} (m:mg x=some (.ref C)) (q:PySem.W.excIn K C qlj_ "ValueError.__new__"=true) (c:XCls K C):ExC K mg x:=by
 have e:=qk3_ m
 refine ⟨?_,?_,?_⟩
 ·rw [e];exact m
 ·rw [e];exact q
 ·rw [e];exact c
end L3
namespace L3
open PySem PySem.Spec PyProof.Rows L2 PySem.SeqAt
noncomputable instance:DecidableEq D:=λa b=>Classical.propDecidable (a=b)
mutual
def HD (h:Heap):D->Value->Prop
 | .int i,u=>∃t,u= .int i t
 | .tup ds,u=>∃a its,u= .ref a/\h.IsTuple a its/\HDs h ds its.toList
 | .non,_=>False
 | .bl _,_=>False
 | .str _,_=>False
 | .lst _,_=>False
def HDs (h:Heap):List D->List Value->Prop
 |[],us=>us=[]
 |d::ds,us=>∃u r,us=u::r/\HD h d u/\HDs h ds r
end
mutual
def qh5_:D->Int
 | .int i=>hashInt i
 | .tup ds=>reduceHash (Builtin.Tuple.tupleHashOf (qce_ ds))
 | .non=>0
 | .bl _=>0
 | .str _=>0
 | .lst _=>0
def qce_:List D->List Int
 |[]=>[]
 |d::ds=>qh5_ d::qce_ ds
end
mutual
def drD:D->Nat
 | .int _=>1
 | .tup ds=>drDs ds+1
 | .non=>0
 | .bl _=>0
 | .str _=>0
 | .lst _=>0
def drDs:List D->Nat
 |[]=>0
 |d::ds=>drD d+drDs ds
end
theorem HDs.length {h:Heap}:∀{ds:List D} {us:List Value},HDs h ds us->ds.length=us.length
 |[],us,k=>by rw [HDs] at k;rw [k];rfl
 |d::ds,us,k=>by
  rw [HDs] at k
  obtain ⟨u,r,rfl,_,k⟩:=k
  rw [List.length_cons,List.length_cons,HDs.length k]
theorem HDs.get {h:Heap}:∀{ds:List D} {us:List Value} {i:Nat} {d:D},HDs h ds us->ds[i]?=some d->∃u,us[i]?=some u/\HD h d u
 |[],us,i,d,k,e=>by simp at e
 |x::ds,us,0,d,k,e=>by
  rw [HDs] at k
  obtain ⟨u,r,rfl,k1,k2⟩:=k
  simp at e
  subst e
  exact ⟨u,rfl,k1⟩
 |x::ds,us,i+1,d,k,e=>by
  rw [HDs] at k
  obtain ⟨u,r,rfl,k1,k2⟩:=k
  obtain ⟨u',h1,h2⟩:=HDs.get (i:=i) k2 (by simpa using e)
  exact ⟨u',by simpa using h1,h2⟩
theorem qmb_ {h:Heap} {a:Addr} {x y:Array Value} (hx:h.IsTuple a x) (hy:h.IsTuple a y):x=y:=by
 obtain ⟨o,h1,_,n,h2⟩:=hx
 obtain ⟨o',h3,_,n',h4⟩:=hy
 rw [h1] at h3
 cases h3
 rw [h2] at h4
 injection h4
mutual
theorem HD.inj {h:Heap}:∀{d e:D} {u:Value},HD h d u->HD h e u->d=e
 | .int i,e,u,k,l=>by
  rw [HD] at k
  obtain ⟨t,rfl⟩:=k
  cases e with
  |int j=>rw [HD] at l;obtain ⟨t',l⟩:=l;injection l with l;rw [l]
  |tup es=>rw [HD] at l;obtain ⟨_,_,l,_⟩:=l;cases l
  |_=>rw [HD] at l;exact l.elim
 | .tup ds,e,u,k,l=>by
  rw [HD] at k
  obtain ⟨a,its,rfl,k1,k2⟩:=k
  cases e with
  |int j=>rw [HD] at l;obtain ⟨t',l⟩:=l;cases l
  |tup es=>
   rw [HD] at l
   obtain ⟨a',its',l0,l1,l2⟩:=l
   cases l0
   rw [qmb_ k1 l1] at k2
   rw [HDs.inj k2 l2]
  |_=>rw [HD] at l;exact l.elim
 | .non,e,u,k,l=>by rw [HD] at k;exact k.elim
 | .bl _,e,u,k,l=>by rw [HD] at k;exact k.elim
 | .str _,e,u,k,l=>by rw [HD] at k;exact k.elim
 | .lst _,e,u,k,l=>by rw [HD] at k;exact k.elim
theorem HDs.inj {h:Heap}:∀{d e:List D} {u:List Value},HDs h d u->HDs h e u->d=e
 |[],e,u,k,l=>by
  rw [HDs] at k
  subst k
  cases e with
  |nil=>rfl
  |cons x xs=>rw [HDs] at l;obtain ⟨_,_,l,_⟩:=l;cases l
 |d::ds,e,u,k,l=>by
  rw [HDs] at k
  obtain ⟨v,r,rfl,k1,k2⟩:=k
  cases e with
  |nil=>rw [HDs] at l;cases l
  |cons x xs=>
   rw [HDs] at l
   obtain ⟨v',r',l0,l1,l2⟩:=l
   cases l0
   rw [HD.inj k1 l1,HDs.inj k2 l2]
end
mutual
theorem HD.keep {h h':Heap} (k:∀a its,h.IsTuple a its->h'.IsTuple a its):∀{d:D} {u:Value},HD h d u->HD h' d u
 | .int i,u,r=>by rw [HD] at r ⊢;exact r
 | .tup ds,u,r=>by
  rw [HD] at r ⊢
  obtain ⟨a,its,r1,r2,r3⟩:=r
  exact ⟨a,its,r1,k _ _ r2,HDs.keep k r3⟩
 | .non,u,r=>by rw [HD] at r;exact r.elim
 | .bl _,u,r=>by rw [HD] at r;exact r.elim
 | .str _,u,r=>by rw [HD] at r;exact r.elim
 | .lst _,u,r=>by rw [HD] at r;exact r.elim
theorem HDs.keep {h h':Heap} (k:∀a its,h.IsTuple a its->h'.IsTuple a its):∀{d:List D} {u:List Value},HDs h d u->HDs h' d u
 |[],u,r=>by rw [HDs] at r ⊢;exact r
 |d::ds,u,r=>by
  rw [HDs] at r ⊢
  obtain ⟨x,t,r1,r2,r3⟩:=r
  exact ⟨x,t,r1,HD.keep k r2,HDs.keep k r3⟩
end
theorem qkq_ {h h':Heap} {d:Addr} {o:Obj} {es ep} (ho:h.get? d=some o) (hd:o.data= .dict es ep) (hs:Heap.SameBut d h h'):∀a its,h.IsTuple a its->h'.IsTuple a its:=by
 rintro a its ⟨o',h1,h2,n,h3⟩
 have hne:a≠d:=by
  rintro rfl
  rw [ho] at h1
  cases h1
  rw [hd] at h3;cases h3
 exact ⟨o',(hs.2 a hne).trans h1,h2,n,h3⟩
theorem qja_ {s:Shared} {a:Addr} {its:Array Value} (h:s.heap.IsTuple a its):s.TypeIs (.ref a) "tuple":=let ⟨o,h1,h2,_⟩:=h;⟨o,h1,h2⟩
section
variable {prog:Program} {w:World}
theorem qlz_ (n:Nat):∀{A:Around} {E:Value->Shared->Prop} {s:Shared} {d:D} {u:Value} {Q:Int->Shared->Prop},dep d<=n->A.units+n<cLine->HD s.heap d u->Q (qh5_ d) {s with toks:=s.toks+drD d}->wpAny (model prog w) A (pyHash u) Q E s:=by
 induction n with
 |zero=>
  intro A E s d u Q hn hu k h
  cases d with
  |int i=>rw [HD] at k;obtain ⟨t,rfl⟩:=k;rw [qh5_,drD] at h;exact wpAny_pyHash_int h
  |tup ds=>rw [dep] at hn;omega
  |_=>rw [HD] at k;exact k.elim
 |succ n ih=>
  intro A E s d u Q hn hu k h
  cases d with
  |int i=>rw [HD] at k;obtain ⟨t,rfl⟩:=k;rw [qh5_,drD] at h;exact wpAny_pyHash_int h
  |tup ds=>
   rw [dep] at hn
   rw [HD] at k
   obtain ⟨a,items,rfl,k1,hi⟩:=k
   have hT:=qja_ k1
   obtain ⟨o,ho,_,m,hd⟩:=k1
   rw [qh5_,drD] at h
   unfold pyHash
   first|unfold pyHashByItsType|skip
   first|refine wpAny_bind (wpAny_cRoomFor_or (.inr (by omega)) ?_)|skip
   refine wpAny_bind (wpAny_specialOf hT F.slot_tuple_hash.lookup ?_)
   show wpAny _ _ (if (some (Value.builtin "tuple.__hash__")==some Value.none)=true then _ else _) Q E s
   rw [if_neg (by rw [beq_builtin_none];exact Bool.false_ne_true)]
   refine wpAny_bind (wpAny_specialOf hT F.slot_tuple_hash.lookup ?_)
   show wpAny _ _ (callSpecialIfBoundUnlessNone? (.ref a) "__hash__" _ >>= _) Q E s
   refine wpAny_bind (wpAny_callSpecialIfBoundUnlessNone?_slot hT F.slot_tuple_hash (wpAny_call_entry F.slot_tuple_hash hT F.entry_tuple_hash ?_ (F.args_tuple_hash_1 _)))
   show wpAny _ _ (Builtin.Tuple.tupleItemsOf (.ref a) >>= _) _ _ s
   refine wpAny_bind (wpAny_tupleItemsOf ho hd ?_)
   refine wpAny_bind ?_
   rw [<-Array.forIn_toList]
   have dl:∀{a b:List D},qce_ (a++b)=qce_ a++qce_ b:=by
    intro a b
    induction a with
    |nil=>rfl
    |cons x a ih=>rw [List.cons_append,qce_,qce_,ih];rfl
   have ds':∀{a b:List D},drDs (a++b)=drDs a+drDs b:=by
    intro a b
    induction a with
    |nil=>rw [List.nil_append,drDs,Nat.zero_add]
    |cons x a ih=>rw [List.cons_append,drDs,drDs,ih,Nat.add_assoc]
   refine wpAny_forIn_list _
    (λrest (b:Array Int) s'=>∃done left,ds=done++left/\HDs s.heap left rest/\b.toList=qce_ done/\s'={s with toks:=s.toks+drDs done})
    _ ?_ ?_ _ _ ⟨[],ds,rfl,hi,rfl,rfl⟩
   ·rintro x rest b s' ⟨done,left,e,hl,hb,rfl⟩
    cases left with
    |nil=>rw [HDs] at hl;cases hl
    |cons d left=>
     rw [HDs] at hl
     obtain ⟨x',r',e',hx,hl'⟩:=hl
     cases e'
     have hdn:dep d<=n:=by
      have:ds[done.length]?=some d:=by rw [e,List.getElem?_append_right (Nat.le_refl _),Nat.sub_self];rfl
      have:=qgk_ this
      omega
     refine wpAny_bind (ih (s:={s with toks:=s.toks+drDs done}) hdn (by rw [qbz_];omega) hx ?_)
     have nx:∃done' left',ds=done'++left'/\HDs s.heap left' rest/\(b.push (qh5_ d)).toList=qce_ done'/\({s with toks:=s.toks+drDs done+drD d}:Shared)={s with toks:=s.toks+drDs done'}:=
      ⟨done++[d],left,by rw [e];simp,hl',by rw [Array.toList_push,hb,dl,qce_,qce_],by rw [ds',drDs,drDs,Nat.add_zero,Nat.add_assoc]⟩
     first
      |exact wpAny_pure nx
      |exact wpAny_bind (wpAny_pure (wpAny_pure nx))
   ·rintro b s' ⟨done,left,e,hl,hb,rfl⟩
    cases left with
    |cons d left=>rw [HDs] at hl;obtain ⟨_,_,hl,_⟩:=hl;cases hl
    |nil=>
     rw [List.append_nil] at e
     subst e
     show wpAny _ _ (retInt (Builtin.Tuple.tupleHashOf b.toList)) _ _ _
     rw [hb]
     refine wpAny_ret_mkInt ?_
     show wpAny _ _ (if (decide (-(2:Int) ^ 63<=Builtin.Tuple.tupleHashOf (qce_ ds))&&decide (Builtin.Tuple.tupleHashOf (qce_ ds)<2 ^ 63))=true then _ else _) Q E _
     unfold reduceHash at h
     by_cases hr:(decide (-(2:Int) ^ 63<=Builtin.Tuple.tupleHashOf (qce_ ds))&&decide (Builtin.Tuple.tupleHashOf (qce_ ds)<2 ^ 63))=true
     ·rw [if_pos hr]
      rw [if_pos hr] at h
      exact wpAny_pure (by simpa [Nat.add_assoc] using h)
     ·rw [if_neg hr]
      rw [if_neg hr] at h
      exact wpAny_bind (wpAny_rule (wpAny_pure (by simpa [Nat.add_assoc] using h)))
  |_=>rw [HD] at k;exact k.elim
theorem qqx_ (n:Nat):∀{A:Around} {s:Shared} {d e:D} {u v:Value},dep d<=n->A.units+n<cLine->HD s.heap d u->HD s.heap e v->EqAt A s u v (decide (d=e)):=by
 induction n with
 |zero=>
  intro A s d e u v hn hu k l
  cases d with
  |int i=>
   rw [HD] at k;obtain ⟨t,rfl⟩:=k
   cases e with
   |int j=>
    rw [HD] at l;obtain ⟨t',rfl⟩:=l
    have:decide (D.int i=D.int j)=(i==j):=by
     by_cases z:i=j
     ·subst z;simp
     ·rw [beq_eq_false_iff_ne.mpr z,decide_eq_false];intro y;cases y;exact z rfl
    rw [this]
    exact EqAt.int_int _ _ _ _
   |tup es=>
    rw [HD] at l;obtain ⟨b,jts,rfl,l1,l2⟩:=l
    rw [decide_eq_false (by intro y;cases y)]
    exact EqAt.int_tuple _ _ l1 (by omega)
   |_=>rw [HD] at l;exact l.elim
  |tup ds=>rw [dep] at hn;omega
  |_=>rw [HD] at k;exact k.elim
 |succ n ih=>
  intro A s d e u v hn hu k l
  cases d with
  |int i=>exact ih (d:= .int i) (Nat.zero_le _) (by omega) k l
  |tup ds=>
   rw [dep] at hn
   have k0:=k
   rw [HD] at k
   obtain ⟨a,its,rfl,k1,k2⟩:=k
   cases e with
   |int j=>
    rw [HD] at l;obtain ⟨t',rfl⟩:=l
    rw [decide_eq_false (by intro y;cases y)]
    exact EqAt.tuple_int _ _ k1 (by omega)
   |tup es=>
    have l0:=l
    rw [HD] at l;obtain ⟨b,jts,rfl,l1,l2⟩:=l
    by_cases ab:a=b
    ·subst ab
     have:=HD.inj k0 l0
     rw [this,decide_eq_true rfl]
     exact EqAt.same _
    ·refine EqAt.of_refs ab ?_
     have rc:=RcAt.tuples (A:=A) (e:=λj=>decide (ds.getD j .non=es.getD j .non)) k1 l1 (by omega) λj h1 h2=>by
      have z1:=k2.length
      have z2:=l2.length
      have h1':j<ds.length:=by rw [z1];simpa using h1
      have h2':j<es.length:=by rw [z2];simpa using h2
      have e1:ds[j]?=some ds[j]:=List.getElem?_eq_getElem h1'
      have e2:es[j]?=some es[j]:=List.getElem?_eq_getElem h2'
      obtain ⟨u,hu',ru⟩:=k2.get e1
      obtain ⟨v,hv',rv⟩:=l2.get e2
      have g1:its[j]=u:=by
       rw [Array.getElem?_toList,Array.getElem?_eq_getElem h1] at hu'
       exact Option.some.inj hu'
      have g2:jts[j]=v:=by
       rw [Array.getElem?_toList,Array.getElem?_eq_getElem h2] at hv'
       exact Option.some.inj hv'
      rw [g1,g2,List.getD_eq_getElem?_getD,List.getD_eq_getElem?_getD,e1,e2]
      exact ih (d:=ds[j]) (e:=es[j]) (by have:=qgk_ e1;omega) (by rw [qbz_];omega) ru rv
     have z1:ds.length=its.size:=by rw [k2.length];simp
     have z2:es.length=jts.size:=by rw [l2.length];simp
     have:((List.range (min its.size jts.size)).all (λj=>decide (ds.getD j .non=es.getD j .non))&&its.size==jts.size)=decide (D.tup ds=D.tup es):=by
      rw [<-z1,<-z2]
      by_cases q:ds=es
      ·subst q
       simp
      ·rw [decide_eq_false (by intro y;cases y;exact q rfl)]
       rw [Bool.and_eq_false_iff]
       by_cases y:ds.length=es.length
       ·refine .inl ?_
        rw [List.all_eq_false]
        apply Classical.byContradiction
        intro hc
        apply q
        apply List.ext_getElem y
        intro i i1 i2
        apply Classical.byContradiction
        intro hne
        apply hc
        refine ⟨i,List.mem_range.mpr (by omega),?_⟩
        rw [List.getD_eq_getElem?_getD,List.getD_eq_getElem?_getD,List.getElem?_eq_getElem i1,List.getElem?_eq_getElem i2]
        simpa using hne
       ·exact .inr (by simpa using y)
     rw [this] at rc
     exact rc
   |_=>rw [HD] at l;exact l.elim
  |_=>rw [HD] at k;exact k.elim
theorem qki_ (n:Nat):∀{A:Around} {E:Value->Shared->Prop} {s:Shared} {d:D} {u:Value} {Q:Bool->Shared->Prop},dep d<=n->HD s.heap d u->Q true s->wpAny (model prog w) A (eqIsQuiet n u) Q E s:=by
 induction n with
 |zero=>
  intro A E s d u Q hn k h
  cases d with
  |int i=>rw [HD] at k;obtain ⟨t,rfl⟩:=k;rw [eqIsQuiet_byValue _ rfl];exact wpAny_pure h
  |tup ds=>rw [dep] at hn;omega
  |_=>rw [HD] at k;exact k.elim
 |succ n ih=>
  intro A E s d u Q hn k h
  cases d with
  |int i=>rw [HD] at k;obtain ⟨t,rfl⟩:=k;rw [eqIsQuiet_byValue _ rfl];exact wpAny_pure h
  |tup ds=>
   rw [dep] at hn
   rw [HD] at k
   obtain ⟨a,items,rfl,k1,hi⟩:=k
   have hT:=qja_ k1
   obtain ⟨o,ho,_,m,hd⟩:=k1
   unfold eqIsQuiet
   refine wpAny_bind (wpAny_specialOf hT F.slot_tuple_eq.lookup ?_)
   show wpAny _ _ (isInstance (.ref a) (.type "tuple") >>= _) _ _ s
   refine wpAny_bind (wpAny_isInstance hT isSubtype_tuple_tuple ?_)
   simp only [Bool.not_true,Bool.false_eq_true,if_false]
   refine wpAny_bind (wpAny_seqItems ho hd ?_)
   refine wpAny_bind ?_
   show wpAny _ _ (forIn items _ _) _ _ s
   rw [<-Array.forIn_toList]
   refine wpAny_forIn_list _ (λrest r s'=>r.1=none/\s'=s/\∃done left,ds=done++left/\HDs s.heap left rest) _ ?_ ?_ _ _ ⟨rfl,rfl,[],ds,rfl,hi⟩
   ·rintro v rest r s' ⟨hr,rfl,done,left,e,hl⟩
    cases left with
    |nil=>rw [HDs] at hl;cases hl
    |cons d left=>
     rw [HDs] at hl
     obtain ⟨x',r',e',hx,hl'⟩:=hl
     cases e'
     have hdn:dep d<=n:=by
      have:ds[done.length]?=some d:=by rw [e,List.getElem?_append_right (Nat.le_refl _),Nat.sub_self];rfl
      have:=qgk_ this
      omega
     refine wpAny_bind (ih hdn hx ?_)
     simp only [Bool.not_true,Bool.false_eq_true,if_false]
     exact wpAny_pure ⟨rfl,rfl,done++[d],left,by rw [e];simp,hl'⟩
   ·rintro ⟨r1,r2⟩ s' ⟨hr,rfl,_⟩
    simp only at hr
    subst hr
    exact wpAny_pure h
  |_=>rw [HD] at k;exact k.elim
noncomputable def treeKind (prog:Program) (w:World):HeapKind prog w D where
 is:=λh d a=>HD h d (.ref a)/\dep d<=8
 hash:=qh5_
 draws:=drD
 room:=λA=>A.units+8<cLine
 inj:=λhx hy=>HD.inj hx.1 hy.1
 keeps:=λx ho hd hs=>⟨x.1.keep (qkq_ ho hd hs),x.2⟩
 pyHash:=λhu hk h=>qlz_ 8 hk.2 hu hk.1 h
 eqBool:=λhu hx hy h=>qqx_ 8 hx.2 hu hx.1 hy.1 _ _ _ _ h
 quiet:=λhk h=>qki_ 8 hk.2 hk.1 h
end
section
variable {prog:Program} {w:World} {K:Type} [DecidableEq K] {knd:HeapKind prog w K}
theorem qcq_ {A:Around} {E:Value->Shared->Prop} {s:Shared} {d a:Addr} {xs:List (K×Addr×Value)} {k:K} {v:Value} {Q:Value->Shared->Prop} (hu:knd.room A) (hkey:knd.is s.heap k a) (hm:s.heap.DictOfH knd d xs)
  (h1:∀p,atKey xs k=some p->Q p.2 {s with toks:=s.toks+knd.draws k})
  (h2:atKey xs k=none->∀h',h'.DictOfH knd d (xs++[(k,a,v)])->Heap.SameBut d s.heap h'->Q v {s with heap:=h',toks:=s.toks+knd.draws k})
  (hsz:xs.length<=sizeLine):
  wpAny (model prog w) A (dictSetDefault d (.ref a) v) Q E s:=by
 obtain ⟨o,es,ep,ho,hc,hd,he,his,hn⟩:=hm
 unfold dictSetDefault
 try with_reducible refine wpAny_holding ?_
 refine wpAny_bind (knd.pyHash hu hkey ?_)
 refine wpAny_bind (wpAny_dictFind_heap (s:={s with toks:=s.toks+knd.draws k}) hu hkey ho hd he his hn ?_ ?_)
 ·intro hno
  have hnot:k∉xs.map (·.1):=not_mem_keys_of_get hno
  have q:=h2 (atKey_none_of_get hno)
  refine wpAny_bind (wpAny_rule (wpAny_bind (wpAny_updateDictKeys (hz:=by have e:=size_of_entries he;omega) (s:={s with toks:=s.toks+knd.draws k}) ho hd (wpAny_pure (q _ ⟨_,_,ep+1,Heap.get?_update_self _ ho (Obj.isFreed_of_dict (Obj.data_mapDictKeys hd _)),
   hc.mapDictKeys _,Obj.data_mapDictKeys hd _,?_,?_,?_⟩ (Heap.SameBut.update ..))))))
  ·simp [he,entryOfKey]
  ·intro x hx
   rcases List.mem_append.mp hx with hx|hx
   ·exact knd.keeps (his x hx) ho hd (Heap.SameBut.update ..)
   ·simp only [List.mem_singleton] at hx
    subst hx
    exact knd.keeps hkey ho hd (Heap.SameBut.update ..)
  ·rw [List.map_append,List.nodup_append]
   refine ⟨hn,by simp,?_⟩
   intro x hx y hy
   simp only [List.map_cons,List.map_nil,List.mem_singleton] at hy
   subst hy
   exact λe=>hnot (e ▸ hx)
 ·intro j p hj
  have q:=h1 p (atKey_of_get hn hj)
  refine wpAny_bind (wpAny_dictEntries (s:={s with toks:=s.toks+knd.draws k}) ho hd ?_)
  rw [entry_at he j,hj]
  exact wpAny_bind (wpAny_rule (wpAny_pure q))
theorem qdg_ (knd:HeapKind prog w K) (d a:Addr) (hd:(d==sysModules)=false) (dflt:Value):
  MeetsIn prog w (Builtin.«dict.setdefault» ⟨[.ref d,.ref a,dflt],[]⟩) (λA R s=>knd.room A.in1/\∃k xs,knd.is s.heap k a/\s.heap.DictOfH knd d xs/\xs.length<=sizeLine/\
   (∀p,atKey xs k=some p->R (.ok (.ret p.2)) {s with toks:=s.toks+knd.draws k})/\
   (atKey xs k=none->∀h',h'.DictOfH knd d (xs++[(k,a,dflt)])->Heap.SameBut d s.heap h'->R (.ok (.ret dflt)) {s with heap:=h',toks:=s.toks+knd.draws k})):=
 .of_wp λA R s ⟨hu,k,xs,hkey,hm,hz,h1,h2⟩=>by
  unfold Builtin.«dict.setdefault»
  refine wpAny_bind ?_
  unfold Builtin.Dict.keyAndDefault
  refine wpAny_bind (wpAny_notOrdered_dict hm.typeIs ?_)
  show wpAny _ _ (pure (d,Value.ref a,some dflt)) _ _ s
  refine wpAny_pure ?_
  show wpAny _ _ (if (d==sysModules)=true then _ else (dictSetDefault d (.ref a) dflt >>= _)) _ _ s
  rw [if_neg (by rw [hd];exact Bool.false_ne_true)]
  exact wpAny_bind (qcq_ hu hkey hm (λp hp=>wpAny_pure ⟨p.2,rfl,h1 p hp⟩) (λhn h' hm' hs'=>wpAny_pure ⟨dflt,rfl,h2 hn h' hm' hs'⟩) hz)
end
section
variable {prog:Program} {w:World} {A:Around} {E:Value->Shared->Prop} {s:Shared}
def RawD (h:Heap) (d:Addr) (es:Array DictEntry) (ep:Nat):Prop:=∃o,h.get? d=some o/\o.ExactDict/\o.data= .dict es ep
theorem RawD.ty {d:Addr} {es:Array DictEntry} {ep:Nat} (h:RawD s.heap d es ep):s.TypeIs (.ref d) "dict":=let ⟨o,h1,h2,_⟩:=h;⟨o,h1,h2.1⟩
theorem qhn_ (d:Addr) (hd:(d==sysModules)=false):
  MeetsIn prog w (Builtin.«dict.values» ⟨[.ref d],[]⟩) (λ_ R s=>(∃es ep,RawD s.heap d es ep)/\
   R (.ok (.ret (.ref s.heap.objs.size))) {s with heap:=s.heap.push {cls:= .type "dict_values",data:= .fields #[.ref d]}}):=
 .of_wp λA R s ⟨⟨es,ep,hm⟩,h⟩=>by
  refine wpAny_bind ?_
  unfold Builtin.Dict.noArgs
  refine wpAny_bind (wpAny_notOrdered_dict hm.ty ?_)
  show wpAny _ _ (pure d) _ _ s
  refine wpAny_pure ?_
  show wpAny _ _ (Builtin.Dict.showsAll d >>= _) _ _ s
  unfold Builtin.Dict.showsAll
  rw [if_neg (by rw [hd];exact Bool.false_ne_true)]
  refine wpAny_bind (wpAny_pure ?_)
  exact wpAny_bind (wpAny_newObj_type (wpAny_pure ⟨_,rfl,h⟩))
theorem qiu_ {v d:Addr} {es:Array DictEntry} {ep:Nat} {Q:Value->Shared->Prop} (hv:s.heap.IsValuesView v d) (hm:RawD s.heap d es ep)
  (hQ:Q (.ref s.heap.objs.size) {s with heap:=s.heap.push {cls:= .type "dict_valueiterator",data:= .fields #[.ref d,.int 0 0,.int es.size 0,.int ep 0]}}):
  wpAny (model prog w) A (pyIter (.ref v)) Q E s:=by
 obtain ⟨ov,hov,hcv,hdv⟩:=id hv
 obtain ⟨o,ho,hc,hdat⟩:=id hm
 refine wpAny_pyIter_slot hv.typeIs F.slot_dict_values_iter (wpAny_call_entry F.slot_dict_values_iter hv.typeIs F.entry_dict_values_iter ?_ (F.args_dict_values_iter_1 _))
 unfold Builtin.«dict_values.__iter__»
 refine wpAny_bind (wpAny_pure ?_)
 refine wpAny_bind ?_
 unfold Builtin.Dict_items.dictOf
 refine wpAny_bind (wpAny_field hov hdv (x:= .ref d) rfl (wpAny_pure ?_))
 refine wpAny_bind ?_
 unfold Builtin.Dict_items.newIterator
 refine wpAny_bind (wpAny_dictEntries ho hdat ?_)
 refine wpAny_bind (wpAny_dictEpoch ho hdat ?_)
 have hown:Builtin.Dict_items.ownsTuple "dict_valueiterator"=false:=by decide
 simp only [hown,Bool.false_eq_true,if_false]
 refine wpAny_newObj_type (wpAny_pure ⟨_,rfl,"dict_valueiterator",_,⟨_,Heap.get?_push_size _ rfl,rfl⟩,F.slot_dict_valueiterator_next.lookup,?_⟩)
 simpa [rawInt] using hQ
theorem qio_ {it d:Addr} {i ep:Nat} {es:Array DictEntry} {Q:Option Value->Shared->Prop} (hit:s.heap.IsValIter it d i es.size ep)
  (hm:RawD s.heap d es ep) (hlt':i<es.size)
  (hQ:∀h',h'.IsValIter it d (i+1) es.size ep->Heap.SameBut it s.heap h'->Q (some es[i].val) {s with heap:=h'}):
  wpAny (model prog w) A (pyNext (.ref it)) Q E s:=by
 obtain ⟨o,ho,hc,hd⟩:=id hit
 obtain ⟨od,hod,hcd,hdd⟩:=id hm
 unfold pyNext
 refine wpAny_bind (wpAny_attempt (wpAny_callSpecial?_slot (name:=Str.ofString "__next__") hit.typeIs F.slot_dict_valueiterator_next
  (wpAny_call_entry F.slot_dict_valueiterator_next hit.typeIs F.entry_dict_valueiterator_next ?_ (F.args_dict_valueiterator_next_1 _))))
 refine wpAny_bind (wpAny_pure ?_)
 refine wpAny_bind ?_
 refine wpAny_bind ?_
 first|refine wpAny_bind (wpAny_typeNameOfWhole_valiter hit.typeIs (wpAny_pure ?_))|refine wpAny_bind (wpAny_typeNameOf_valiter hit.typeIs (wpAny_pure ?_))
 refine wpAny_bind (wpAny_fieldsOf ho hd ?_)
 have hown:Builtin.Dict_items.ownsTuple "dict_valueiterator"=false:=by decide
 simp only [hown,Bool.false_eq_true,if_false]
 show wpAny _ _ (if (Value.ref d==Value.none)=true then _ else _) _ _ s
 rw [if_neg (show ¬((Value.ref d==Value.none)=true) from Bool.false_ne_true)]
 refine wpAny_bind (wpAny_pure ?_)
 refine wpAny_bind (wpAny_dictEntries hod hdd ?_)
 rw [if_neg (by simp)]
 refine wpAny_bind (wpAny_pure ?_)
 refine wpAny_bind (wpAny_dictEpoch hod hdd ?_)
 rw [if_neg (by simp)]
 refine wpAny_pure ?_
 simp only [show ¬((i:Int)<0) from by omega,if_false,Int.toNat_natCast,Array.getElem?_eq_getElem hlt']
 refine wpAny_bind ?_
 first|refine wpAny_bind (wpAny_typeNameOfWhole_valiter hit.typeIs (wpAny_pure ?_))|refine wpAny_bind (wpAny_typeNameOf_valiter hit.typeIs (wpAny_pure ?_))
 refine wpAny_bind (wpAny_isOneOf_valiter hit.typeIs ?_)
 show wpAny _ _ (setField (.ref it) 1 (rawInt ((i:Int)+1)) >>= _) _ _ s
 refine wpAny_bind (wpAny_setField ho hd (by simp) ?_)
 have hit':(s.heap.update it (Obj.mapFields (·.setIfInBounds 1 (rawInt ((i:Int)+1))))).IsValIter it d (i+1) es.size ep:=
  ⟨_,Heap.get?_update_self _ ho (Obj.isFreed_of_fields (Obj.data_mapFields hd _)),(Obj.cls_mapFields ..).trans hc,by rw [Obj.data_mapFields hd];simp [rawInt]⟩
 refine wpAny_bind (wpAny_holding ?_)
 refine wpAny_bind (wpAny_isOneOf_valiter (s:={s with heap:=s.heap.update it (Obj.mapFields (·.setIfInBounds 1 (rawInt ((i:Int)+1))))}) hit'.typeIs ?_)
 refine wpAny_bind (wpAny_isOneOf_valiter (s:={s with heap:=s.heap.update it (Obj.mapFields (·.setIfInBounds 1 (rawInt ((i:Int)+1))))}) hit'.typeIs ?_)
 show wpAny _ _ (pure es[i].val) _ _ _
 exact wpAny_pure (wpAny_pure ⟨_,rfl,wpAny_pure (hQ _ hit' (Heap.SameBut.update ..))⟩)
theorem qkl_ {it d:Addr} {i ep:Nat} {es:Array DictEntry} {Q:Option Value->Shared->Prop} (hh:A.handled=none) (hit:s.heap.IsValIter it d i es.size ep)
  (hm:RawD s.heap d es ep) (hge:es.size<=i)
  (hQ:∀h',Heap.ExtBut it s.heap h'->Q none {s with heap:=h'}):wpAny (model prog w) A (pyNext (.ref it)) Q E s:=by
 obtain ⟨o,ho,hc,hd⟩:=id hit
 obtain ⟨od,hod,hcd,hdd⟩:=id hm
 unfold pyNext
 refine wpAny_bind (wpAny_attempt (wpAny_callSpecial?_slot (name:=Str.ofString "__next__") hit.typeIs F.slot_dict_valueiterator_next
  (wpAny_call_entry F.slot_dict_valueiterator_next hit.typeIs F.entry_dict_valueiterator_next ?_ (F.args_dict_valueiterator_next_1 _))))
 refine wpAny_bind (wpAny_pure ?_)
 refine wpAny_bind ?_
 refine wpAny_bind ?_
 first|refine wpAny_bind (wpAny_typeNameOfWhole_valiter hit.typeIs (wpAny_pure ?_))|refine wpAny_bind (wpAny_typeNameOf_valiter hit.typeIs (wpAny_pure ?_))
 refine wpAny_bind (wpAny_fieldsOf ho hd ?_)
 have hown:Builtin.Dict_items.ownsTuple "dict_valueiterator"=false:=by decide
 simp only [hown,Bool.false_eq_true,if_false]
 show wpAny _ _ (if (Value.ref d==Value.none)=true then _ else _) _ _ s
 rw [if_neg (show ¬((Value.ref d==Value.none)=true) from Bool.false_ne_true)]
 refine wpAny_bind (wpAny_pure ?_)
 refine wpAny_bind (wpAny_dictEntries hod hdd ?_)
 rw [if_neg (by simp)]
 refine wpAny_bind (wpAny_pure ?_)
 refine wpAny_bind (wpAny_dictEpoch hod hdd ?_)
 rw [if_neg (by simp)]
 refine wpAny_pure ?_
 simp only [show ¬((i:Int)<0) from by omega,if_false,Int.toNat_natCast,Array.getElem?_eq_none hge]
 refine wpAny_bind ?_
 first|refine wpAny_bind (wpAny_typeNameOfWhole_valiter hit.typeIs (wpAny_pure ?_))|refine wpAny_bind (wpAny_typeNameOf_valiter hit.typeIs (wpAny_pure ?_))
 show wpAny _ _ (setField (.ref it) 0 .none >>= _) _ _ s
 refine wpAny_bind (wpAny_setField ho hd (by simp) ?_)
 show wpAny _ _ (newExc (.type "StopIteration") [] >>= _) _ _ _
 refine wpAny_bind ?_
 simp only [newExc,newTuple]
 refine wpAny_bind (wpAny_newObj_type ?_ (by size_fits))
 refine wpAny_bind (m:=firstArgMember _ _) (wpAny_of_eq (a:=Value.none) (by first|rfl|(simp only [firstArgMember];rfl)) ?_)
 refine wpAny_newObj_type ?_ (by size_fits)
 simp only [raiseNew]
 refine wpAny_bind (wpAny_handled ?_)
 rw [show A.in1.handled=none from hh]
 refine wpAny_bind (wpAny_pure (wpAny_throw ?_))
 refine wpAny_bind (wpAny_isInstance (T:="StopIteration") (b:=true) ⟨_,Heap.get?_push_size _ rfl,rfl⟩ isSubtype_stop ?_)
 exact wpAny_pure (hQ _ (((Heap.SameBut.update ..).extBut.push _).push _))
def qet_ (es:Array DictEntry):List Value:=es.toList.map (·.val)
theorem qnb_ {S it d:Addr} {ep:Nat} {es:Array DictEntry} {R:Result->Shared->Prop} {res:Value} (hh:A.in1.handled=none) (nSi:S≠it) (nSd:S≠d) (nid:it≠d) (hz:es.size<=100000):
  ∀(k i:Nat) (s:Shared) (c:Nat),es.size - i=k->i<=es.size->s.heap.IsValIter it d i es.size ep->RawD s.heap d es ep->s.heap.get? S=some {cls:= .type "list",dict:=none,data:= .seq ((qet_ es).take i).toArray c,slots:= #[]}->
  (∀h' c',(∀b o,b≠S->b≠it->s.heap.get? b=some o->h'.get? b=some o)->h'.get? S=some {cls:= .type "list",dict:=none,data:= .seq (qet_ es).toArray c',slots:= #[]}->R (.ok (.ret res)) {s with heap:=h'})->
  codeAny (model prog w) A (.builtin "list.extend.loop" ⟨[.ref S,.ref it,res],[]⟩) R s:=by
 have lv:(qet_ es).length=es.size:=by simp [qet_]
 intro k
 induction k with
 |zero=>
  intro i s c hk hi hit hm hS hR
  have hin:i=es.size:=by omega
  refine codeAny_builtin F.entry_extend_loop ?_
  rw [Around.under_plainId F.plain_extend_loop _]
  show wpAny _ A.in1 (pyNext (.ref it) >>= _) _ _ s
  refine wpAny_bind (qkl_ hh hit hm (by omega) λh' kk=>?_)
  refine wpAny_pure (hR h' c (λb o _ hb e=>kk b o hb e) ?_)
  have:=kk S _ nSi hS
  rw [hin,<-lv,List.take_length] at this
  exact this
 |succ k ih=>
  intro i s c hk hi hit hm hS hR
  have hlt:i<es.size:=by omega
  refine codeAny_builtin F.entry_extend_loop ?_
  rw [Around.under_plainId F.plain_extend_loop _]
  show wpAny _ A.in1 (pyNext (.ref it) >>= _) _ _ s
  refine wpAny_bind (qio_ hit hm hlt λh' hit' sb=>?_)
  have kk:∀b o,b≠it->s.heap.get? b=some o->h'.get? b=some o:=λb o hb e=>(sb.2 b hb).trans e
  have hS2:=kk S _ nSi hS
  show wpAny _ A.in1 (updateSeq S (·.push es[i].val) >>= _) _ _ _
  refine wpAny_bind ?_
  have lps:((qet_ es).take i).toArray.size=i:=by simp [lv];omega
  refine wpAny_updateSeq hS2 rfl (wpAny_pure ⟨plainId_quiet F.plain_extend_loop _,?_⟩) (by rw [lps,sizeLine_eq];omega) (by show (((qet_ es).take i).toArray.push _).size<=sizeLine+1;rw [Array.size_push,lps,sizeLine_eq];omega)
  have upS:=Heap.get?_update_self (Obj.mapSeq (·.push es[i].val)) hS2 rfl
  have upO:∀b o,b≠S->h'.get? b=some o->(h'.update S (Obj.mapSeq (·.push es[i].val))).get? b=some o:=λb o hb e=>(Heap.get?_update_other _ _ (Ne.symm hb)).trans e
  have earr:((qet_ es).take (i+1)).toArray=((qet_ es).take i).toArray.push es[i].val:=by
   have:(qet_ es)[i]?=some es[i].val:=by unfold qet_;rw [List.getElem?_map,Array.getElem?_toList,Array.getElem?_eq_getElem hlt];rfl
   rw [List.take_add_one,this];simp
  refine ih (i+1) {s with heap:=h'.update S (Obj.mapSeq (·.push es[i].val))} _ (by omega) hlt ?_ ?_ (by rw [earr];exact upS) λh'' c'' k2 q2=>?_
  ·obtain ⟨o,h1,h2⟩:=hit'
   exact ⟨o,upO _ _ (Ne.symm nSi) h1,h2⟩
  ·obtain ⟨o,h1,h2⟩:=hm
   exact ⟨o,upO _ _ (Ne.symm nSd) (kk _ _ (Ne.symm nid) h1),h2⟩
  ·exact hR h'' c'' (λb o h1 h2 e=>k2 b o h1 h2 (upO b o h1 (kk b o h2 e))) q2
theorem qny_:typeLookup (.type "dict_values") "__len__"=pure (some (.builtin "dict_values.__len__")):=by rw [typeLookup_type,builtinLookup_eq_fast];kernel_rfl
theorem qoj_:isSubtype (.type "dict_values") (.type "dict_values")=pure true:=by rw [isSubtype_type];kernel_rfl
theorem qm3_ {S v d:Addr} {ep:Nat} {es:Array DictEntry} {R:Result->Shared->Prop} (hh:A.in1.handled=none) (nSv:S≠v) (nSd:S≠d) (hz:es.size<=100000) (hv:s.heap.IsValuesView v d) (hm:RawD s.heap d es ep) (hSo:s.heap.get? S=some {cls:= .type "list",data:= .seq #[]})
  (hR:∀h' c',(∀b o,b≠S->s.heap.get? b=some o->h'.get? b=some o)->h'.get? S=some {cls:= .type "list",dict:=none,data:= .seq (qet_ es).toArray c',slots:= #[]}->R (.ok (.ret .none)) {s with heap:=h'}):
  wpAny (model prog w) A.in1 (Builtin.«list.__init__» ⟨[.ref S,.ref v],[]⟩)
   (λfin s'=>match fin with| .done f=>R (.ok f) s'| .again c'=>c'.quiet=true/\codeAny (model prog w) A c' R s') (λe s'=>R (.error e) s') s:=by
 show wpAny _ A.in1 (do let was <-Builtin.List.listItems (.ref S);Builtin.List.listUpdate (.ref S) (λ_=> #[]);letGo was.toList.reverse;Builtin.List.listExtendWith (.ref S) (.ref v) .none) _ _ s
 refine wpAny_bind ?_
 unfold Builtin.List.listItems
 refine wpAny_bind (wpAny_seqItems hSo rfl (wpAny_pure ?_))
 show wpAny _ A.in1 (updateSeq S (λ_=> #[]) >>= λ_=>letGo (#[]:Array Value).toList.reverse >>= λ_=>Builtin.List.listExtendWith (.ref S) (.ref v) .none) _ _ s
 refine wpAny_bind (wpAny_updateSeq hSo rfl (wpAny_bind (wpAny_letGo ?_)))
 have q1:=Heap.get?_update_self (Obj.mapSeq (λ_=>(#[]:Array Value))) hSo rfl
 have o1:∀b o,b≠S->s.heap.get? b=some o->(s.heap.update S (Obj.mapSeq (λ_=>(#[]:Array Value)))).get? b=some o:=λb o hb e=>(Heap.get?_update_other _ _ (Ne.symm hb)).trans e
 generalize hg1:s.heap.update S (Obj.mapSeq (λ_=>(#[]:Array Value)))=g1 at q1 o1
 have v1:g1.IsValuesView v d:=let ⟨o,h1,h2⟩:=hv;⟨o,o1 _ _ (Ne.symm nSv) h1,h2⟩
 have m1:RawD g1 d es ep:=let ⟨o,h1,h2⟩:=hm;⟨o,o1 _ _ (Ne.symm nSd) h1,h2⟩
 have T1:Shared.TypeIs {s with heap:=g1} (.ref v) "dict_values":=Heap.IsValuesView.typeIs (s:={s with heap:=g1}) v1
 unfold Builtin.List.listExtendWith
 refine wpAny_bind (wpAny_typeOf T1 ?_)
 have b1:Builtin.List.listSameRef (.ref S) (.ref v)=false:=by simp [Builtin.List.listSameRef,nSv]
 have b2:(Value.type "dict_values"==Value.type "list")=false:=by decide
 have b3:(Value.type "dict_values"==Value.type "tuple")=false:=by decide
 simp only [b1,b2,b3,Bool.or_false,Bool.false_eq_true,if_false]
 refine wpAny_bind (qiu_ (s:={s with heap:=g1}) v1 m1 (wpAny_bind (wpAny_holding ?_)))
 have it0:(g1.push {cls:= .type "dict_valueiterator",data:= .fields #[.ref d,.int 0 0,.int es.size 0,.int ep 0]}).get? g1.objs.size=some {cls:= .type "dict_valueiterator",data:= .fields #[.ref d,.int 0 0,.int es.size 0,.int ep 0]}:=Heap.get?_push_size _ rfl
 have o2:∀b o,g1.get? b=some o->(g1.push {cls:= .type "dict_valueiterator",data:= .fields #[.ref d,.int 0 0,.int es.size 0,.int ep 0]}).get? b=some o:=λb o e=>Heap.get?_push_of_some _ e
 have nit:∀b o,g1.get? b=some o->b≠g1.objs.size:=λb o e=>Nat.ne_of_lt (Heap.lt_size e)
 show wpAny _ A.in1 _ _ _ {s with heap:=g1.push {cls:= .type "dict_valueiterator",data:= .fields #[.ref d,.int 0 0,.int es.size 0,.int ep 0]}}
 generalize g1.push {cls:= .type "dict_valueiterator",data:= .fields #[.ref d,.int 0 0,.int es.size 0,.int ep 0]}=g2 at it0 o2
 have v2:g2.IsValuesView v d:=let ⟨o,h1,h2⟩:=v1;⟨o,o2 _ _ h1,h2⟩
 have T2:Shared.TypeIs {s with heap:=g2} (.ref v) "dict_values":=Heap.IsValuesView.typeIs (s:={s with heap:=g2}) v2
 unfold Builtin.List.listLengthHint
 refine wpAny_bind (wpAny_specialOf T2 qny_ ?_)
 show wpAny _ A.in1 (isInstance (.ref v) (.type "dict_values") >>= _) _ _ _
 refine wpAny_bind (wpAny_isInstance T2 qoj_ ?_)
 simp only [Bool.not_true,Bool.false_eq_true,if_false]
 show wpAny _ A.in1 (typeOf (.ref v) >>= _) _ _ _
 refine wpAny_bind (wpAny_typeOf T2 (wpAny_pure ?_))
 show wpAny _ A.in1 (rule "list.extend.makes-room" >>= λ_=>Builtin.List.listTouch (.ref S) >>= λ_=>again (.builtin "list.extend.loop" ⟨[.ref S,.ref g1.objs.size,.none],[]⟩)) _ _ _
 have q1':=o2 _ _ q1
 refine wpAny_bind (wpAny_rule (wpAny_bind ?_))
 show wpAny _ A.in1 (updateSeq S (·.push .none) >>= λ_=>updateSeq S (·.pop)) _ _ _
 refine wpAny_bind (wpAny_updateSeq q1' rfl ?_)
 have q2:=Heap.get?_update_self (Obj.mapSeq (·.push Value.none)) q1' rfl
 have o3:∀b o,b≠S->g2.get? b=some o->(g2.update S (Obj.mapSeq (·.push Value.none))).get? b=some o:=λb o hb e=>(Heap.get?_update_other _ _ (Ne.symm hb)).trans e
 refine wpAny_updateSeq (hz:=by seq_fits) q2 rfl ?_
 have q3:=Heap.get?_update_self (Obj.mapSeq (·.pop)) q2 rfl
 have o4:∀b o,b≠S->g2.get? b=some o->((g2.update S (Obj.mapSeq (·.push Value.none))).update S (Obj.mapSeq (·.pop))).get? b=some o:=λb o hb e=>(Heap.get?_update_other _ _ (Ne.symm hb)).trans (o3 b o hb e)
 refine wpAny_pure ⟨plainId_quiet F.plain_extend_loop _,?_⟩
 have nSi:S≠g1.objs.size:=nit _ _ q1
 have nid:g1.objs.size≠d:=let ⟨o,h1,_⟩:=m1;Ne.symm (nit _ _ h1)
 refine qnb_ (res:= .none) hh nSi nSd nid hz es.size 0 _ _ rfl (Nat.zero_le _) ⟨_,o4 _ _ (Ne.symm nSi) it0,rfl,rfl⟩ (let ⟨o,h1,h2⟩:=m1;⟨o,o4 _ _ (Ne.symm nSd) (o2 _ _ h1),h2⟩) q3 λh' c' kk u1=>?_
 exact hR h' c' (λb o hb e=>kk b o hb (nit _ _ (o1 b o hb e)) (o4 b o hb (o2 b o (o1 b o hb e)))) u1
end
def entD (x:D×Addr×Value):DictEntry:=⟨qh5_ x.1,.ref x.2.1,x.2.2⟩
def IsDT (p:Addr) (xs:List (D×Addr×Value)):Heap->Prop:=λh=>(p==sysModules)=false/\xs.length<=sizeLine/\(xs.map (·.1)).Nodup/\∃o es ep,h.get? p=some o/\o.ExactDict/\o.data= .dict es ep/\es.toList=xs.map entD
theorem qtg_ {P:Program} {w:World} {H:Hp} {h:Heap} {p:Addr} {xs:List (D×Addr×Value)} (k:IsDT p xs h):ObjOk P w H h p (.ext (IsDT p xs)):=by
 refine ⟨k,?_,λh1 h2 ⟨a1,a2,a3,o,es,ep,b1,b2⟩ e=>⟨a1,a2,a3,o,es,ep,e o b1,b2⟩⟩
 obtain ⟨_,_,_,o,_,_,h1,_⟩:=k
 exact ⟨o,h1⟩
theorem qqu_ {X:Cx} {pins:List (Addr×Obj)} {σ:L2.St} {H:Hp} {s:Shared} {p:Addr} {xs:List (D×Addr×Value)} (I:Inv X pins σ H s) (h:H p=some (.ext (IsDT p xs))):IsDT p xs s.heap:=(show ObjOk X.prog X.w H s.heap p (.ext (IsDT p xs)) from I.hok p _ h).1
theorem quy_ {s:Shared} {p:Addr} {xs:List (D×Addr×Value)} (h:IsDT p xs s.heap):s.TypeIs (.ref p) "dict"/\∀b,Value.ref p= .ref b->∃ob,s.heap.get? b=some ob/\ob.dict=none:=by
 obtain ⟨_,_,_,o,es,ep,h1,h2,_⟩:=h
 refine ⟨⟨o,h1,h2.1⟩,λb e=>?_⟩
 cases e
 exact ⟨o,h1,h2.2.1⟩
section
variable {X:Cx} {o e f:Expr} {es:List Expr} {td:TE} {ta:TA} {apos cpos pos:Pos}
def qt3_:TE:=λ_ H Q=>∀p,H p=none->Q (.ref p) (upd H p (.ext (IsDT p [])))
theorem qnr_:PE X (.Dict [] [] pos) qt3_:=λpins s σ H Q I h=>
 wpAny_Dict_empty ⟨.ref s.heap.objs.size,_,I.laid (a:=s.heap.objs.size) (o:= .ext (IsDT s.heap.objs.size [])) (t':=s.toks) (λ_ _ q=>Heap.get?_push_of_some _ q) (Nat.le_refl _) (qtg_ ⟨beq_eq_false_iff_ne.mpr (Ne.symm (Nat.ne_of_lt I.big)),Nat.zero_le _,List.nodup_nil,_,#[],0,Heap.get?_push_size _ rfl,⟨rfl,rfl,rfl⟩,rfl,rfl⟩),rfl,h _ (I.hok.fresh (Nat.le_refl _))⟩
def tSD (X:Cx) (td:TE) (ta:TA):TE:=λσ H Q=>td σ H λx H1=>∃a xs0,x= .ref a/\H1 a=some (.ext (IsDT a xs0))/\ta σ H1 λvs H2=>∃(b:Addr) (v:V) (kd:D) (xs:List (D×Addr×Value)),vs=[.ref b,v]/\H2 a=some (.ext (IsDT a xs))/\dep kd<=8/\xs.length<sizeLine/\(∀x∈xs,dep x.1<=8)/\
 (∀(pins:List (Addr×Obj)) (s:Shared),Inv X pins σ H2 s->HD s.heap kd (.ref b)/\∀x∈xs,HD s.heap x.1 (.ref x.2.1))/\
 (∀p,atKey xs kd=some p->∃v',RelV v' p.2/\Q v' H2)/\(atKey xs kd=none->∀u,RelV v u->Q v (upd H2 a (.ext (IsDT a (xs++[(kd,b,u)])))))
theorem qsh_ {pins:List (Addr×Obj)} {σ:L2.St} {H:Hp} {s:Shared} {a b:Addr} {v:V} {u:Value} {kd:D} {xs:List (D×Addr×Value)} {Q:VK} (hu:X.A.units+10<cLine) (I:Inv X pins σ H s) (ha:H a=some (.ext (IsDT a xs))) (dk:dep kd<=8) (lx:xs.length<sizeLine) (dx:∀x∈xs,dep x.1<=8) (hk:HD s.heap kd (.ref b)) (hx:∀x∈xs,HD s.heap x.1 (.ref x.2.1)) (rv:RelV v u)
  (h1:∀p,atKey xs kd=some p->∃v',RelV v' p.2/\Q v' H) (h2:atKey xs kd=none->Q v (upd H a (.ext (IsDT a (xs++[(kd,b,u)]))))):
  wpAny (model X.prog X.w) X.A (call (.builtin "dict.setdefault") [.ref a,.ref b,u]) (EP X pins σ Q) X.xe s:=by
 have dt:=qqu_ I ha
 obtain ⟨hd,hz,hn,o,es,ep,e1,e2,e3,e4⟩:=dt
 have hm:s.heap.DictOfH (treeKind X.prog X.w) a xs:=⟨o,es,ep,e1,e2,e3,e4,λx h=>⟨hx x h,dx x h⟩,hn⟩
 refine call_meetsIn F.slot_dict_setdefault hm.typeIs F.entry_dict_setdefault (F.args_dict_setdefault_3 _ _ _) (qdg_ (treeKind X.prog X.w) a b hd u) ⟨by show X.A.in1.units+8<cLine;rw [qbz_];omega,kd,xs,⟨hk,dk⟩,hm,Nat.le_of_lt lx,λp hp=>?_,λhnone h' hm' hs=>?_⟩
 ·obtain ⟨v',r,q⟩:=h1 p hp
  exact ⟨v',H,I.tok _,r,q⟩
 ·obtain ⟨o',es',ep',f1,f2,f3,f4,_,f5⟩:=hm'
  refine ⟨v,_,I.write (x:=a) (e:=a) (by rw [ha];exact trivial) (.inl rfl) (λc w hc e=>(hs.2 c hc).trans e) ⟨o',f1⟩ (qtg_ ⟨hd,?_,f5,o',es',ep',f1,f2,f3,f4⟩),rv,h2 hnone⟩
  rw [List.length_append];exact lx
theorem qu9_ (hu:X.A.units+10<cLine) (ho:PE X o td) (ha:PA X [e,f] ta)
  (hbase:attributeBase o "setdefault" X.env (eval o X.env)=eval o X.env:=by rfl)
  (hfew:((backTo cpos (starEach [e,f] X.env)).all (λx=> !x.1)&&(backToKw cpos (keywordEach [] X.env)).all (λx=>x.1.isSome)
   &&decide ([e,f].length+([]:List Keyword).length+(if ([]:List Keyword).isEmpty then 0 else 1)<30))=true:=by rfl)
  (hline:(apos.endLine==cpos.line)=true:=by rfl) (hs:starEach [e,f] X.env=(false,eval e X.env)::starEach [f] X.env:=by rfl) (hplain:(backTo cpos (starEach [f] X.env)).any (·.1)=false:=by rfl):
  PE X (.Call (.Attribute o "setdefault" apos) [e,f] [] cpos) (tSD X td ta):=by
 intro pins s σ H Q I h
 refine wpAny_Call_method_late hbase hfew hline rfl (thn (ho pins s σ H _ I h) λv s1 ⟨x,H1,I1,r1,a,xs0,ex,hx0,q1⟩=>?_)
 subst ex
 cases r1
 obtain ⟨h1,h2⟩:=quy_ (s:=s1) (qqu_ I1 hx0)
 refine ⟨"dict","dict.setdefault",F.plainAttrs_dict,F.slot_dict_setdefault,F.type_dict_setdefault,h1,h2,?_⟩
 have hA:=ha cpos pins s1 σ H1 _ I1 q1
 rw [hs] at hA ⊢
 refine Calls.callWith_builtin (by show (false||(backTo cpos (starEach [f] X.env)).any (·.1))=false;rw [hplain]<;>rfl) (Calls.evalArgs_plain ?_)
 refine thn hA λus s2 ⟨vs,H2,I2,r2,b,v,kd,xs,ev,ha2,dk,lx,dx,hk,g1,g2⟩=>?_
 subst ev
 obtain ⟨u1,u2,rfl,ru1,ru2⟩:=qkb_ r2
 cases ru1
 obtain ⟨hk1,hk2⟩:=hk _ _ I2
 exact qsh_ hu I2 ha2 dk lx dx hk1 hk2 ru2 g1 λhn=>g2 hn u2 ru2
def tLV (td:TE):TE:=λσ H Q=>td σ H λx H1=>∃a xs vs,x= .ref a/\H1 a=some (.ext (IsDT a xs))/\xs.length<=100000/\Vals vs (xs.map λx=>x.2.2)/\∀l,H1 l=none->Q (.ref l) (upd H1 l (.lst vs))
theorem qif_ {p pos2:Pos} (hgl:Gl X "list") (hml:X.mg "list"=none) (hc:X.calm=true) (ho:PE X o td)
  (hbase:attributeBase o "values" X.env (eval o X.env)=eval o X.env:=by rfl) (hline:(apos.endLine==cpos.line)=true:=by rfl)
  (hs3:starEach [.Call (.Attribute o "values" apos) [] [] cpos] X.env=[(false,eval (.Call (.Attribute o "values" apos) [] [] cpos) X.env)]:=by rfl):
  PE X (.Call (.Name "list" p) [.Call (.Attribute o "values" apos) [] [] cpos] [] pos) (tLV td):=by
 intro pins s σ H Q I h
 refine wpAny_Call_Name_kw (qde_ I hgl hml boot_list (PyProof.Rows.callWith_type1 ?_ hs3 rfl))
 rw [hs3]
 show wpAny _ _ (spliced ((false,eval (.Call (.Attribute o "values" apos) [] [] cpos) X.env)::[])) _ _ s
 refine Calls.spliced_cons (wpAny_Call_method0_late hbase hline (thn (ho pins s σ H _ I h) λv s1 ⟨x,H1,I1,r1,a,xs,vs,ex,ha,hz,rv,q⟩=>?_))
 subst ex
 cases r1
 have dt:=qqu_ I1 ha
 obtain ⟨h1,h2⟩:=quy_ (s:=s1) dt
 obtain ⟨hd,hz2,hn,o,es,ep,e1,e2,e3,e4⟩:=dt
 have rw1:RawD s1.heap a es ep:=⟨o,e1,e2,e3⟩
 refine ⟨"dict","dict.values",F.plainAttrs_dict,F.slot_dict_values,F.type_dict_values,h1,h2,Calls.callWith_builtin rfl (PySem.evalArgs_none ?_)⟩
 refine call_meetsIn F.slot_dict_values h1 F.entry_dict_values (F.args_dict_values_1 _) (qhn_ a hd) ⟨⟨es,ep,rw1⟩,Calls.spliced_nil ?_⟩
 have v0:(s1.heap.push {cls:= .type "dict_values",data:= .fields #[.ref a]}).IsValuesView s1.heap.objs.size a:=⟨_,Heap.get?_push_size _ rfl,rfl,rfl⟩
 have k1:∀b o,s1.heap.get? b=some o->(s1.heap.push {cls:= .type "dict_values",data:= .fields #[.ref a]}).get? b=some o:=λb o e=>Heap.get?_push_of_some _ e
 have sz:(s1.heap.push {cls:= .type "dict_values",data:= .fields #[.ref a]}).objs.size=s1.heap.objs.size+1:=Heap.size_push _ _
 generalize s1.heap.push {cls:= .type "dict_values",data:= .fields #[.ref a]}=g at v0 k1 sz
 refine callType_codes (Q₁:=λobj t=>obj= .ref g.objs.size/\t={s1 with heap:=g.push {cls:= .type "list",data:= .seq #[]}}) F.called_list (F.typeCall_list_1 _) F.entry_list_init (code_list_new _ ⟨rfl,rfl⟩) λobj t ht=>?_
 obtain ⟨rfl,rfl⟩:=ht
 have hSo:(g.push {cls:= .type "list",data:= .seq #[]}).get? g.objs.size=some {cls:= .type "list",data:= .seq #[]}:=Heap.get?_push_size _ rfl
 refine ⟨⟨_,hSo,rfl⟩,F.args_list_init_2 _ _,?_⟩
 have lz:es.size=xs.length:=by rw [<-Array.length_toList,e4,List.length_map]
 have lta:=Heap.lt_size e1
 refine qm3_ (s:={s1 with heap:=g.push {cls:= .type "list",data:= .seq #[]}}) (I1.ok.hd hc) (Nat.ne_of_gt (by rw [sz];exact Nat.lt_succ_self _)) (Nat.ne_of_gt (by rw [sz];exact Nat.lt_succ_of_lt lta)) (by omega) (let ⟨o,y1,y2⟩:=v0;⟨o,Heap.get?_push_of_some _ y1,y2⟩) ⟨o,Heap.get?_push_of_some _ (k1 _ _ e1),e2,e3⟩ hSo λh' c' kk u1=>⟨rfl,?_⟩
 have keep:∀b o,s1.heap.get? b=some o->h'.get? b=some o:=λb o e=>kk b o (Nat.ne_of_lt (by rw [sz];exact Nat.lt_succ_of_lt (Heap.lt_size e))) (Heap.get?_push_of_some _ (k1 b o e))
 have ve:qet_ es=xs.map λx=>x.2.2:=by
  unfold qet_
  rw [e4,List.map_map];rfl
 rw [ve] at u1
 refine ⟨.ref g.objs.size,_,I1.laid (a:=g.objs.size) (o:= .lst vs) (t':=s1.toks) keep (by rw [sz];omega) ⟨?_,_,c',rv,u1⟩,rfl,q _ (I1.hok.fresh (by rw [sz];omega))⟩
 have:=rv.length
 rw [List.length_map] at this
 rw [this,sizeLine_eq];omega
end
end L3
namespace L3
open PySem PySem.Spec PyProof.Rows L2
def Itd (lo:Int) (n:Nat):It:=⟨λi _=>i<n,λi H x H'=>H'=H/\x= .int (lo - i),λi _=>n<=i⟩
theorem qlt_ {P:Program} {w:World} {K:PySem.W.Frag} {tg:Expr} (it:Addr) (lo:Int) (n:Nat):Turn P w K tg (Itd lo n) [it] it (λi h=>IsRangeIter h it (lo+(i:Nat)*(-1)) ((n:Int) - (i:Nat)) (-1)) where
 mem:=by simp
 obj:=λi h st b hb=>by
  have e:b=it:=by simpa using hb
  subst e
  exact ⟨_,st,λv z=>by
   have z':Data.fields _=Data.cell v:=z
   cases z'⟩
 keep:=λi h h' st k=>k it (by simp) _ st
 item:=by
  intro X hP hw hK hc i pins s σ H E I hf st hg
  subst hP hw hK
  obtain ⟨f0,f1,f2,f3,f4,f5⟩:=hf it (by simp)
  have W:=Walks.range (prog:=X.prog) (w:=X.w) (I.ok.hd hc) it lo (-1) n
  refine W.item i s _ _ hg st λv h' tk hv st' kk=>?_
  obtain ⟨t,rfl⟩:=hv
  have I1:Inv X pins σ H {s with heap:=h',toks:=tk}:=I.turned (λb o hb e=>kk b o (by simpa using hb) e) f0 f1 f3 f4 f5
  refine ⟨_,rfl,qnq_ (s:={s with heap:=h',toks:=tk}) (n:="range_iterator") st' rfl rfl (by decide) ⟨.int (lo - i),H,I1,⟨t,?_⟩,⟨rfl,rfl⟩,st',λb hb=>(hf b hb).1⟩⟩
  have:lo+(i:Int)* -1=lo - i:=by omega
  rw [this]
 done:=by
  intro X hP hw hK hc i pins s σ H E I hf st hg
  subst hP hw hK
  obtain ⟨f0,f1,f2,f3,f4,f5⟩:=hf it (by simp)
  exact wpAny_pyNext_range_end (I.ok.hd hc) st (by have:n<=i:=hg;omega) λh' eb=>⟨rfl,I.turned (t':=s.toks) (λb o hb e=>eb b o hb e) f0 f1 f3 f4 f5⟩
 self:=λ_ _ _ _ _ st h=>wpAny_pyIter_rangeiter st h
section
variable {X:Cx} {tg:Expr}
end
theorem boot_reversed:bootBuiltins "reversed"=some (.type "reversed"):=by kernel_rfl
section
variable {prog:Program} {w:World} {A:Around} {E:Value->Shared->Prop} {s:Shared}
end
section
variable {X:Cx} {a:Expr} {ta:TA} {p p2 pos pos2:Pos}
end
end L3
namespace L3
open PySem PySem.Spec PySem.Calls PyProof.Rows L2
section
variable {P:Program} {w:World} {K:PySem.W.Frag} {mg:Str->Option Value} {base:Heap} {A:Around} {outer:List Env} {s:Shared} {H:Hp} {x y qual:Str} {scope:Scope} {f cy c':Addr} {params:Arguments} {body:Expr} {pm ct u ux:Value} {vx vy:V} {Q:VK}
end
section
variable {X:Cx} {pins:List (Addr×Obj)} {σ:L2.St} {H:Hp} {s:Shared} {l q It S:Addr} {vs:List V} {R:Result->Shared->Prop}
end
def qv0_ (c:Addr) (q:Str):Heap->Prop:=λh=>h.CodeRec (.ref c) q
def qwe_ (F:Hp) (pos:Pos) (q:Str) (ps:Array Value):Prop:=TriplesOk ps.toList/\(codeAmong pos ps.toList=none\/∃c,codeAmong pos ps.toList=some (.ref c)/\F c=some (.ext (qv0_ c q)))
section
variable {X:Cx} {pins:List (Addr×Obj)} {σ:L2.St} {H:Hp} {s:Shared} {c P cy:Addr} {params:Arguments} {body:Expr} {scope:Scope} {pos:Pos} {y:Str} {ps:Array Value} {Q:Value->Shared->Prop} {E:Value->Shared->Prop}
end
section
variable {X:Cx} {e:Expr} {te:TE} {i:Nat} {x y fld:Str} {c P cy C:Addr} {params:Arguments} {scope:Scope} {p pos lpos kp1 kp2 np p1 p2 p3 p4:Pos}
end
end L3
namespace L4
open PySem PySem.Spec PyProof.Rows L2 L3
theorem ex5 {α β γ δ ε:Type} {A B C:α->β->γ->δ->ε->Prop} {R:Prop} (h:∃z f r m p,A z f r m p/\B z f r m p/\C z f r m p) (k:∀z f r m p,A z f r m p->B z f r m p->C z f r m p->R):R:=
 h.elim λz h=>h.elim λf h=>h.elim λr h=>h.elim λm h=>h.elim λp h=>k z f r m p h.1 h.2.1 h.2.2
theorem ex6 {α β γ δ ε ζ:Type} {A B C G:α->β->γ->δ->ε->ζ->Prop} {R:Prop} (h:∃z f r m d p,A z f r m d p/\B z f r m d p/\C z f r m d p/\G z f r m d p) (k:∀z f r m d p,A z f r m d p->B z f r m d p->C z f r m d p->G z f r m d p->R):R:=
 h.elim λz h=>h.elim λf h=>h.elim λr h=>h.elim λm h=>h.elim λd h=>h.elim λp h=>k z f r m d p h.1 h.2.1 h.2.2.1 h.2.2.2
mutual
def Rp (K:PySem.W.Frag) (F:Hp):D->V->Prop
 | .non,v=>v= .non
 | .bl b,v=>v= .bl b
 | .int i,v=>v= .int i
 | .str x,v=>v= .str x
 | .tup ds,v=>∃a vs,v= .ref a/\SqT K F a vs/\Rps K F ds vs
 | .lst ds,v=>∃a vs,v= .ref a/\Rd F a (.lst vs)/\Rps K F ds vs
def Rps (K:PySem.W.Frag) (F:Hp):List D->List V->Prop
 |[],vs=>vs=[]
 |d::ds,vs=>∃v r,vs=v::r/\Rp K F d v/\Rps K F ds r
end
section
variable {K:PySem.W.Frag} {F F' H:Hp}
theorem ql_ {a:Addr} {u:HO} (e:Same F F') (h:Rd F a u):Rd F' a u:=by
 rcases h with h|⟨o,h⟩
 ·exact .inl (e _ _ h)
 ·exact .inr ⟨o,e _ _ h⟩
theorem qbb_ {a:Addr} {vs:List V} (e:Same F F') (h:SqT K F a vs):SqT K F' a vs:=h.imp (ql_ e) id
mutual
theorem Rp.same (e:Same F F'):∀{d:D} {v:V},Rp K F d v->Rp K F' d v
 | .non,_,h=>by rw [Rp] at*;exact h
 | .bl _,_,h=>by rw [Rp] at*;exact h
 | .int _,_,h=>by rw [Rp] at*;exact h
 | .str _,_,h=>by rw [Rp] at*;exact h
 | .tup ds,_,h=>by
  rw [Rp] at*
  obtain ⟨a,vs,h1,h2,h3⟩:=h
  exact ⟨a,vs,h1,qbb_ e h2,Rps.same e h3⟩
 | .lst ds,_,h=>by
  rw [Rp] at*
  obtain ⟨a,vs,h1,h2,h3⟩:=h
  exact ⟨a,vs,h1,ql_ e h2,Rps.same e h3⟩
theorem Rps.same (e:Same F F'):∀{d:List D} {v:List V},Rps K F d v->Rps K F' d v
 |[],_,h=>by rw [Rps] at*;exact h
 |d::ds,_,h=>by
  rw [Rps] at*
  obtain ⟨v,r,h1,h2,h3⟩:=h
  exact ⟨v,r,h1,Rp.same e h2,Rps.same e h3⟩
end
theorem Rps.nil:Rps K F [] []:=by rw [Rps]
theorem Rps.cons {d:D} {v:V} {ds:List D} {vs:List V} (h:Rp K F d v) (k:Rps K F ds vs):Rps K F (d::ds) (v::vs):=by
 rw [Rps];exact ⟨v,vs,rfl,h,k⟩
theorem Rps.length:∀{d:List D} {v:List V},Rps K F d v->d.length=v.length
 |[],v,h=>by rw [Rps] at h;subst h;rfl
 |d::ds,v,h=>by
  rw [Rps] at h
  obtain ⟨v,r,rfl,h2,h3⟩:=h
  rw [List.length_cons,List.length_cons,Rps.length h3]
theorem Rps.get:∀{d:List D} {v:List V} {i:Nat} {x:D},Rps K F d v->d[i]?=some x->∃y,v[i]?=some y/\Rp K F x y
 |[],v,i,x,h,e=>by simp at e
 |d::ds,v,0,x,h,e=>by
  rw [Rps] at h
  obtain ⟨v,r,rfl,h2,h3⟩:=h
  simp at e;subst e
  exact ⟨v,rfl,h2⟩
 |d::ds,v,i+1,x,h,e=>by
  rw [Rps] at h
  obtain ⟨v,r,rfl,h2,h3⟩:=h
  obtain ⟨y,h4,h5⟩:=Rps.get (i:=i) (x:=x) h3 (by simpa using e)
  exact ⟨y,by simpa using h4,h5⟩
theorem Rps.append:∀{d e:List D} {v w:List V},Rps K F d v->Rps K F e w->Rps K F (d++e) (v++w)
 |[],e,v,w,h,k=>by rw [Rps] at h;subst h;exact k
 |d::ds,e,v,w,h,k=>by
  rw [Rps] at h
  obtain ⟨v,r,rfl,h2,h3⟩:=h
  rw [List.cons_append,Rps]
  exact ⟨v,r++w,rfl,h2,Rps.append h3 k⟩
theorem Rps.take:∀(n:Nat) {d:List D} {v:List V},Rps K F d v->Rps K F (d.take n) (v.take n)
 |0,_,_,_=> .nil
 |n+1,[],v,h=>by rw [Rps] at h;subst h;exact .nil
 |n+1,d::ds,v,h=>by
  rw [Rps] at h
  obtain ⟨v,r,rfl,h2,h3⟩:=h
  exact .cons h2 (Rps.take n h3)
theorem Rps.drop:∀(n:Nat) {d:List D} {v:List V},Rps K F d v->Rps K F (d.drop n) (v.drop n)
 |0,_,_,h=>h
 |n+1,[],v,h=>by rw [Rps] at h;subst h;exact .nil
 |n+1,d::ds,v,h=>by
  rw [Rps] at h
  obtain ⟨v,r,rfl,h2,h3⟩:=h
  exact Rps.drop n h3
theorem Rps.set {x:D} {y:V} (hx:Rp K F x y):∀(n:Nat) {d:List D} {v:List V},Rps K F d v->Rps K F (d.set n x) (v.set n y)
 |_,[],v,h=>by rw [Rps] at h;subst h;exact .nil
 |0,d::ds,v,h=>by
  rw [Rps] at h
  obtain ⟨v,r,rfl,h2,h3⟩:=h
  exact .cons hx h3
 |n+1,d::ds,v,h=>by
  rw [Rps] at h
  obtain ⟨v,r,rfl,h2,h3⟩:=h
  exact .cons h2 (Rps.set hx n h3)
end
inductive U where
 |d (x:D)|adr (p:Addr)|tup (us:List U)|ins (C:Addr) (ns:List Str) (ds:List D)
mutual
def RU (K:PySem.W.Frag) (F:Hp):U->V->Prop
 | .d x,v=>Rp K F x v
 | .adr p,v=>v= .ref p
 | .ins C ns ds,v=>∃a dx vs,v= .ref a/\F a=some (.ins C dx (ns.zip vs))/\Rps K F ds vs
 | .tup us,v=>∃a vs,v= .ref a/\SqT K F a vs/\RUs K F us vs
def RUs (K:PySem.W.Frag) (F:Hp):List U->List V->Prop
 |[],vs=>vs=[]
 |u::us,vs=>∃v r,vs=v::r/\RU K F u v/\RUs K F us r
end
section
variable {K:PySem.W.Frag} {F F' H:Hp}
mutual
theorem RU.same (e:Same F F'):∀{u:U} {v:V},RU K F u v->RU K F' u v
 | .d _,_,h=>by rw [RU] at*;exact Rp.same e h
 | .adr _,_,h=>by rw [RU] at*;exact h
 | .ins _ _ _,_,h=>by
  rw [RU] at*
  obtain ⟨a,dx,vs,h1,h2,h3⟩:=h
  exact ⟨a,dx,vs,h1,e _ _ h2,Rps.same e h3⟩
 | .tup us,_,h=>by
  rw [RU] at*
  obtain ⟨a,vs,h1,h2,h3⟩:=h
  exact ⟨a,vs,h1,qbb_ e h2,RUs.same e h3⟩
theorem RUs.same (e:Same F F'):∀{u:List U} {v:List V},RUs K F u v->RUs K F' u v
 |[],_,h=>by rw [RUs] at*;exact h
 |u::us,_,h=>by
  rw [RUs] at*
  obtain ⟨v,r,h1,h2,h3⟩:=h
  exact ⟨v,r,h1,RU.same e h2,RUs.same e h3⟩
end
theorem RUs.nil:RUs K F [] []:=by rw [RUs]
theorem RUs.cons {u:U} {v:V} {us:List U} {vs:List V} (h:RU K F u v) (k:RUs K F us vs):RUs K F (u::us) (v::vs):=by
 rw [RUs];exact ⟨v,vs,rfl,h,k⟩
theorem RUs.length:∀{d:List U} {v:List V},RUs K F d v->d.length=v.length
 |[],v,h=>by rw [RUs] at h;subst h;rfl
 |d::ds,v,h=>by
  rw [RUs] at h
  obtain ⟨v,r,rfl,h2,h3⟩:=h
  rw [List.length_cons,List.length_cons,RUs.length h3]
theorem RUs.get:∀{d:List U} {v:List V} {i:Nat} {x:U},RUs K F d v->d[i]?=some x->∃y,v[i]?=some y/\RU K F x y
 |[],v,i,x,h,e=>by simp at e
 |d::ds,v,0,x,h,e=>by
  rw [RUs] at h
  obtain ⟨v,r,rfl,h2,h3⟩:=h
  simp at e;subst e
  exact ⟨v,rfl,h2⟩
 |d::ds,v,i+1,x,h,e=>by
  rw [RUs] at h
  obtain ⟨v,r,rfl,h2,h3⟩:=h
  obtain ⟨y,h4,h5⟩:=RUs.get (i:=i) (x:=x) h3 (by simpa using e)
  exact ⟨y,by simpa using h4,h5⟩
theorem RUs.append:∀{d e:List U} {v w:List V},RUs K F d v->RUs K F e w->RUs K F (d++e) (v++w)
 |[],e,v,w,h,k=>by rw [RUs] at h;subst h;exact k
 |d::ds,e,v,w,h,k=>by
  rw [RUs] at h
  obtain ⟨v,r,rfl,h2,h3⟩:=h
  rw [List.cons_append,RUs]
  exact ⟨v,r++w,rfl,h2,RUs.append h3 k⟩
theorem RUs.set {x:U} {y:V} (hx:RU K F x y):∀(n:Nat) {d:List U} {v:List V},RUs K F d v->RUs K F (d.set n x) (v.set n y)
 |_,[],v,h=>by rw [RUs] at h;subst h;exact .nil
 |0,d::ds,v,h=>by
  rw [RUs] at h
  obtain ⟨v,r,rfl,h2,h3⟩:=h
  exact .cons hx h3
 |n+1,d::ds,v,h=>by
  rw [RUs] at h
  obtain ⟨v,r,rfl,h2,h3⟩:=h
  exact .cons h2 (RUs.set hx n h3)
theorem RUs.ofD:∀{ds:List D} {vs:List V},Rps K F ds vs->RUs K F (ds.map U.d) vs
 |[],vs,h=>by rw [Rps] at h;subst h;exact .nil
 |d::ds,vs,h=>by
  rw [Rps] at h
  obtain ⟨v,r,rfl,h2,h3⟩:=h
  exact .cons (by rw [RU];exact h2) (RUs.ofD h3)
end
section
variable {X:Cx} {pins:List (Addr×Obj)} {σ:L2.St} {H:Hp} {s:Shared}
mutual
theorem Rp.inj (I:Inv X pins σ H s):∀{d e:D} {v:V},Rp X.K H d v->Rp X.K H e v->d=e
 | .non,e,v,h,k=>by
  rw [Rp] at h;subst h
  cases e<;>rw [Rp] at k<;>first|(obtain ⟨_,_,k,_⟩:=k;cases k;done)|rfl|(cases k;done)
 | .bl _,e,v,h,k=>by
  rw [Rp] at h;subst h
  cases e<;>rw [Rp] at k<;>first|(obtain ⟨_,_,k,_⟩:=k;cases k;done)|(cases k;rfl)|(cases k;done)
 | .int _,e,v,h,k=>by
  rw [Rp] at h;subst h
  cases e<;>rw [Rp] at k<;>first|(obtain ⟨_,_,k,_⟩:=k;cases k;done)|(cases k;rfl)|(cases k;done)
 | .str _,e,v,h,k=>by
  rw [Rp] at h;subst h
  cases e<;>rw [Rp] at k<;>first|(obtain ⟨_,_,k,_⟩:=k;cases k;done)|(cases k;rfl)|(cases k;done)
 | .tup ds,e,v,h,k=>by
  rw [Rp] at h
  obtain ⟨a,vs,rfl,h2,h3⟩:=h
  cases e<;>rw [Rp] at k
  case tup es=>
   obtain ⟨b,ws,e1,k2,k3⟩:=k
   cases e1
   have:=I.tuple_inj h2 k2
   subst this
   rw [Rps.inj I h3 k3]
  case lst es=>
   obtain ⟨b,ws,e1,k2,k3⟩:=k
   cases e1
   obtain ⟨_,_,⟨o,q1,q2,_⟩,_⟩:=I.tuple h2
   obtain ⟨_,_,⟨o',n',p1,p2,_⟩,_⟩:=I.list (.inl k2)
   rw [q1] at p1
   cases p1
   rw [q2] at p2
   simp at p2
  all_goals cases k
 | .lst ds,e,v,h,k=>by
  rw [Rp] at h
  obtain ⟨a,vs,rfl,h2,h3⟩:=h
  cases e<;>rw [Rp] at k
  case lst es=>
   obtain ⟨b,ws,e1,k2,k3⟩:=k
   cases e1
   have:=I.list_inj (.inl h2) (.inl k2)
   subst this
   rw [Rps.inj I h3 k3]
  case tup es=>
   obtain ⟨b,ws,e1,k2,k3⟩:=k
   cases e1
   obtain ⟨_,_,⟨o,q1,q2,_⟩,_⟩:=I.tuple k2
   obtain ⟨_,_,⟨o',n',p1,p2,_⟩,_⟩:=I.list (.inl h2)
   rw [q1] at p1
   cases p1
   rw [q2] at p2
   simp at p2
  all_goals cases k
theorem Rps.inj (I:Inv X pins σ H s):∀{d e:List D} {v:List V},Rps X.K H d v->Rps X.K H e v->d=e
 |[],e,v,h,k=>by
  rw [Rps] at h;subst h
  cases e with
  |nil=>rfl
  |cons=>rw [Rps] at k;obtain ⟨_,_,k,_⟩:=k;cases k
 |d::ds,e,v,h,k=>by
  rw [Rps] at h
  obtain ⟨v,r,rfl,h2,h3⟩:=h
  cases e with
  |nil=>rw [Rps] at k;cases k
  |cons e es=>
   rw [Rps] at k
   obtain ⟨v',r',k1,k2,k3⟩:=k
   cases k1
   rw [Rp.inj I h2 k2,Rps.inj I h3 k3]
end
theorem qd8_ {a:Addr} {vs:List V} (I:Inv X pins σ H s) (h:Rd H a (.lst vs)):∃its:List Value,Vals vs its/\s.heap.IsList a its.toArray:=by
 obtain ⟨its,r,p,_⟩:=I.list (.inl h)
 exact ⟨its,r,p.isList⟩
theorem qcz_ {a:Addr} {vs:List V} (I:Inv X pins σ H s) (h:SqT X.K H a vs):∃its:List Value,Vals vs its/\s.heap.IsTuple a its.toArray:=by
 obtain ⟨its,r,p,_⟩:=I.tuple h
 exact ⟨its,r,p⟩
open SeqAt
theorem qh2_ {A:Around} {ds es:List D} {vs ws:List V} {us ts:List Value} (hd:Rps X.K H ds vs) (he:Rps X.K H es ws) (r:Vals vs us) (q:Vals ws ts)
  (ih:∀(i:Nat) (d e:D),ds[i]?=some d->es[i]?=some e->∀x y u v,Rp X.K H d x->Rp X.K H e y->RelV x u->RelV y v->EqAt A s u v (peq d e)):
  ∀j (h1:j<us.toArray.size) (h2:j<ts.toArray.size),EqAt A s us.toArray[j] ts.toArray[j] (peq (ds.getD j .non) (es.getD j .non)):=by
 intro j h1 h2
 have l1:ds.length=us.length:=hd.length.trans r.length
 have l2:es.length=ts.length:=he.length.trans q.length
 have h1':j<ds.length:=by rw [l1];simpa using h1
 have h2':j<es.length:=by rw [l2];simpa using h2
 have e1:ds[j]?=some ds[j]:=List.getElem?_eq_getElem h1'
 have e2:es[j]?=some es[j]:=List.getElem?_eq_getElem h2'
 obtain ⟨x,hx,rx⟩:=hd.get e1
 obtain ⟨y,hy,ry⟩:=he.get e2
 obtain ⟨u,hu,ru⟩:=r.get hx
 obtain ⟨v,hv,rv⟩:=q.get hy
 have g1:us.toArray[j]=u:=by
  have:us[j]?=some us[j]:=List.getElem?_eq_getElem (by simpa using h1)
  rw [this] at hu
  simpa using hu
 have g2:ts.toArray[j]=v:=by
  have:ts[j]?=some ts[j]:=List.getElem?_eq_getElem (by simpa using h2)
  rw [this] at hv
  simpa using hv
 rw [g1,g2,List.getD_eq_getElem?_getD,List.getD_eq_getElem?_getD,e1,e2]
 exact ih j _ _ e1 e2 x y u v rx ry ru rv
theorem qqe_ {n:Nat} (I:Inv X pins σ H s):∀(A:Around) (d e:D) (x y:V) (u v:Value),dep d<=n->A.units+n<cLine->Rp X.K H d x->Rp X.K H e y->RelV x u->RelV y v->
  EqAt A s u v (peq d e)/\RcAt A s u v (peq d e)/\RcNeAt A s u v (!peq d e):=by
 induction n with
 |zero=>
  intro A d e x y u v hn hu hd he ru rv
  cases d with
  |tup ds=>rw [dep] at hn;omega
  |lst ds=>rw [dep] at hn;omega
  |non=>
   rw [Rp] at hd;subst hd;cases ru
   cases e with
   |non=>rw [Rp] at he;subst he;cases rv;simp only [peq];exact ⟨EqAt.same _,RcAt.none_none,RcNeAt.none_none⟩
   |bl b=>rw [Rp] at he;subst he;cases rv;simp only [peq];exact ⟨EqAt.none_bool _,RcAt.none_bool _,RcNeAt.none_bool _⟩
   |int b=>rw [Rp] at he;subst he;obtain ⟨t,rfl⟩:=rv;simp only [peq];exact ⟨EqAt.none_int _ _,RcAt.none_int _ _,RcNeAt.none_int _ _⟩
   |str b=>rw [Rp] at he;subst he;obtain ⟨t,rfl⟩:=rv;simp only [peq];exact ⟨EqAt.none_str _ _,RcAt.none_str _ _,RcNeAt.none_str _ _⟩
   |tup es=>
    rw [Rp] at he;obtain ⟨a,vs,rfl,h2,_⟩:=he;cases rv
    obtain ⟨its,_,ht⟩:=qcz_ I h2
    simp only [peq];exact ⟨EqAt.none_tuple ht (Nat.lt_of_le_of_lt (Nat.le_add_right _ _) hu),RcAt.none_tuple ht (Nat.lt_of_le_of_lt (Nat.le_add_right _ _) hu),RcNeAt.none_tuple ht (Nat.lt_of_le_of_lt (Nat.le_add_right _ _) hu)⟩
   |lst es=>
    rw [Rp] at he;obtain ⟨a,vs,rfl,h2,_⟩:=he;cases rv
    obtain ⟨its,_,ht⟩:=qd8_ I h2
    simp only [peq];exact ⟨EqAt.none_list ht (Nat.lt_of_le_of_lt (Nat.le_add_right _ _) hu),RcAt.none_list ht (Nat.lt_of_le_of_lt (Nat.le_add_right _ _) hu),RcNeAt.none_list ht (Nat.lt_of_le_of_lt (Nat.le_add_right _ _) hu)⟩
  |bl c=>
   rw [Rp] at hd;subst hd;cases ru
   cases e with
   |non=>rw [Rp] at he;subst he;cases rv;simp only [peq];exact ⟨EqAt.bool_none _,RcAt.bool_none _,RcNeAt.bool_none _⟩
   |bl b=>rw [Rp] at he;subst he;cases rv;simp only [peq];exact ⟨EqAt.bool_bool _ _,RcAt.bool_bool _ _,RcNeAt.bool_bool _ _⟩
   |int b=>rw [Rp] at he;subst he;obtain ⟨t,rfl⟩:=rv;simp only [peq];exact ⟨EqAt.bool_int _ _ _,RcAt.bool_int _ _ _,RcNeAt.bool_int _ _ _⟩
   |str b=>rw [Rp] at he;subst he;obtain ⟨t,rfl⟩:=rv;simp only [peq];exact ⟨EqAt.bool_str _ _ _,RcAt.bool_str _ _ _,RcNeAt.bool_str _ _ _⟩
   |tup es=>
    rw [Rp] at he;obtain ⟨a,vs,rfl,h2,_⟩:=he;cases rv
    obtain ⟨its,_,ht⟩:=qcz_ I h2
    simp only [peq];exact ⟨EqAt.bool_tuple _ ht (Nat.lt_of_le_of_lt (Nat.le_add_right _ _) hu),RcAt.bool_tuple _ ht (Nat.lt_of_le_of_lt (Nat.le_add_right _ _) hu),RcNeAt.bool_tuple _ ht (Nat.lt_of_le_of_lt (Nat.le_add_right _ _) hu)⟩
   |lst es=>
    rw [Rp] at he;obtain ⟨a,vs,rfl,h2,_⟩:=he;cases rv
    obtain ⟨its,_,ht⟩:=qd8_ I h2
    simp only [peq];exact ⟨EqAt.bool_list _ ht (Nat.lt_of_le_of_lt (Nat.le_add_right _ _) hu),RcAt.bool_list _ ht (Nat.lt_of_le_of_lt (Nat.le_add_right _ _) hu),RcNeAt.bool_list _ ht (Nat.lt_of_le_of_lt (Nat.le_add_right _ _) hu)⟩
  |int c=>
   rw [Rp] at hd;subst hd;obtain ⟨t',rfl⟩:=ru
   cases e with
   |non=>rw [Rp] at he;subst he;cases rv;simp only [peq];exact ⟨EqAt.int_none _ _,RcAt.int_none _ _,RcNeAt.int_none _ _⟩
   |bl b=>rw [Rp] at he;subst he;cases rv;simp only [peq];exact ⟨EqAt.int_bool _ _ _,RcAt.int_bool _ _ _,RcNeAt.int_bool _ _ _⟩
   |int b=>rw [Rp] at he;subst he;obtain ⟨t,rfl⟩:=rv;simp only [peq];exact ⟨EqAt.int_int _ _ _ _,RcAt.int_int _ _ _ _,RcNeAt.int_int _ _ _ _⟩
   |str b=>rw [Rp] at he;subst he;obtain ⟨t,rfl⟩:=rv;simp only [peq];exact ⟨EqAt.int_str _ _ _ _,RcAt.int_str _ _ _ _,RcNeAt.int_str _ _ _ _⟩
   |tup es=>
    rw [Rp] at he;obtain ⟨a,vs,rfl,h2,_⟩:=he;cases rv
    obtain ⟨its,_,ht⟩:=qcz_ I h2
    simp only [peq];exact ⟨EqAt.int_tuple _ _ ht (Nat.lt_of_le_of_lt (Nat.le_add_right _ _) hu),RcAt.int_tuple _ _ ht (Nat.lt_of_le_of_lt (Nat.le_add_right _ _) hu),RcNeAt.int_tuple _ _ ht (Nat.lt_of_le_of_lt (Nat.le_add_right _ _) hu)⟩
   |lst es=>
    rw [Rp] at he;obtain ⟨a,vs,rfl,h2,_⟩:=he;cases rv
    obtain ⟨its,_,ht⟩:=qd8_ I h2
    simp only [peq];exact ⟨EqAt.int_list _ _ ht (Nat.lt_of_le_of_lt (Nat.le_add_right _ _) hu),RcAt.int_list _ _ ht (Nat.lt_of_le_of_lt (Nat.le_add_right _ _) hu),RcNeAt.int_list _ _ ht (Nat.lt_of_le_of_lt (Nat.le_add_right _ _) hu)⟩
  |str c=>
   rw [Rp] at hd;subst hd;obtain ⟨t',rfl⟩:=ru
   cases e with
   |non=>rw [Rp] at he;subst he;cases rv;simp only [peq];exact ⟨EqAt.str_none _ _,RcAt.str_none _ _,RcNeAt.str_none _ _⟩
   |bl b=>rw [Rp] at he;subst he;cases rv;simp only [peq];exact ⟨EqAt.str_bool _ _ _,RcAt.str_bool _ _ _,RcNeAt.str_bool _ _ _⟩
   |int b=>rw [Rp] at he;subst he;obtain ⟨t,rfl⟩:=rv;simp only [peq];exact ⟨EqAt.str_int _ _ _ _,RcAt.str_int _ _ _ _,RcNeAt.str_int _ _ _ _⟩
   |str b=>rw [Rp] at he;subst he;obtain ⟨t,rfl⟩:=rv;simp only [peq];exact ⟨EqAt.str_str _ _ _ _,RcAt.str_str _ _ _ _,RcNeAt.str_str _ _ _ _⟩
   |tup es=>
    rw [Rp] at he;obtain ⟨a,vs,rfl,h2,_⟩:=he;cases rv
    obtain ⟨its,_,ht⟩:=qcz_ I h2
    simp only [peq];exact ⟨EqAt.str_tuple _ _ ht (Nat.lt_of_le_of_lt (Nat.le_add_right _ _) hu),RcAt.str_tuple _ _ ht (Nat.lt_of_le_of_lt (Nat.le_add_right _ _) hu),RcNeAt.str_tuple _ _ ht (Nat.lt_of_le_of_lt (Nat.le_add_right _ _) hu)⟩
   |lst es=>
    rw [Rp] at he;obtain ⟨a,vs,rfl,h2,_⟩:=he;cases rv
    obtain ⟨its,_,ht⟩:=qd8_ I h2
    simp only [peq];exact ⟨EqAt.str_list _ _ ht (Nat.lt_of_le_of_lt (Nat.le_add_right _ _) hu),RcAt.str_list _ _ ht (Nat.lt_of_le_of_lt (Nat.le_add_right _ _) hu),RcNeAt.str_list _ _ ht (Nat.lt_of_le_of_lt (Nat.le_add_right _ _) hu)⟩
 |succ n ih=>
  intro A d e x y u v hn hu hd he ru rv
  by_cases hz:dep d<=n
  ·exact ih A d e x y u v hz (by omega) hd he ru rv
  cases d with
  |non=>simp only [dep] at hz;omega
  |bl _=>simp only [dep] at hz;omega
  |int _=>simp only [dep] at hz;omega
  |str _=>simp only [dep] at hz;omega
  |tup ds=>
   rw [dep] at hn
   have hd0:=hd
   rw [Rp] at hd;obtain ⟨a,vs,rfl,h2,hs⟩:=hd;cases ru
   obtain ⟨its,rI,ht⟩:=qcz_ I h2
   cases e with
   |non=>rw [Rp] at he;subst he;cases rv;simp only [peq];exact ⟨EqAt.tuple_none ht (Nat.lt_of_le_of_lt (Nat.le_add_right _ _) hu),RcAt.tuple_none ht (Nat.lt_of_le_of_lt (Nat.le_add_right _ _) hu),RcNeAt.tuple_none ht (Nat.lt_of_le_of_lt (Nat.le_add_right _ _) hu)⟩
   |bl b=>rw [Rp] at he;subst he;cases rv;simp only [peq];exact ⟨EqAt.tuple_bool _ ht (Nat.lt_of_le_of_lt (Nat.le_add_right _ _) hu),RcAt.tuple_bool _ ht (Nat.lt_of_le_of_lt (Nat.le_add_right _ _) hu),RcNeAt.tuple_bool _ ht (Nat.lt_of_le_of_lt (Nat.le_add_right _ _) hu)⟩
   |int b=>rw [Rp] at he;subst he;obtain ⟨t,rfl⟩:=rv;simp only [peq];exact ⟨EqAt.tuple_int _ _ ht (Nat.lt_of_le_of_lt (Nat.le_add_right _ _) hu),RcAt.tuple_int _ _ ht (Nat.lt_of_le_of_lt (Nat.le_add_right _ _) hu),RcNeAt.tuple_int _ _ ht (Nat.lt_of_le_of_lt (Nat.le_add_right _ _) hu)⟩
   |str b=>rw [Rp] at he;subst he;obtain ⟨t,rfl⟩:=rv;simp only [peq];exact ⟨EqAt.tuple_str _ _ ht (Nat.lt_of_le_of_lt (Nat.le_add_right _ _) hu),RcAt.tuple_str _ _ ht (Nat.lt_of_le_of_lt (Nat.le_add_right _ _) hu),RcNeAt.tuple_str _ _ ht (Nat.lt_of_le_of_lt (Nat.le_add_right _ _) hu)⟩
   |lst es=>
    rw [Rp] at he;obtain ⟨b,ws,rfl,k2,_⟩:=he;cases rv
    obtain ⟨jts,_,hl⟩:=qd8_ I k2
    simp only [peq];exact ⟨EqAt.tuple_list ht hl (by omega),RcAt.tuple_list ht hl (by omega),RcNeAt.tuple_list ht hl (by omega)⟩
   |tup es=>
    have he0:=he
    rw [Rp] at he;obtain ⟨b,ws,rfl,k2,ks⟩:=he;cases rv
    obtain ⟨jts,rJ,hj⟩:=qcz_ I k2
    have items:=qh2_ (A:=A.in1) (s:=s) hs ks rI rJ λi d e e1 e2 x y u v h1 h2 h3 h4=>(ih A.in1 d e x y u v (by have:=qgk_ e1;omega) (by rw [qbz_];omega) h1 h2 h3 h4).1
    have rc:=RcAt.tuples ht hj (by omega) items
    rw [qj8_ (hs.length.trans rI.length) (ks.length.trans rJ.length)] at rc
    have rn:=RcNeAt.tuples ht hj (by omega) items
    rw [qj8_ (hs.length.trans rI.length) (ks.length.trans rJ.length)] at rn
    simp only [peq]
    refine ⟨?_,rc,rn⟩
    by_cases ab:a=b
    ·subst ab
     have:=Rp.inj I hd0 he0
     injection this with this
     subst this
     rw [qdl_]
     exact EqAt.same _
    ·exact EqAt.of_refs ab rc
  |lst ds=>
   rw [dep] at hn
   have hd0:=hd
   rw [Rp] at hd;obtain ⟨a,vs,rfl,h2,hs⟩:=hd;cases ru
   obtain ⟨its,rI,ht⟩:=qd8_ I h2
   cases e with
   |non=>rw [Rp] at he;subst he;cases rv;simp only [peq];exact ⟨EqAt.list_none ht (Nat.lt_of_le_of_lt (Nat.le_add_right _ _) hu),RcAt.list_none ht (Nat.lt_of_le_of_lt (Nat.le_add_right _ _) hu),RcNeAt.list_none ht (Nat.lt_of_le_of_lt (Nat.le_add_right _ _) hu)⟩
   |bl b=>rw [Rp] at he;subst he;cases rv;simp only [peq];exact ⟨EqAt.list_bool _ ht (Nat.lt_of_le_of_lt (Nat.le_add_right _ _) hu),RcAt.list_bool _ ht (Nat.lt_of_le_of_lt (Nat.le_add_right _ _) hu),RcNeAt.list_bool _ ht (Nat.lt_of_le_of_lt (Nat.le_add_right _ _) hu)⟩
   |int b=>rw [Rp] at he;subst he;obtain ⟨t,rfl⟩:=rv;simp only [peq];exact ⟨EqAt.list_int _ _ ht (Nat.lt_of_le_of_lt (Nat.le_add_right _ _) hu),RcAt.list_int _ _ ht (Nat.lt_of_le_of_lt (Nat.le_add_right _ _) hu),RcNeAt.list_int _ _ ht (Nat.lt_of_le_of_lt (Nat.le_add_right _ _) hu)⟩
   |str b=>rw [Rp] at he;subst he;obtain ⟨t,rfl⟩:=rv;simp only [peq];exact ⟨EqAt.list_str _ _ ht (Nat.lt_of_le_of_lt (Nat.le_add_right _ _) hu),RcAt.list_str _ _ ht (Nat.lt_of_le_of_lt (Nat.le_add_right _ _) hu),RcNeAt.list_str _ _ ht (Nat.lt_of_le_of_lt (Nat.le_add_right _ _) hu)⟩
   |tup es=>
    rw [Rp] at he;obtain ⟨b,ws,rfl,k2,_⟩:=he;cases rv
    obtain ⟨jts,_,hl⟩:=qcz_ I k2
    simp only [peq];exact ⟨EqAt.list_tuple ht hl (by omega),RcAt.list_tuple ht hl (by omega),RcNeAt.list_tuple ht hl (by omega)⟩
   |lst es=>
    have he0:=he
    rw [Rp] at he;obtain ⟨b,ws,rfl,k2,ks⟩:=he;cases rv
    obtain ⟨jts,rJ,hj⟩:=qd8_ I k2
    have l1:=hs.length.trans rI.length
    have l2:=ks.length.trans rJ.length
    have items:=qh2_ (A:=A.in1) (s:=s) hs ks rI rJ λi d e e1 e2 x y u v h1 h2 h3 h4=>(ih A.in1 d e x y u v (by have:=qgk_ e1;omega) (by rw [qbz_];omega) h1 h2 h3 h4).1
    have key:RcAt A s (.ref a) (.ref b) (peqs ds es)/\RcNeAt A s (.ref a) (.ref b) (!peqs ds es):=by
     by_cases hl:ds.length=es.length
     ·have hz:its.toArray.size=jts.toArray.size:=by simp only [List.size_toArray];omega
      have e1:its.toArray.size=ds.length:=by simp [l1]
      have q1:=RcAt.lists ht hj hz (by omega) items
      have q2:=RcNeAt.lists ht hj hz (by omega) items
      rw [e1] at q1 q2
      rw [qhb_ ds es hl]
      exact ⟨q1,q2⟩
     ·have hz:(its.toArray.size != jts.toArray.size)=true:=by
       rw [bne_iff_ne]
       simp only [List.size_toArray]
       omega
      rw [qg4_ ds es hl]
      exact ⟨RcAt.lists_lengths ht hj hz (by omega),RcNeAt.lists_lengths ht hj hz (by omega)⟩
    simp only [peq]
    refine ⟨?_,key.1,key.2⟩
    by_cases ab:a=b
    ·subst ab
     have:=Rp.inj I hd0 he0
     injection this with this
     subst this
     rw [qdl_]
     exact EqAt.same _
    ·exact EqAt.of_refs ab key.1
end
end L4
namespace L4
open PySem PySem.Spec PyProof.Rows L2 L3
inductive Ent where
 |un|sh (d:D)|ow (ds:List D)|rf (p:Addr)|ut (u:U)
inductive MO where
 |lst (ds:List D)|dct (kvs:List (Key×D))|xc (C:Addr)|op (φ:HO->Prop)|own (us:List U)|tk (kvs:List (D×D))|tab (pos:Pos) (q:Str)|fo (φ:Hp->HO->Prop) (m:∀F F' o,Same F F'->φ F o->φ F' o)
abbrev Rho:=List Ent
abbrev Mm:=Addr->Option MO
def mset (M:Mm) (p:Addr) (o:MO):Mm:=λq=>if q=p then some o else M q
theorem qm_ {M:Mm} {p:Addr} {o:MO}:mset M p o p=some o:=by unfold mset;rw [if_pos rfl]
theorem qu_ {M:Mm} {p q:Addr} {o:MO} (h:q≠p):mset M p o q=M q:=by unfold mset;rw [if_neg h]
def KVp (K:PySem.W.Frag) (F:Hp) (kvs:List (Key×D)) (ws:List (Key×V)):Prop:=Paired (λ(p:Key×D) (q:Key×V)=>p.1=q.1/\Rp K F p.2 q.2) kvs ws
mutual
def kOk:D->Bool
 | .int _=>true
 | .tup ds=>kOks ds
 | .non=>false
 | .bl _=>false
 | .str _=>false
 | .lst _=>false
def kOks:List D->Bool
 |[]=>true
 |d::ds=>kOk d&&kOks ds
end
def TKp (K:PySem.W.Frag) (F:Hp) (kvs:List (D×D)) (xs:List (D×Addr×Value)):Prop:=Paired (λ(q:D×D) (x:D×Addr×Value)=>q.1=x.1/\(kOk q.1=true/\dep q.1<=8)/\Rp K F q.1 (.ref x.2.1)/\∃v,RelV v x.2.2/\Rp K F q.2 v) kvs xs
theorem TKp.same {K:PySem.W.Frag} {F F':Hp} (e:Same F F') {kvs:List (D×D)} {xs:List (D×Addr×Value)} (h:TKp K F kvs xs):TKp K F' kvs xs:=
 Paired.mapP h λ_ _ z=>⟨z.1,z.2.1,Rp.same e z.2.2.1,z.2.2.2.elim λv q=>⟨v,q.1,Rp.same e q.2⟩⟩
def MOk (K:PySem.W.Frag) (F H:Hp) (p:Addr):MO->Prop
 | .lst ds=>∃vs,H p=some (.lst vs)/\Rps K F ds vs
 | .dct kvs=>∃ws,H p=some (.dK ws)/\KVp K F kvs ws
 | .xc C=>H p=some (.ext (IsX p C))
 | .op φ=>∃o,H p=some o/\φ o
 | .own us=>∃vs,H p=some (.lst vs)/\RUs K F us vs
 | .tk kvs=>∃xs,H p=some (.ext (IsDT p xs))/\TKp K F kvs xs
 | .tab pos q=>∃ps,H p=some (.tbl ps)/\qwe_ F pos q ps
 | .fo φ _=>∃o,H p=some o/\φ F o
structure AgM (K:PySem.W.Frag) (Z F:Hp) (M:Mm) (H:Hp):Prop where
 sm:Same F H
 zz:∀p o,Z p=some o->H p=some o/\F p=none/\M p=none
 mo:∀p o,M p=some o->F p=none/\MOk K F H p o
def EOk (K:PySem.W.Frag) (Z F:Hp) (M:Mm) (H:Hp):Ent->Option V->Prop
 | .un,_=>True
 | .sh d,o=>∃v,o=some v/\Rp K F d v
 | .rf p,o=>o=some (.ref p)
 | .ut u,o=>∃v,o=some v/\RU K F u v
 | .ow ds,o=>∃p vs,o=some (.ref p)/\H p=some (.lst vs)/\F p=none/\M p=none/\Z p=none/\Rps K F ds vs
structure Ag (K:PySem.W.Frag) (Z F:Hp) (M:Mm) (H:Hp) (ρ:Rho) (σ:L2.St):Prop where
 m:AgM K Z F M H
 len:ρ.length=σ.length
 en:∀(i:Nat) (e:Ent),ρ[i]?=some e->EOk K Z F M H e (σ[i]?).join
 di:∀(i j:Nat) (ds es:List D) (p:Addr),i≠j->ρ[i]?=some (.ow ds)->ρ[j]?=some (.ow es)->σ[i]?=some (some (.ref p))->σ[j]?≠some (some (.ref p))
theorem KVp.same {K:PySem.W.Frag} {F F':Hp} (e:Same F F') {kvs:List (Key×D)} {ws:List (Key×V)} (h:KVp K F kvs ws):KVp K F' kvs ws:=Paired.mapP h λ_ _ z=>⟨z.1,Rp.same e z.2⟩
theorem MOk.same {K:PySem.W.Frag} {F F' H H':Hp} {p:Addr} {o:MO} (e:Same F F') (h:H' p=H p) (k:MOk K F H p o):MOk K F' H' p o:=by
 cases o with
 |lst ds=>obtain ⟨vs,a,b⟩:=k;exact ⟨vs,h.trans a,Rps.same e b⟩
 |dct kvs=>obtain ⟨vs,a,b⟩:=k;exact ⟨vs,h.trans a,KVp.same e b⟩
 |xc C=>exact h.trans k
 |op φ=>obtain ⟨o,a,b⟩:=k;exact ⟨o,h.trans a,b⟩
 |own us=>obtain ⟨vs,a,b⟩:=k;exact ⟨vs,h.trans a,RUs.same e b⟩
 |tk kvs=>obtain ⟨vs,a,b⟩:=k;exact ⟨vs,h.trans a,TKp.same e b⟩
 |tab pos q=>
  obtain ⟨ps,a,b1,b2⟩:=k
  refine ⟨ps,h.trans a,b1,?_⟩
  rcases b2 with b2|⟨c,b3,b4⟩
  ·exact .inl b2
  ·exact .inr ⟨c,b3,e _ _ b4⟩
 |fo φ m=>obtain ⟨o,a,b⟩:=k;exact ⟨o,h.trans a,m _ _ _ e b⟩
theorem MOk.there {K:PySem.W.Frag} {F H:Hp} {p:Addr} {o:MO} (k:MOk K F H p o):∃u,H p=some u:=by
 cases o with
 |lst ds=>obtain ⟨vs,a,b⟩:=k;exact ⟨_,a⟩
 |dct kvs=>obtain ⟨vs,a,b⟩:=k;exact ⟨_,a⟩
 |xc C=>exact ⟨_,k⟩
 |op φ=>obtain ⟨o,a,b⟩:=k;exact ⟨o,a⟩
 |own us=>obtain ⟨vs,a,b⟩:=k;exact ⟨_,a⟩
 |tk kvs=>obtain ⟨vs,a,b⟩:=k;exact ⟨_,a⟩
 |tab pos q=>obtain ⟨ps,a,b⟩:=k;exact ⟨_,a⟩
 |fo φ m=>obtain ⟨o,a,b⟩:=k;exact ⟨_,a⟩
section
variable {K:PySem.W.Frag} {Z F F' H H':Hp} {M:Mm} {ρ:Rho} {σ:L2.St}
theorem AgM.grow (a:AgM K Z F M H) (hF:Same F F') (hH:Same H H') (sm:Same F' H') (new:∀p,F p=none->H p≠none->F' p=none):AgM K Z F' M H':=by
 refine ⟨sm,λp o h=>?_,λp o h=>?_⟩
 ·obtain ⟨z1,z2,z3⟩:=a.zz p o h
  exact ⟨hH _ _ z1,new p z2 (by rw [z1];simp),z3⟩
 obtain ⟨n,k⟩:=a.mo p o h
 obtain ⟨u,hu⟩:=k.there
 refine ⟨new p n (by rw [hu];simp),k.same hF ?_⟩
 rw [hu];exact hH _ _ hu
theorem Ag.grow (a:Ag K Z F M H ρ σ) (hF:Same F F') (hH:Same H H') (sm:Same F' H') (new:∀p,F p=none->H p≠none->F' p=none):Ag K Z F' M H' ρ σ:=by
 refine ⟨a.m.grow hF hH sm new,a.len,λi e h=>?_,a.di⟩
 have:=a.en i e h
 cases e with
 |un=>trivial
 |sh d=>obtain ⟨v,h1,h2⟩:=this;exact ⟨v,h1,Rp.same hF h2⟩
 |rf p=>exact this
 |ut u=>obtain ⟨v,h1,h2⟩:=this;exact ⟨v,h1,RU.same hF h2⟩
 |ow ds=>obtain ⟨p,vs,h1,h2,h3,h4,h6,h5⟩:=this;exact ⟨p,vs,h1,hH _ _ h2,new p h3 (by rw [h2];simp),h4,h6,Rps.same hF h5⟩
theorem qob_ {p:Addr} {o:HO} (sm:Same F H) (hp:H p=none):Same (upd F p o) (upd H p o):=λb u e=>by
 by_cases hb:b=p
 ·subst hb;rw [qt_] at*;exact e
 ·rw [qo_ hb] at*;exact sm b u e
theorem qb3_ {p:Addr} (sm:Same F H) (hp:H p=none):F p=none:=by
 cases e:F p with
 |none=>rfl
 |some u=>rw [sm _ _ e] at hp;cases hp
theorem Ag.new {p:Addr} {o:HO} (a:Ag K Z F M H ρ σ) (hp:H p=none):Ag K Z (upd F p o) M (upd H p o) ρ σ:=
 a.grow (Same.new (qb3_ a.m.sm hp)) (Same.new hp) (qob_ a.m.sm hp) λq h1 h2=>by
  have:q≠p:=λz=>h2 (z ▸ hp)
  rw [qo_ this];exact h1
theorem Ag.newO {p:Addr} {o:HO} (a:Ag K Z F M H ρ σ) (hp:H p=none):Ag K Z F M (upd H p o) ρ σ:=
 a.grow (Same.refl _) (Same.new hp) (a.m.sm.trans (Same.new hp)) λq h1 _=>h1
theorem Ag.put {i:Nat} {e:Ent} {o:Option V} (a:Ag K Z F M H ρ σ) (h:EOk K Z F M H e o) (hd:∀(ds:List D) (p:Addr),e= .ow ds->o=some (.ref p)->∀(j:Nat) (es:List D),j≠i->ρ[j]?=some (.ow es)->σ[j]?≠some (some (.ref p))):Ag K Z F M H (ρ.set i e) (σ.set i o):=by
 refine ⟨a.m,by rw [List.length_set,List.length_set,a.len],λj e' q=>?_,λj k ds es p ne q1 q2 q3=>?_⟩
 ·by_cases hj:j=i
  ·subst hj
   have hl:j<ρ.length:=by
    have:=(List.getElem?_eq_some_iff.mp q).1
    rwa [List.length_set] at this
   rw [List.getElem?_set_self hl] at q
   cases q
   rw [List.getElem?_set_self (by rw [<-a.len];exact hl)]
   exact h
  ·rw [List.getElem?_set_ne (Ne.symm hj)] at q ⊢
   exact a.en j e' q
 ·have hl:∀{j:Nat} {x:Ent},(ρ.set i e)[j]?=some x->j<ρ.length:=λq=>by
   have:=(List.getElem?_eq_some_iff.mp q).1
   rwa [List.length_set] at this
  by_cases hj:j=i
  ·subst hj
   have hk:k≠j:=Ne.symm ne
   rw [List.getElem?_set_self (hl q1)] at q1
   cases q1
   have hl3:j<σ.length:=by
    have:=(List.getElem?_eq_some_iff.mp q3).1
    rwa [List.length_set] at this
   rw [List.getElem?_set_self hl3] at q3
   rw [List.getElem?_set_ne (Ne.symm hk)] at q2 ⊢
   injection q3 with q3
   exact hd ds p rfl q3 k es hk q2
  ·by_cases hk:k=i
   ·subst hk
    rw [List.getElem?_set_self (hl q2)] at q2
    cases q2
    rw [List.getElem?_set_ne (Ne.symm hj)] at q1 q3
    intro q4
    rw [List.getElem?_set_self (by
     have:=(List.getElem?_eq_some_iff.mp q4).1
     rw [List.length_set] at this
     exact this)] at q4
    injection q4 with q4
    exact hd es p rfl q4 j ds hj q1 q3
   ·rw [List.getElem?_set_ne (Ne.symm hj)] at q1 q3
    rw [List.getElem?_set_ne (Ne.symm hk)] at q2 ⊢
    exact a.di j k ds es p ne q1 q2 q3
theorem Ag.set {i:Nat} {d:D} {v:V} (a:Ag K Z F M H ρ σ) (h:Rp K F d v):Ag K Z F M H (ρ.set i (.sh d)) (σ.set i (some v)):=a.put ⟨v,rfl,h⟩ λ_ _ z=>nomatch z
theorem Ag.setU {i:Nat} {u:U} {v:V} (a:Ag K Z F M H ρ σ) (h:RU K F u v):Ag K Z F M H (ρ.set i (.ut u)) (σ.set i (some v)):=a.put ⟨v,rfl,h⟩ λ_ _ z=>nomatch z
theorem Ag.setO {i:Nat} {ds:List D} {p:Addr} {vs:List V} (a:Ag K Z F M H ρ σ) (h1:H p=some (.lst vs)) (h2:F p=none) (h3:M p=none) (hz:Z p=none) (h4:Rps K F ds vs) (h5:∀(j:Nat) (es:List D),ρ[j]?=some (.ow es)->σ[j]?≠some (some (.ref p))):Ag K Z F M H (ρ.set i (.ow ds)) (σ.set i (some (.ref p))):=
 a.put ⟨p,vs,rfl,h1,h2,h3,hz,h4⟩ λ_ q _ z j es _ hj=>by cases z;exact h5 j es hj
theorem qfw_ {α:Type}:∀{l:List α} {i:Nat} {x:α},l[i]?=some x->l.set i x=l
 |[],_,_,h=>by simp at h
 |_::_,0,_,h=>by simp at h;subst h;rfl
 |_::l,i+1,_,h=>by rw [List.set_cons_succ,qfw_ (by simpa using h)]
theorem Ag.fz {i:Nat} {ds:List D} (a:Ag K Z F M H ρ σ) (h:ρ[i]?=some (.ow ds)):∃F' v,σ[i]?=some (some v)/\Same F F'/\Rp K F' (.lst ds) v/\Ag K Z F' M H (ρ.set i (.sh (.lst ds))) σ:=by
 have hi:=a.en i _ h
 obtain ⟨p,vs,h1,h2,h3,h4,h6,h5⟩:=hi
 have hs:σ[i]?=some (some (.ref p)):=by
  cases q:σ[i]? with
  |none=>rw [q] at h1;cases h1
  |some o=>rw [q] at h1;simp at h1;rw [h1]
 have s1:Same F (upd F p (.lst vs)):=Same.new h3
 have r:Rp K (upd F p (.lst vs)) (.lst ds) (.ref p):=by rw [Rp];exact ⟨p,vs,rfl,.inl qt_,Rps.same s1 h5⟩
 refine ⟨upd F p (.lst vs),.ref p,hs,s1,r,?_⟩
 have s2:Same (upd F p (.lst vs)) H:=λb u e=>by
  by_cases hb:b=p
  ·subst hb;rw [qt_] at e;cases e;exact h2
  ·rw [qo_ hb] at e;exact a.m.sm b u e
 have nm:∀q o,M q=some o->q≠p:=λq o e z=>by rw [z,h4] at e;cases e
 have e2:σ=σ.set i (some (.ref p)):=(qfw_ hs).symm
 have hi':i<ρ.length:=(List.getElem?_eq_some_iff.mp h).1
 refine ⟨⟨s2,λq o e=>?_,λq o e=>?_⟩,by rw [List.length_set];exact a.len,λj e q=>?_,λj k es fs q ne q1 q2 q3=>?_⟩
 ·obtain ⟨z1,z2,z3⟩:=a.m.zz q o e
  have:q≠p:=λz=>by rw [z,h6] at e;cases e
  exact ⟨z1,by rw [qo_ this];exact z2,z3⟩
 ·obtain ⟨z1,z2⟩:=a.m.mo q o e
  exact ⟨by rw [qo_ (nm q o e)];exact z1,z2.same s1 rfl⟩
 ·by_cases hj:j=i
  ·subst hj
   rw [List.getElem?_set_self hi'] at q
   cases q
   exact ⟨.ref p,by rw [hs];rfl,r⟩
  ·rw [List.getElem?_set_ne (Ne.symm hj)] at q
   have:=a.en j e q
   cases e with
   |un=>trivial
   |sh d=>obtain ⟨v,g1,g2⟩:=this;exact ⟨v,g1,Rp.same s1 g2⟩
   |rf p=>exact this
   |ut u=>obtain ⟨v,g1,g2⟩:=this;exact ⟨v,g1,RU.same s1 g2⟩
   |ow es=>
    obtain ⟨q',ws,g1,g2,g3,g4,g6,g5⟩:=this
    have hne:q'≠p:=λz=>by
     subst z
     have hj':σ[j]?=some (some (.ref q')):=by
      cases y:σ[j]? with
      |none=>rw [y] at g1;cases g1
      |some o=>rw [y] at g1;simp at g1;rw [g1]
     exact a.di i j ds es q' (Ne.symm hj) h q hs hj'
    exact ⟨q',ws,g1,g2,by rw [qo_ hne];exact g3,g4,g6,Rps.same s1 g5⟩
 ·have n1:j≠i:=λz=>by subst z;rw [List.getElem?_set_self hi'] at q1;cases q1
  have n2:k≠i:=λz=>by subst z;rw [List.getElem?_set_self hi'] at q2;cases q2
  rw [List.getElem?_set_ne (Ne.symm n1)] at q1
  rw [List.getElem?_set_ne (Ne.symm n2)] at q2
  exact a.di j k es fs q ne q1 q2 q3
end
end L4
namespace L4
open PySem PySem.Spec PyProof.Rows L2 L3
abbrev WE:=Rho->Mm->(D->Rho->Mm->Prop)->Prop
abbrev WT:=Rho->Mm->(Bool->Rho->Mm->Prop)->Prop
abbrev WA:=Rho->Mm->(List D->Rho->Mm->Prop)->Prop
abbrev WN:=Rho->Mm->(List D->Rho->Mm->Prop)->Prop
abbrev WG:=D->Rho->Mm->(Rho->Mm->Prop)->Prop
abbrev WGs:=List D->Rho->Mm->(Rho->Mm->Prop)->Prop
structure WEnds where
 nx:Rho->Mm->Prop
 rt:U->Mm->Prop
 bk:Rho->Mm->Prop:=λ_ _=>False
 ct:Rho->Mm->Prop:=λ_ _=>False
abbrev WS:=WEnds->Rho->Mm->Prop
def lf (K:PySem.W.Frag) (f:WE):TE:=λσ H Q=>∃Z F ρ M P,Ag K Z F M H ρ σ/\f ρ M P/\∀v H' F' d ρ' M',Same F F'->Ag K Z F' M' H' ρ' σ->Rp K F' d v->P d ρ' M'->Q v H'
def lfT (K:PySem.W.Frag) (f:WT):TT:=λσ H Q=>∃Z F ρ M P,Ag K Z F M H ρ σ/\f ρ M P/\∀b H' F' ρ' M',Same F F'->Ag K Z F' M' H' ρ' σ->P b ρ' M'->Q b H'
def lfA (K:PySem.W.Frag) (f:WA):TA:=λσ H Q=>∃Z F ρ M P,Ag K Z F M H ρ σ/\f ρ M P/\∀vs H' F' ds ρ' M',Same F F'->Ag K Z F' M' H' ρ' σ->Rps K F' ds vs->P ds ρ' M'->Q vs H'
def lfN (K:PySem.W.Frag) (f:WN):TE:=λσ H Q=>∃Z F ρ M P,Ag K Z F M H ρ σ/\f ρ M P/\∀p vs H' F' ds ρ' M',Same F F'->Ag K Z F' M' H' ρ' σ->H' p=some (.lst vs)->F' p=none->M' p=none->Z p=none->(∀(j:Nat) (es:List D),ρ'[j]?=some (.ow es)->σ[j]?≠some (some (.ref p)))->Rps K F' ds vs->P ds ρ' M'->Q (.ref p) H'
def lfG (K:PySem.W.Frag) (f:WG):TG:=λv σ H Q=>∃Z F ρ M d P,Ag K Z F M H ρ σ/\Rp K F d v/\f d ρ M P/\∀σ' H' F' ρ' M',Same F F'->Ag K Z F' M' H' ρ' σ'->P ρ' M'->Q σ' H'
def lfGs (K:PySem.W.Frag) (f:WGs):TGs:=λvs σ H Q=>∃Z F ρ M ds P,Ag K Z F M H ρ σ/\Rps K F ds vs/\f ds ρ M P/\∀σ' H' F' ρ' M',Same F F'->Ag K Z F' M' H' ρ' σ'->P ρ' M'->Q σ' H'
structure EndsOk (K:PySem.W.Frag) (Z F:Hp) (E:WEnds) (D':Ends):Prop where
 nx:∀σ' H' F' ρ' M',Same F F'->Ag K Z F' M' H' ρ' σ'->E.nx ρ' M'->D'.nx σ' H'
 bk:∀σ' H' F' ρ' M',Same F F'->Ag K Z F' M' H' ρ' σ'->E.bk ρ' M'->D'.bk σ' H'
 ct:∀σ' H' F' ρ' M',Same F F'->Ag K Z F' M' H' ρ' σ'->E.ct ρ' M'->D'.ct σ' H'
 rt:∀v H' F' u M',Same F F'->AgM K Z F' M' H'->RU K F' u v->E.rt u M'->D'.rt v H'
def lfS (K:PySem.W.Frag) (f:WS):TS:=λD' σ H=>∃Z F ρ M E,Ag K Z F M H ρ σ/\f E ρ M/\EndsOk K Z F E D'
structure JE (X:Cx) (e:Expr) (f:WE):Prop where
 h:PE X e (lf X.K f)
structure JT (X:Cx) (e:Expr) (f:WT):Prop where
 h:PT X e (lfT X.K f)
structure JW (X:Cx) (e:Expr) (f:WT):Prop where
 h:PW X e (lfT X.K f)
structure JA (X:Cx) (es:List Expr) (f:WA):Prop where
 h:PA X es (lfA X.K f)
structure JN (X:Cx) (e:Expr) (f:WN):Prop where
 h:PE X e (lfN X.K f)
structure JG (X:Cx) (e:Expr) (f:WG):Prop where
 h:PG X e (lfG X.K f)
structure JGs (X:Cx) (es:List Expr) (f:WGs):Prop where
 h:PGs X es (lfGs X.K f)
structure JS (X:Cx) (st:Stmt) (f:WS):Prop where
 h:PS X st (lfS X.K f)
structure JSs (X:Cx) (st:List Stmt) (f:WS):Prop where
 h:PSs X st (lfS X.K f)
theorem imE {X:Cx} {e:Expr} {t t':TE} (h:PE X e t) (k:∀σ H Q,t' σ H Q->t σ H Q):PE X e t':=λpins s σ H Q I q=>h pins s σ H Q I (k σ H Q q)
theorem imT {X:Cx} {e:Expr} {t t':TT} (h:PT X e t) (k:∀σ H Q,t' σ H Q->t σ H Q):PT X e t':=λpins s σ H Q I q=>h pins s σ H Q I (k σ H Q q)
theorem imW {X:Cx} {e:Expr} {t t':TT} (h:PW X e t) (k:∀σ H Q,t' σ H Q->t σ H Q):PW X e t':=λw pins s σ H Q I q=>h w pins s σ H Q I (k σ H Q q)
theorem imA {X:Cx} {e:List Expr} {t t':TA} (h:PA X e t) (k:∀σ H Q,t' σ H Q->t σ H Q):PA X e t':=λpos pins s σ H Q I q=>h pos pins s σ H Q I (k σ H Q q)
theorem imS {X:Cx} {st:Stmt} {t t':TS} (h:PS X st t) (k:∀D' σ H,t' D' σ H->t D' σ H):PS X st t':=λpins s σ H D' I q=>h pins s σ H D' I (k D' σ H q)
theorem imSs {X:Cx} {st:List Stmt} {t t':TS} (h:PSs X st t) (k:∀D' σ H,t' D' σ H->t D' σ H):PSs X st t':=λpins s σ H D' I q=>h pins s σ H D' I (k D' σ H q)
theorem imG {X:Cx} {e:Expr} {t t':TG} (h:PG X e t) (k:∀v σ H Q,t' v σ H Q->t v σ H Q):PG X e t':=λpins s σ H v u Q I r q=>h pins s σ H v u Q I r (k v σ H Q q)
theorem imGs {X:Cx} {e:List Expr} {t t':TGs} (h:PGs X e t) (k:∀v σ H Q,t' v σ H Q->t v σ H Q):PGs X e t':=λpins s σ H v u Q I r q=>h pins s σ H v u Q I r (k v σ H Q q)
inductive Gw (F H:Hp):Hp->Hp->Prop where
 |rf:Gw F H F H
 |nw {p:Addr} {o:HO} (hp:H p=none):Gw F H (upd F p o) (upd H p o)
theorem Gw.same {F H F' H':Hp} (sm:Same F H) (g:Gw F H F' H'):Same F F':=by
 cases g with
 |rf=>exact Same.refl _
 |nw hp=>exact Same.new (qb3_ sm hp)
theorem Gw.ag {K:PySem.W.Frag} {Z F H F' H':Hp} {M:Mm} {ρ:Rho} {σ:L2.St} (a:Ag K Z F M H ρ σ) (g:Gw F H F' H'):Ag K Z F' M H' ρ σ:=by
 cases g with
 |rf=>exact a
 |nw hp=>exact a.new hp
section
variable {X:Cx} {a b c e:Expr} {es rest:List Expr} {pos:Pos} {fa fb fe:WE} {ft fu:WT} {fl:WA} {fn:WN}
def wV (i:Nat):WE:=λρ M P=>match ρ[i]? with
 |some (.sh d)=>P d ρ M
 |some (.ow ds)=>P (.lst ds) (ρ.set i (.sh (.lst ds))) M
 |_=>False
theorem qlc_ {i:Nat} (h:PE X e (tVar i)):JE X e (wV i):=⟨imE h λσ H Q hh=>ex5 hh λZ F ρ M P ag hf k=>by
 unfold wV at hf
 split at hf
 ·rename_i d hd
  obtain ⟨v,h1,h2⟩:=ag.en i _ hd
  refine ⟨v,?_,k v H F d ρ M (Same.refl _) ag h2 hf⟩
  cases q:σ[i]? with
  |none=>rw [q] at h1;cases h1
  |some o=>rw [q] at h1;simp at h1;rw [h1]
 ·rename_i ds hd
  obtain ⟨F',v,h1,h2,h3,h4⟩:=ag.fz hd
  exact ⟨v,h1,k v H F' _ _ M h2 h4 h3 hf⟩
 ·exact hf.elim⟩
theorem jv (i:Nat) {x:Str} (hN:X.N[i]?=some x:=by rfl) (hv:Vis X.env.scope x:=by first|exact Or.inl rfl|exact Or.inr (Or.inl rfl)|exact Or.inr (Or.inr rfl)) (hd:(x==("__debug__":Str))=false:=by decide) (hcd:(x==("__classdict__":Str))=false:=by decide):JE X (.Name x pos) (wV i):=qlc_ (L2.pv i hN hv hd hcd)
def wC (d:D):WE:=λρ M P=>P d ρ M
theorem qf9_ {d:D} {v:V} (h:PE X e (tC v)) (r:∀F,Rp X.K F d v):JE X e (wC d):=⟨imE h λσ H Q hh=>ex5 hh λZ F ρ M P ag hf k=>k v H F d ρ M (Same.refl _) ag (r F) hf⟩
theorem qd_ {i:Int} {j:Nat}:JE X (.Constant (.int i) j pos) (wC (.int i)):=qf9_ qsv_ λF=>by rw [Rp]
theorem j_bl {i:Bool} {j:Nat}:JE X (.Constant (.bool i) j pos) (wC (.bl i)):=qf9_ qv8_ λF=>by rw [Rp]
theorem qdf_ {i:Str} {j:Nat}:JE X (.Constant (.str i) j pos) (wC (.str i)):=qf9_ qpi_ λF=>by rw [Rp]
theorem qvf_ {j:Nat}:JE X (.Constant .none j pos) (wC .non):=qf9_ qsk_ λF=>by rw [Rp]
def OpW (X:Cx) (r:R2) (R:D->D->(D->Prop)->Prop):Prop:=∀(x y:D) (v u:V) (F H:Hp) (Q:VK) (P:D->Prop),Same F H->Rp X.K F x v->Rp X.K F y u->R x y P->(∀d w F' H',Gw F H F' H'->Rp X.K F' d w->P d->Q w H')->r v u H Q
def UnW (X:Cx) (r:V->Hp->VK->Prop) (R:D->(D->Prop)->Prop):Prop:=∀(x:D) (v:V) (F H:Hp) (Q:VK) (P:D->Prop),Same F H->Rp X.K F x v->R x P->(∀d w F' H',Gw F H F' H'->Rp X.K F' d w->P d->Q w H')->r v H Q
def CaW (X:Cx) (r:List V->Hp->VK->Prop) (R:List D->(D->Prop)->Prop):Prop:=∀(xs:List D) (vs:List V) (F H:Hp) (Q:VK) (P:D->Prop),Same F H->Rps X.K F xs vs->R xs P->(∀d w F' H',Gw F H F' H'->Rp X.K F' d w->P d->Q w H')->r vs H Q
def wOp (R:D->D->(D->Prop)->Prop) (fa fb:WE):WE:=λρ M P=>fa ρ M λx ρ1 M1=>fb ρ1 M1 λy ρ2 M2=>R x y λd=>P d ρ2 M2
def wUn (R:D->(D->Prop)->Prop) (fa:WE):WE:=λρ M P=>fa ρ M λx ρ1 M1=>R x λd=>P d ρ1 M1
def qgi_ (R:List D->(D->Prop)->Prop) (fl:WA):WE:=λρ M P=>fl ρ M λxs ρ1 M1=>R xs λd=>P d ρ1 M1
theorem qn5_ {r:R2} {R:D->D->(D->Prop)->Prop} (w:OpW X r R) {fa fb:WE}:∀σ H Q,lf X.K (wOp R fa fb) σ H Q->tOp r (lf X.K fa) (lf X.K fb) σ H Q:=λσ H Q hh=>ex5 hh λZ F ρ M P ag hf k=>
 ⟨Z,F,ρ,M,_,ag,hf,λv H1 F1 d1 ρ1 M1 s1 ag1 r1 h1=>⟨Z,F1,ρ1,M1,_,ag1,h1,λu H2 F2 d2 ρ2 M2 s2 ag2 r2 h2=>
  w d1 d2 v u F2 H2 Q _ ag2.m.sm (r1.same s2) r2 h2 λd w F' H' g rp hp=>k w H' F' d ρ2 M2 (s1.trans (s2.trans (g.same ag2.m.sm))) (g.ag ag2) rp hp⟩⟩
theorem qvv_ {r:V->Hp->VK->Prop} {R:D->(D->Prop)->Prop} (w:UnW X r R) {fa:WE}:∀σ H Q,lf X.K (wUn R fa) σ H Q->tUn r (lf X.K fa) σ H Q:=λσ H Q hh=>ex5 hh λZ F ρ M P ag hf k=>
 ⟨Z,F,ρ,M,_,ag,hf,λv H1 F1 d1 ρ1 M1 s1 ag1 r1 h1=>w d1 v F1 H1 Q _ ag1.m.sm r1 h1 λd w F' H' g rp hp=>k w H' F' d ρ1 M1 (s1.trans (g.same ag1.m.sm)) (g.ag ag1) rp hp⟩
theorem qku_ {r:List V->Hp->VK->Prop} {R:List D->(D->Prop)->Prop} (w:CaW X r R) {fl:WA}:∀σ H Q,lf X.K (qgi_ R fl) σ H Q->tCB r (lfA X.K fl) σ H Q:=λσ H Q hh=>ex5 hh λZ F ρ M P ag hf k=>
 ⟨Z,F,ρ,M,_,ag,hf,λv H1 F1 d1 ρ1 M1 s1 ag1 r1 h1=>w d1 v F1 H1 Q _ ag1.m.sm r1 h1 λd w F' H' g rp hp=>k w H' F' d ρ1 M1 (s1.trans (g.same ag1.m.sm)) (g.ag ag1) rp hp⟩
theorem j_op {op:Operator} {r:R2} {R:D->D->(D->Prop)->Prop} (o:OpR X (binaryOp op) r) (w:OpW X r R) (ha:JE X a fa) (hb:JE X b fb):JE X (.BinOp a op b pos) (wOp R fa fb):=⟨imE (qse_ o ha.h hb.h) (qn5_ w)⟩
theorem j_un {op:UnaryOp} {r:V->Hp->VK->Prop} {R:D->(D->Prop)->Prop} (o:UnR X (unaryOp op) r) (w:UnW X r R) (ha:JE X a fa):JE X (.UnaryOp op a pos) (wUn R fa):=⟨imE (qwj_ o ha.h) (qvv_ w)⟩
theorem qqm_ {op:CmpOp} {r:R2} {R:D->D->(D->Prop)->Prop} (o:OpR X (compareOp op) r) (w:OpW X r R) (ha:JE X a fa) (hb:JE X b fb) (hm:behindInMarks op b=false):JE X (.Compare a [op] [b] pos) (wOp R fa fb):=⟨imE (qrn_ o ha.h hb.h hm) (qn5_ w)⟩
theorem j_ix {r:R2} {R:D->D->(D->Prop)->Prop} (o:IxR X r) (w:OpW X r R) (ha:JE X a fa) (hb:JE X b fb) (hs:qfu_ b):JE X (.Subscript a b pos) (wOp R fa fb):=⟨imE (qoc_ o ha.h hb.h hs) (qn5_ w)⟩
def RI (C:Int->Int->Prop) (g:Int->Int->D):D->D->(D->Prop)->Prop:=λx y P=>match x,y with
 | .int i,.int j=>C i j/\P (g i j)
 |_,_=>False
def RI0 (g:Int->Int->D):D->D->(D->Prop)->Prop:=λx y P=>match x,y with
 | .int i,.int j=>P (g i j)
 |_,_=>False
def dI:V->D->Prop:=λv d=>match v,d with
 | .int i,.int j=>i=j
 | .bl i,.bl j=>i=j
 |_,_=>False
theorem dI.rp {K:PySem.W.Frag} {F:Hp} {v:V} {d:D} (h:dI v d):Rp K F d v:=by
 unfold dI at h
 split at h
 ·subst h;rw [Rp]
 ·subst h;rw [Rp]
 ·exact h.elim
theorem w_I {C:Int->Int->Prop} {g:Int->Int->V} {g':Int->Int->D} (e:∀i j,dI (g i j) (g' i j)):OpW X (rI C g) (RI C g'):=by
 intro x y v u F H Q P sm rx ry h k
 unfold RI at h
 split at h
 ·rename_i i j
  rw [Rp] at rx ry
  exact ⟨i,j,rx,ry,h.1,k _ _ F H .rf (e i j).rp h.2⟩
 ·exact h.elim
theorem w_I0 {g:Int->Int->V} {g':Int->Int->D} (e:∀i j,dI (g i j) (g' i j)):OpW X (rI0 g) (RI0 g'):=by
 intro x y v u F H Q P sm rx ry h k
 unfold RI0 at h
 split at h
 ·rename_i i j
  rw [Rp] at rx ry
  exact ⟨i,j,rx,ry,k _ _ F H .rf (e i j).rp h⟩
 ·exact h.elim
def CM (i j:Int):Prop:=CMul i j\/CMulS i j
theorem qqo_:OpR X (binaryOp .Mult) (rI CM λi j=> .int (i*j)):=by
 intro pins s σ H x y u v Q I rx ry h
 obtain ⟨i,j,h1,h2,h3,h4⟩:=h
 rcases h3 with h3|h3
 ·exact quq_ pins s σ H x y u v Q I rx ry ⟨i,j,h1,h2,h3,h4⟩
 ·exact qq5_ pins s σ H x y u v Q I rx ry ⟨i,j,h1,h2,h3,h4⟩
theorem qcp_ (ha:JE X a fa) (hb:JE X b fb):JE X (.BinOp a .Add b pos) (wOp (RI0 λi j=> .int (i+j)) fa fb):=j_op qum_ (w_I0 λ_ _=>rfl) ha hb
theorem qks_ (ha:JE X a fa) (hb:JE X b fb):JE X (.BinOp a .Sub b pos) (wOp (RI0 λi j=> .int (i - j)) fa fb):=j_op qtz_ (w_I0 λ_ _=>rfl) ha hb
theorem qbq_ (ha:JE X a fa) (hb:JE X b fb):JE X (.BinOp a .Mult b pos) (wOp (RI CM λi j=> .int (i*j)) fa fb):=j_op qqo_ (w_I λ_ _=>rfl) ha hb
theorem qcs_ (ha:JE X a fa) (hb:JE X b fb):JE X (.BinOp a .FloorDiv b pos) (wOp (RI qi5_ λi j=> .int (i.fdiv j)) fa fb):=j_op qn1_ (w_I λ_ _=>rfl) ha hb
theorem qdj_ (ha:JE X a fa) (hb:JE X b fb):JE X (.BinOp a .Mod b pos) (wOp (RI (λ_ j=>j≠0) λi j=> .int (i.fmod j)) fa fb):=j_op qp2_ (w_I λ_ _=>rfl) ha hb
theorem qwc_ (ha:JE X a fa) (hb:JE X b fb):JE X (.BinOp a .Pow b pos) (wOp (RI CPow λi j=> .int (i ^ j.toNat)) fa fb):=j_op qun_ (w_I λ_ _=>rfl) ha hb
theorem j_lt (ha:JE X a fa) (hb:JE X b fb):JE X (.Compare a [.Lt] [b] pos) (wOp (RI0 λi j=> .bl (decide (i<j))) fa fb):=qqm_ qtc_ (w_I0 λ_ _=>rfl) ha hb (qe0_ _)
theorem j_le (ha:JE X a fa) (hb:JE X b fb):JE X (.Compare a [.LtE] [b] pos) (wOp (RI0 λi j=> .bl (decide (i<=j))) fa fb):=qqm_ qv5_ (w_I0 λ_ _=>rfl) ha hb (qe0_ _)
end
end L4
namespace L4
open PySem PySem.Spec PyProof.Rows L2 L3
section
variable {X:Cx} {a b c e:Expr} {es rest:List Expr} {pos:Pos} {fa fb fe:WE} {ft fu:WT} {fl:WA} {fn:WN}
def RE:D->D->(D->Prop)->Prop:=λx y P=>dep x<=60/\P (.bl (peq x y))
def RNe:D->D->(D->Prop)->Prop:=λx y P=>dep x<=60/\P (.bl (!peq x y))
def rEq4 (K:PySem.W.Frag):R2:=λx y H Q=>∃d e,Rp K H d x/\Rp K H e y/\dep d<=60/\Q (.bl (peq d e)) H
def rNe4 (K:PySem.W.Frag):R2:=λx y H Q=>∃d e,Rp K H d x/\Rp K H e y/\dep d<=60/\Q (.bl (!peq d e)) H
theorem qpn_ (hu:X.A.units+60<cLine):OpR X (compareOp .Eq) (rEq4 X.K):=by
 intro pins s σ H x y u v Q I rx ry h
 obtain ⟨d,e,hd,he,hn,q⟩:=h
 exact (qqe_ I X.A d e x y u v hn hu hd he rx ry).2.1 _ _ _ _ ⟨.bl (peq d e),H,I,rfl,q⟩
theorem qt8_ (hu:X.A.units+60<cLine):OpR X (compareOp .NotEq) (rNe4 X.K):=by
 intro pins s σ H x y u v Q I rx ry h
 obtain ⟨d,e,hd,he,hn,q⟩:=h
 exact (qqe_ I X.A d e x y u v hn hu hd he rx ry).2.2 _ _ _ _ ⟨.bl (!peq d e),H,I,rfl,q⟩
theorem w_eq:OpW X (rEq4 X.K) RE:=λx y v u F H Q P sm rx ry h k=>⟨x,y,rx.same sm,ry.same sm,h.1,k _ _ F H .rf (by rw [Rp]) h.2⟩
theorem w_ne:OpW X (rNe4 X.K) RNe:=λx y v u F H Q P sm rx ry h k=>⟨x,y,rx.same sm,ry.same sm,h.1,k _ _ F H .rf (by rw [Rp]) h.2⟩
theorem j_eq {k:Nat} (hr:Room k X.A) (ha:JE X a fa) (hb:JE X b fb):JE X (.Compare a [.Eq] [b] pos) (wOp RE fa fb):=qqm_ (qpn_ (Room.u60 hr)) w_eq ha hb (qe0_ _)
def RNeg:D->(D->Prop)->Prop:=λx P=>match x with
 | .int i=>P (.int (-i))
 |_=>False
theorem qlg_ (ha:JE X a fa):JE X (.UnaryOp .USub a pos) (wUn RNeg fa):=j_un quu_ (λx v F H Q P sm rx h k=>by
 unfold RNeg at h
 split at h
 ·rw [Rp] at rx
  exact ⟨_,rx,k _ _ F H .rf (by rw [Rp]) h⟩
 ·exact h.elim) ha
def wB (f:WE):WT:=λρ M P=>f ρ M λd ρ1 M1=>match d with
 | .bl k=>P k ρ1 M1
 |_=>False
theorem of_B {fa:WE}:∀σ H Q,lfT X.K (wB fa) σ H Q->tB (lf X.K fa) σ H Q:=λσ H Q hh=>ex5 hh λZ F ρ M P ag hf k=>⟨Z,F,ρ,M,_,ag,hf,λv H' F' d ρ' M' s' ag' r h=>by
 split at h
 ·rw [Rp] at r
  exact ⟨_,r,k _ H' F' ρ' M' s' ag' h⟩
 ·exact h.elim⟩
theorem jt (ha:JE X a fa) (he:∀whole,isTrue a X.env whole=(do let v <-whole;standAt a.pos;holding [v] (truthy v)):=by intro _;rfl):JT X a (wB fa):=⟨imT (qr2_ ha.h he) of_B⟩
theorem qgl_ {op:CmpOp} {r:R2} {R:D->D->(D->Prop)->Prop} (o:OpR X (compareOp op) r) (w:OpW X r R) (ha:JE X a fa) (hb:JE X b fb) (hm:behindInMarks op b=false):JT X (.Compare a [op] [b] pos) (wB (wOp R fa fb)):=
 ⟨imT (qp4_ o ha.h hb.h hm) λσ H Q h=>qn5_ w σ H _ (by
  obtain ⟨Z,F,ρ,M,P,ag,hf,k⟩:=h
  refine ⟨Z,F,ρ,M,_,ag,hf,λv H' F' d ρ' M' s' ag' r h=>?_⟩
  split at h
  ·rw [Rp] at r
   exact ⟨_,r,k _ H' F' ρ' M' s' ag' h⟩
  ·exact h.elim)⟩
theorem qlp_ (ha:JE X a fa) (hb:JE X b fb):JT X (.Compare a [.Lt] [b] pos) (wB (wOp (RI0 λi j=> .bl (decide (i<j))) fa fb)):=qgl_ qtc_ (w_I0 λ_ _=>rfl) ha hb (qe0_ _)
theorem qrs_ (ha:JE X a fa) (hb:JE X b fb):JT X (.Compare a [.Gt] [b] pos) (wB (wOp (RI0 λi j=> .bl (decide (j<i))) fa fb)):=qgl_ qvz_ (w_I0 λ_ _=>rfl) ha hb (qe0_ _)
theorem qu5_ (ha:JE X a fa) (hb:JE X b fb):JT X (.Compare a [.GtE] [b] pos) (wB (wOp (RI0 λi j=> .bl (decide (j<=i))) fa fb)):=qgl_ qwq_ (w_I0 λ_ _=>rfl) ha hb (qe0_ _)
theorem qgc_ {k:Nat} (hr:Room k X.A) (ha:JE X a fa) (hb:JE X b fb):JT X (.Compare a [.Eq] [b] pos) (wB (wOp RE fa fb)):=qgl_ (qpn_ (Room.u60 hr)) w_eq ha hb (qe0_ _)
theorem ql5_ {k:Nat} (hr:Room k X.A) (ha:JE X a fa) (hb:JE X b fb):JT X (.Compare a [.NotEq] [b] pos) (wB (wOp RNe fa fb)):=qgl_ (qt8_ (Room.u60 hr)) w_ne ha hb (qe0_ _)
def wNot (f:WT):WT:=λρ M P=>f ρ M λb ρ1 M1=>P (!b) ρ1 M1
def wAnd (f g:WT):WT:=λρ M P=>f ρ M λb ρ1 M1=>if b=true then g ρ1 M1 P else P false ρ1 M1
def wOr (f g:WT):WT:=λρ M P=>f ρ M λb ρ1 M1=>if b=true then P true ρ1 M1 else g ρ1 M1 P
theorem qfs_ (ha:JT X a ft):JT X (.UnaryOp .Not a pos) (wNot ft):=⟨imT (qu0_ ha.h) λσ H Q hh=>ex5 hh λZ F ρ M P ag hf k=>⟨Z,F,ρ,M,_,ag,hf,λb H' F' ρ' M' s' ag' h=>k _ H' F' ρ' M' s' ag' h⟩⟩
theorem qqt_ (ha:JT X a ft):JW X (.BoolOp .And [a] pos) ft:=⟨qqb_ ha.h⟩
theorem qmx_ (ha:JT X a ft):JW X (.BoolOp .Or [a] pos) ft:=⟨qs4_ ha.h⟩
theorem qt5_ (ha:JT X a ft) (hb:JW X (.BoolOp .And (b::rest) pos) fu):JW X (.BoolOp .And (a::b::rest) pos) (wAnd ft fu):=⟨imW (qsc_ ha.h hb.h) λσ H Q hh=>ex5 hh λZ F ρ M P ag hf k=>⟨Z,F,ρ,M,_,ag,hf,λb H' F' ρ' M' s' ag' h=>by
 cases b with
 |true=>rw [if_pos rfl] at h ⊢;exact ⟨Z,F',ρ',M',P,ag',h,λb H2 F2 ρ2 M2 s2=>k b H2 F2 ρ2 M2 (s'.trans s2)⟩
 |false=>rw [if_neg Bool.false_ne_true] at h ⊢;exact k _ H' F' ρ' M' s' ag' h⟩⟩
theorem qqr_ (ha:JT X a ft) (hb:JW X (.BoolOp .Or (b::rest) pos) fu):JW X (.BoolOp .Or (a::b::rest) pos) (wOr ft fu):=⟨imW (qve_ ha.h hb.h) λσ H Q hh=>ex5 hh λZ F ρ M P ag hf k=>⟨Z,F,ρ,M,_,ag,hf,λb H' F' ρ' M' s' ag' h=>by
 cases b with
 |true=>rw [if_pos rfl] at h ⊢;exact k _ H' F' ρ' M' s' ag' h
 |false=>rw [if_neg Bool.false_ne_true] at h ⊢;exact ⟨Z,F',ρ',M',P,ag',h,λb H2 F2 ρ2 M2 s2=>k b H2 F2 ρ2 M2 (s'.trans s2)⟩⟩⟩
theorem JW.jt (h:JW X e ft):JT X e ft:=⟨h.h.pt⟩
def qvl_ (f:WE):WE:=λρ M P=>f ρ M λd ρ1 M1=>match d with
 | .bl k=>P (.bl (!k)) ρ1 M1
 |_=>False
def qwo_ (f g:WE):WE:=λρ M P=>f ρ M λd ρ1 M1=>match d with
 | .bl k=>if k=true then g ρ1 M1 P else P (.bl false) ρ1 M1
 |_=>False
theorem qoe_ (ha:JE X a fa):JE X (.UnaryOp .Not a pos) (qvl_ fa):=⟨imE (qss_ ha.h) λσ H Q hh=>ex5 hh λZ F ρ M P ag hf k=>⟨Z,F,ρ,M,_,ag,hf,λv H' F' d ρ' M' s' ag' r h=>by
 split at h
 ·rw [Rp] at r
  exact ⟨_,r,k _ H' F' _ ρ' M' s' ag' (by rw [Rp]) h⟩
 ·exact h.elim⟩⟩
theorem qsm_ {op:BoolOp} (ha:JE X a fa):JE X (.BoolOp op [a] pos) fa:=⟨qsa_ ha.h⟩
theorem qtp_ (ha:JE X a fa) (hb:JE X (.BoolOp .And (b::rest) pos) fb):JE X (.BoolOp .And (a::b::rest) pos) (qwo_ fa fb):=⟨imE (qsb_ ha.h hb.h) λσ H Q hh=>ex5 hh λZ F ρ M P ag hf k=>⟨Z,F,ρ,M,_,ag,hf,λv H' F' d ρ' M' s' ag' r h=>by
 split at h
 ·rename_i kk
  rw [Rp] at r
  refine ⟨_,r,?_⟩
  cases kk with
  |true=>rw [if_pos rfl] at h ⊢;exact ⟨Z,F',ρ',M',P,ag',h,λv H2 F2 d ρ2 M2 s2=>k v H2 F2 d ρ2 M2 (s'.trans s2)⟩
  |false=>rw [if_neg Bool.false_ne_true] at h ⊢;exact k _ H' F' _ ρ' M' s' ag' (by rw [Rp]) h
 ·exact h.elim⟩⟩
def wIfE (c:WT) (f g:WE):WE:=λρ M P=>c ρ M λb ρ1 M1=>if b=true then f ρ1 M1 P else g ρ1 M1 P
theorem qvb_ (hc:JT X c ft) (ha:JE X a fa) (hb:JE X b fb):JE X (.IfExp c a b pos) (wIfE ft fa fb):=⟨imE (qn8_ hc.h ha.h hb.h) λσ H Q hh=>ex5 hh λZ F ρ M P ag hf k=>⟨Z,F,ρ,M,_,ag,hf,λb H' F' ρ' M' s' ag' h=>by
 cases b with
 |true=>rw [if_pos rfl] at h ⊢;exact ⟨Z,F',ρ',M',P,ag',h,λv H2 F2 d ρ2 M2 s2=>k v H2 F2 d ρ2 M2 (s'.trans s2)⟩
 |false=>rw [if_neg Bool.false_ne_true] at h ⊢;exact ⟨Z,F',ρ',M',P,ag',h,λv H2 F2 d ρ2 M2 s2=>k v H2 F2 d ρ2 M2 (s'.trans s2)⟩⟩⟩
end
end L4
namespace L4
open PySem PySem.Spec PyProof.Rows L2 L3
section
variable {X:Cx} {a b c e:Expr} {es rest:List Expr} {pos:Pos} {fa fb fe:WE} {ft fu:WT} {fl:WA} {fn:WN}
def wNil:WA:=λρ M P=>P [] ρ M
def qhc_ (f:WE) (g:WA):WA:=λρ M P=>f ρ M λd ρ1 M1=>g ρ1 M1 λds ρ2 M2=>P (d::ds) ρ2 M2
theorem qb_:JA X [] wNil:=⟨imA qfp_ λσ H Q hh=>ex5 hh λZ F ρ M P ag hf k=>k [] H F [] ρ M (Same.refl _) ag .nil hf⟩
theorem qa_ (ha:JE X e fe) (hr:JA X es fl) (hs:starEach (e::es) X.env=(false,eval e X.env)::starEach es X.env:=by rfl):JA X (e::es) (qhc_ fe fl):=⟨imA (qc5_ ha.h hr.h hs) λσ H Q hh=>ex5 hh λZ F ρ M P ag hf k=>
 ⟨Z,F,ρ,M,_,ag,hf,λv H1 F1 d1 ρ1 M1 s1 ag1 r1 h1=>⟨Z,F1,ρ1,M1,_,ag1,h1,λvs H2 F2 ds ρ2 M2 s2 ag2 r2 h2=>k _ H2 F2 _ ρ2 M2 (s1.trans s2) ag2 (.cons (r1.same s2) r2) h2⟩⟩⟩
def wTup (f:WA):WE:=λρ M P=>f ρ M λds ρ1 M1=>ds.length<=sizeLine/\P (.tup ds) ρ1 M1
theorem q7_ {x1} (h:JA X es fl):JE X (.Tuple es x1 pos) (wTup fl):=⟨imE (qo0_ h.h) λσ H Q hh=>ex5 hh λZ F ρ M P ag hf k=>⟨Z,F,ρ,M,_,ag,hf,λvs H1 F1 ds ρ1 M1 s1 ag1 r1 h1=>by
 refine ⟨by rw [<-r1.length];exact h1.1,λp hp=>?_⟩
 have s2:Same F1 (upd F1 p (.tup vs)):=Same.new (qb3_ ag1.m.sm hp)
 exact k _ _ (upd F1 p (.tup vs)) _ ρ1 M1 (s1.trans s2) (ag1.new hp) (by rw [Rp];exact ⟨p,vs,rfl,SqT.of qt_,r1.same s2⟩) h1.2⟩⟩
theorem newN {Z F H:Hp} {M:Mm} {ρ:Rho} {σ:L2.St} {p:Addr} {vs:List V} {ds:List D} {K:PySem.W.Frag} (ag:Ag K Z F M H ρ σ) (hp:H p=none) (r:Rps K F ds vs):
  Ag K Z F M (upd H p (.lst vs)) ρ σ/\upd H p (.lst vs) p=some (.lst vs)/\F p=none/\M p=none/\Z p=none/\(∀(j:Nat) (es:List D),ρ[j]?=some (.ow es)->σ[j]?≠some (some (.ref p)))/\Rps K F ds vs:=by
 refine ⟨ag.newO hp,qt_,qb3_ ag.m.sm hp,?_,?_,λj es h z=>?_,r⟩
 ·cases q:M p with
  |none=>rfl
  |some o=>
   obtain ⟨_,k⟩:=ag.m.mo p o q
   obtain ⟨u,hu⟩:=k.there
   rw [hp] at hu;cases hu
 ·cases q:Z p with
  |none=>rfl
  |some o=>have:=(ag.m.zz p o q).1;rw [hp] at this;cases this
 ·obtain ⟨q,ws,h1,h2,_⟩:=ag.en j _ h
  rw [z] at h1
  cases h1
  rw [hp] at h2;cases h2
def wLst (f:WA):WN:=λρ M P=>f ρ M λds ρ1 M1=>ds.length<=sizeLine/\P ds ρ1 M1
theorem qbf_ (h:JA X es fl):JN X (.List es pos) (wLst fl):=⟨imE (que_ h.h) λσ H Q hh=>ex5 hh λZ F ρ M P ag hf k=>⟨Z,F,ρ,M,_,ag,hf,λvs H1 F1 ds ρ1 M1 s1 ag1 r1 h1=>by
 refine ⟨by rw [<-r1.length];exact h1.1,λp hp=>?_⟩
 obtain ⟨n1,n2,n3,n4,nz,n5,n6⟩:=newN ag1 hp r1
 exact k p vs _ F1 ds ρ1 M1 s1 n1 n2 n3 n4 nz n5 n6 h1.2⟩⟩
def wFz (f:WN):WE:=λρ M P=>f ρ M λds ρ1 M1=>P (.lst ds) ρ1 M1
theorem qtl_ {Z F H:Hp} {M:Mm} {ρ:Rho} {σ:L2.St} {p:Addr} {vs:List V} {K:PySem.W.Frag} (ag:Ag K Z F M H ρ σ) (n2:H p=some (.lst vs)) (n3:F p=none) (n4:M p=none) (nz:Z p=none) (n5:∀(j:Nat) (es:List D),ρ[j]?=some (.ow es)->σ[j]?≠some (some (.ref p))):
  Ag K Z (upd F p (.lst vs)) M H ρ σ:=by
 have s1:Same F (upd F p (.lst vs)):=Same.new n3
 refine ⟨⟨λb u e=>?_,λq o e=>?_,λq o e=>?_⟩,ag.len,λi e h=>?_,ag.di⟩
 ·by_cases hb:b=p
  ·subst hb;rw [qt_] at e;cases e;exact n2
  ·rw [qo_ hb] at e;exact ag.m.sm b u e
 ·obtain ⟨z1,z2,z3⟩:=ag.m.zz q o e
  have:q≠p:=λz=>by rw [z,nz] at e;cases e
  exact ⟨z1,by rw [qo_ this];exact z2,z3⟩
 ·obtain ⟨z1,z2⟩:=ag.m.mo q o e
  have:q≠p:=λz=>by rw [z,n4] at e;cases e
  exact ⟨by rw [qo_ this];exact z1,z2.same s1 rfl⟩
 ·have:=ag.en i e h
  cases e with
  |un=>trivial
  |sh d=>obtain ⟨v,h1,h2⟩:=this;exact ⟨v,h1,Rp.same s1 h2⟩
  |rf p=>exact this
  |ut u=>obtain ⟨v,h1,h2⟩:=this;exact ⟨v,h1,RU.same s1 h2⟩
  |ow es=>
   obtain ⟨q,ws,h1,h2,h3,h4,h6,h5⟩:=this
   have hne:q≠p:=λz=>by
    subst z
    have hj':σ[i]?=some (some (.ref q)):=by
     cases y:σ[i]? with
     |none=>rw [y] at h1;cases h1
     |some o=>rw [y] at h1;simp at h1;rw [h1]
    exact n5 i es h hj'
   exact ⟨q,ws,h1,h2,by rw [qo_ hne];exact h3,h4,h6,Rps.same s1 h5⟩
theorem j_fz (h:JN X e fn):JE X e (wFz fn):=⟨imE h.h λσ H Q hh=>ex5 hh λZ F ρ M P ag hf k=>⟨Z,F,ρ,M,_,ag,hf,λp vs H1 F1 ds ρ1 M1 s1 ag1 n2 n3 n4 nz n5 r1 h1=>by
 have s2:Same F1 (upd F1 p (.lst vs)):=Same.new n3
 exact k _ H1 (upd F1 p (.lst vs)) _ ρ1 M1 (s1.trans s2) (qtl_ ag1 n2 n3 n4 nz n5) (by rw [Rp];exact ⟨p,vs,rfl,.inl qt_,r1.same s2⟩) h1⟩⟩
theorem qjw_ {K:PySem.W.Frag} {F:Hp} {ds:List D} {vs:List V} {i:Int} {d:D} (r:Rps K F ds vs) (h:atI ds i=some d):∃v,atI vs i=some v/\Rp K F d v:=by
 unfold atI at h ⊢
 rw [r.length] at h
 cases e:ixN vs.length i with
 |none=>rw [e] at h;cases h
 |some j=>
  rw [e] at h
  exact r.get h
def RIx:D->D->(D->Prop)->Prop:=λx y P=>match x,y with
 | .tup ds,.int i=>(match atI ds i with
  |some d=>P d
  |none=>False)
 | .lst ds,.int i=>(match atI ds i with
  |some d=>P d
  |none=>False)
 |_,_=>False
theorem w_ix:OpW X (rIx X.K) RIx:=by
 intro x y v u F H Q P sm rx ry h k
 unfold RIx at h
 split at h
 ·rename_i ds i
  rw [Rp] at rx
  rw [Rp] at ry
  obtain ⟨p,vs,rfl,h1,h2⟩:=rx
  split at h
  ·rename_i d hd
   obtain ⟨w,h3,h4⟩:=qjw_ h2 hd
   exact .inr (.inl ⟨p,vs,i,w,rfl,ry,qbb_ sm h1,h3,k d w F H .rf h4 h⟩)
  ·exact h.elim
 ·rename_i ds i
  rw [Rp] at rx
  rw [Rp] at ry
  obtain ⟨p,vs,rfl,h1,h2⟩:=rx
  split at h
  ·rename_i d hd
   obtain ⟨w,h3,h4⟩:=qjw_ h2 hd
   exact .inl ⟨p,vs,i,w,rfl,ry,.inl (ql_ sm h1),h3,k d w F H .rf h4 h⟩
  ·exact h.elim
 ·exact h.elim
theorem j_at (ha:JE X a fa) (hb:JE X b fb) (hs:qfu_ b:=by intro _ _;rfl):JE X (.Subscript a b pos) (wOp RIx fa fb):=j_ix qjq_ w_ix ha hb hs
section
variable {x:Str} {p:Pos} {id T:String} {r:List V->Hp->VK->Prop} {R:List D->(D->Prop)->Prop}
theorem qf3_ (hc:qev_ X (.builtin id) r) (w:CaW X r R) (hg:Gl X x) (hm:X.mg x=none) (hv:bootBuiltins x=some (.builtin id)) (ha:JA X (e::es) fl) (hn:x≠"__name__":=by decide) (hdb:(x==("__debug__":Str))=false:=by decide)
  (he:starEach (e::es) X.env=(false,eval e X.env)::starEach es X.env:=by rfl) (hpl:(backTo pos (starEach es X.env)).any (·.1)=false:=by rfl):JE X (.Call (.Name x p) (e::es) [] pos) (qgi_ R fl):=⟨imE (qfb_ hc hg hm hv ha.h hn hdb he hpl) (qku_ w)⟩
theorem qj4_ (hc:qev_ X (.type T) r) (w:CaW X r R) (hg:Gl X x) (hm:X.mg x=none) (hv:bootBuiltins x=some (.type T)) (ha:JA X (e::es) fl) (hn:x≠"__name__":=by decide) (hdb:(x==("__debug__":Str))=false:=by decide)
  (he:starEach (e::es) X.env=(false,eval e X.env)::starEach es X.env:=by rfl) (hpl:(backTo pos (starEach es X.env)).any (·.1)=false:=by rfl):JE X (.Call (.Name x p) (e::es) [] pos) (qgi_ R fl):=⟨imE (qhm_ hc hg hm hv ha.h hn hdb he hpl) (qku_ w)⟩
end
def RLen:List D->(D->Prop)->Prop:=λxs P=>match xs with
 |[.lst ds]=>P (.int ds.length)
 |[.tup ds]=>P (.int ds.length)
 |_=>False
theorem rps1 {K:PySem.W.Frag} {F:Hp} {d:D} {vs:List V} (h:Rps K F [d] vs):∃v,vs=[v]/\Rp K F d v:=by
 rw [Rps] at h
 obtain ⟨v,r,rfl,h1,h2⟩:=h
 rw [Rps] at h2
 subst h2
 exact ⟨v,rfl,h1⟩
theorem rps2 {K:PySem.W.Frag} {F:Hp} {d e:D} {vs:List V} (h:Rps K F [d,e] vs):∃v u,vs=[v,u]/\Rp K F d v/\Rp K F e u:=by
 rw [Rps] at h
 obtain ⟨v,r,rfl,h1,h2⟩:=h
 obtain ⟨u,rfl,h3⟩:=rps1 h2
 exact ⟨v,u,rfl,h1,h3⟩
theorem qv7_:CaW X (λxs H Q=>∃p ys,xs=[.ref p]/\(SqL X.K H p ys\/SqT X.K H p ys)/\Q (.int ys.length) H) RLen:=by
 intro xs vs F H Q P sm rs h k
 unfold RLen at h
 split at h
 ·rename_i ds
  obtain ⟨v,rfl,r⟩:=rps1 rs
  rw [Rp] at r
  obtain ⟨p,ws,rfl,h1,h2⟩:=r
  refine ⟨p,ws,rfl,.inl (.inl (ql_ sm h1)),k _ _ F H .rf ?_ h⟩
  rw [Rp,h2.length]
 ·rename_i ds
  obtain ⟨v,rfl,r⟩:=rps1 rs
  rw [Rp] at r
  obtain ⟨p,ws,rfl,h1,h2⟩:=r
  refine ⟨p,ws,rfl,.inr (qbb_ sm h1),k _ _ F H .rf ?_ h⟩
  rw [Rp,h2.length]
 ·exact h.elim
def RAbs:List D->(D->Prop)->Prop:=λxs P=>match xs with
 |[.int i]=>P (.int (if i<0 then -i else i))
 |_=>False
theorem qwg_:CaW X (λxs H Q=>∃i,xs=[.int i]/\Q (.int (if i<0 then -i else i)) H) RAbs:=by
 intro xs vs F H Q P sm rs h k
 unfold RAbs at h
 split at h
 ·obtain ⟨v,rfl,r⟩:=rps1 rs
  rw [Rp] at r
  subst r
  exact ⟨_,rfl,k _ _ F H .rf (by rw [Rp]) h⟩
 ·exact h.elim
def RInt:List D->(D->Prop)->Prop:=λxs P=>match xs with
 |[.int i]=>P (.int i)
 |[.bl i]=>P (.int (if i then 1 else 0))
 |_=>False
theorem qwi_:CaW X (λxs H Q=>(∃i,xs=[.int i]/\Q (.int i) H)\/∃k,xs=[.bl k]/\Q (.int (if k then 1 else 0)) H) RInt:=by
 intro xs vs F H Q P sm rs h k
 unfold RInt at h
 split at h
 ·obtain ⟨v,rfl,r⟩:=rps1 rs
  rw [Rp] at r
  subst r
  exact .inl ⟨_,rfl,k _ _ F H .rf (by rw [Rp]) h⟩
 ·obtain ⟨v,rfl,r⟩:=rps1 rs
  rw [Rp] at r
  subst r
  exact .inr ⟨_,rfl,k _ _ F H .rf (by rw [Rp]) h⟩
 ·exact h.elim
end
end L4
namespace L4
open PySem PySem.Spec PyProof.Rows L2 L3
def Zof (F:Hp) (M:Mm) (H:Hp):Hp:=λp=>if (F p).isNone=true/\(M p).isNone=true then H p else none
theorem qeh_ {F H:Hp} {M:Mm} {p:Addr} {o:HO} (h:Zof F M H p=some o):H p=some o/\F p=none/\M p=none:=by
 unfold Zof at h
 split at h
 ·rename_i c
  exact ⟨h,Option.isNone_iff_eq_none.mp c.1,Option.isNone_iff_eq_none.mp c.2⟩
 ·cases h
theorem qft_ {F H:Hp} {M:Mm} {p:Addr} {o:HO} (h1:H p=some o) (h2:F p=none) (h3:M p=none):Zof F M H p=some o:=by
 unfold Zof
 rw [if_pos ⟨by rw [h2];rfl,by rw [h3];rfl⟩]
 exact h1
section
variable {K:PySem.W.Frag} {Z F F' H H':Hp} {M M':Mm} {ρ:Rho} {σ:L2.St}
theorem AgM.inner (a:AgM K Z F M H):AgM K (Zof F M H) F M H:=⟨a.sm,λ_ _ h=>qeh_ h,a.mo⟩
theorem AgM.back (a:AgM K Z F M H) (b:AgM K (Zof F M H) F' M' H'):AgM K Z F' M' H':=⟨b.sm,λp o h=>by
 obtain ⟨z1,z2,z3⟩:=a.zz p o h
 exact b.zz p o (qft_ z1 z2 z3),b.mo⟩
theorem Ag.back (a:Ag K Z F M H ρ σ) (s:Same F F') (b:AgM K (Zof F M H) F' M' H'):Ag K Z F' M' H' ρ σ:=by
 refine ⟨a.m.back b,a.len,λi e h=>?_,a.di⟩
 have:=a.en i e h
 cases e with
 |un=>trivial
 |sh d=>obtain ⟨v,h1,h2⟩:=this;exact ⟨v,h1,Rp.same s h2⟩
 |rf p=>exact this
 |ut u=>obtain ⟨v,h1,h2⟩:=this;exact ⟨v,h1,RU.same s h2⟩
 |ow ds=>
  obtain ⟨p,vs,h1,h2,h3,h4,h5,h6⟩:=this
  obtain ⟨z1,z2,z3⟩:=b.zz p _ (qft_ h2 h3 h4)
  exact ⟨p,vs,h1,z1,z2,z3,h5,Rps.same s h6⟩
end
abbrev WF:=List D->Mm->(D->Mm->Prop)->Prop
def spW (K:PySem.W.Frag) (g:WF):Sp:=λvs H Q _=>∃Z F M ds P,AgM K Z F M H/\Rps K F ds vs/\g ds M P/\∀v H' F' d M',Same F F'->AgM K Z F' M' H'->Rp K F' d v->P d M'->Q v H'
def wFn (g:WF) (fl:WA):WE:=λρ M P=>fl ρ M λds ρ1 M1=>g ds M1 λd M2=>P d ρ1 M2
section
variable {X:Cx} {a b c e:Expr} {es rest:List Expr} {pos p:Pos} {fa fb fe:WE} {ft fu:WT} {fl:WA} {fn:WN} {st:Stmt} {sts:List Stmt} {fs gs:WS} {x:Str}
theorem j_h {g:WF} {k:Nat} {ps:List Str} (F:Has X.prog X.w X.K X.mg X.base CX0 k x ps (spW X.K g)) (hr:Room k X.A) (hg:Gl X x) (ha:JA X (e::es) fl) (hdb:(x==("__debug__":Str))=false:=by decide) (he:starEach (e::es) X.env=(false,eval e X.env)::starEach es X.env:=by rfl) (hpl:(backTo pos (starEach es X.env)).any (·.1)=false:=by rfl):
  JE X (.Call (.Name x p) (e::es) [] pos) (wFn g fl):=⟨imE (pe_h F hr hg qov_ ha.h hdb he hpl) λσ H Q hh=>ex5 hh λZ F ρ M P ag hf k=>⟨Z,F,ρ,M,_,ag,hf,λvs H1 F1 ds ρ1 M1 s1 ag1 r1 h1=>by
 show spW X.K g (vs++[]) H1 Q E0
 rw [List.append_nil]
 exact ⟨_,F1,M1,ds,_,ag1.m.inner,r1,h1,λv H' F' d M' s' m' r h=>k v H' F' d ρ1 M' (s1.trans s') (ag1.back s' m') r h⟩⟩⟩
theorem EndsOk.mono {K:PySem.W.Frag} {Z F F':Hp} {E:WEnds} {D':Ends} (h:EndsOk K Z F E D') (s:Same F F'):EndsOk K Z F' E D':=
 ⟨λσ' H' G ρ' M' t=>h.nx σ' H' G ρ' M' (s.trans t),λσ' H' G ρ' M' t=>h.bk σ' H' G ρ' M' (s.trans t),λσ' H' G ρ' M' t=>h.ct σ' H' G ρ' M' (s.trans t),λv H' G d M' t=>h.rt v H' G d M' (s.trans t)⟩
def qwd_:WS:=λE ρ M=>E.nx ρ M
def wSeq (f g:WS):WS:=λE ρ M=>f ⟨λρ1 M1=>g E ρ1 M1,E.rt,E.bk,E.ct⟩ ρ M
theorem qx_:JSs X [] qwd_:=⟨imSs qq3_ λD' σ H hh=>ex5 hh λZ F ρ M E ag hf k=>k.nx σ H F ρ M (Same.refl _) ag hf⟩
theorem qf_ (h:JS X st fs):JSs X [st] fs:=⟨qiz_ h.h⟩
theorem qc_ (h:JS X st fs) (h2:JSs X sts gs):JSs X (st::sts) (wSeq fs gs):=⟨imSs (qjy_ h.h h2.h) λD' σ H hh=>ex5 hh λZ F ρ M E ag hf k=>
 ⟨Z,F,ρ,M,_,ag,hf,⟨λσ' H' F' ρ' M' s' ag' h=>⟨Z,F',ρ',M',E,ag',h,k.mono s'⟩,k.bk,k.ct,k.rt⟩⟩⟩
def qto_:WS:=λ_ _ _=>False
theorem qn7_:JS X st qto_:=⟨imS qop_ λD' σ H hh=>ex5 hh λZ F ρ M E ag hf k=>hf⟩
def qv4_ (f:WE):WS:=λE ρ M=>f ρ M λ_ ρ1 M1=>E.nx ρ1 M1
theorem qig_ (h:JE X e fe) (hs:swapsWith e none pos.line X.env=pure false:=by rfl):JS X (.Expr e pos) (qv4_ fe):=⟨imS (qey_ h.h hs) λD' σ H hh=>ex5 hh λZ F ρ M E ag hf k=>⟨Z,F,ρ,M,_,ag,hf,λv H' F' d ρ' M' s' ag' r h=>k.nx σ H' F' ρ' M' s' ag' h⟩⟩
def wRet (f:WE):WS:=λE ρ M=>f ρ M λd _ M1=>E.rt (.d d) M1
theorem qn_ (h:JE X e fe):JS X (.Return (some e) pos) (wRet fe):=⟨imS (ql1_ h.h) λD' σ H hh=>ex5 hh λZ F ρ M E ag hf k=>⟨Z,F,ρ,M,_,ag,hf,λv H' F' d ρ' M' s' ag' r h=>k.rt v H' F' (.d d) M' s' ag'.m (by rw [RU];exact r) h⟩⟩
def wIf (c:WT) (f g:WS):WS:=λE ρ M=>c ρ M λb ρ1 M1=>if b=true then f E ρ1 M1 else g E ρ1 M1
theorem qcd_ {sa sb:List Stmt} (hc:JT X c ft) (ha:JSs X sa fs) (hb:JSs X sb gs):JS X (.If c sa sb pos) (wIf ft fs gs):=⟨imS (qtm_ hc.h ha.h hb.h) λD' σ H hh=>ex5 hh λZ F ρ M E ag hf k=>⟨Z,F,ρ,M,_,ag,hf,λb H' F' ρ' M' s' ag' h=>by
 cases b with
 |true=>rw [if_pos rfl] at h ⊢;exact ⟨Z,F',ρ',M',E,ag',h,k.mono s'⟩
 |false=>rw [if_neg Bool.false_ne_true] at h ⊢;exact ⟨Z,F',ρ',M',E,ag',h,k.mono s'⟩⟩⟩
section
variable {i:Nat} {pos':Pos}
def wSet (i:Nat) (f:WE):WS:=λE ρ M=>f ρ M λd ρ1 M1=>E.nx (ρ1.set i (.sh d)) M1
theorem qp_ (hN:X.N.Nodup) (hi:X.N[i]?=some x) (hx:Loc X.env.scope x) (he:JE X e fe) (hs:swapsWith e (some (.Name x pos')) pos.line X.env=pure false:=by rfl) (hf:X.fn x=true\/X.env.scope.names.lookup x=some .local:=by first|exact .inl rfl|exact .inr rfl|assumption):
  JS X (.Assign [.Name x pos'] e pos) (wSet i fe):=⟨imS (qgo_ hN hi hx he.h hs hf) λD' σ H hh=>ex5 hh λZ F ρ M E ag hf k=>⟨Z,F,ρ,M,_,ag,hf,λv H' F' d ρ' M' s' ag' r h=>k.nx _ H' F' _ M' s' (ag'.set r) h⟩⟩
def qs5_ (i:Nat) (f:WN):WS:=λE ρ M=>f ρ M λds ρ1 M1=>E.nx (ρ1.set i (.ow ds)) M1
theorem qg2_ (hN:X.N.Nodup) (hi:X.N[i]?=some x) (hx:Loc X.env.scope x) (he:JN X e fn) (hs:swapsWith e (some (.Name x pos')) pos.line X.env=pure false:=by rfl) (hf:X.fn x=true\/X.env.scope.names.lookup x=some .local:=by first|exact .inl rfl|exact .inr rfl|assumption):
  JS X (.Assign [.Name x pos'] e pos) (qs5_ i fn):=⟨imS (qgo_ hN hi hx he.h hs hf) λD' σ H hh=>ex5 hh λZ F ρ M E ag hf k=>⟨Z,F,ρ,M,_,ag,hf,λp vs H' F' ds ρ' M' s' ag' n2 n3 n4 nz n5 r h=>k.nx _ H' F' _ M' s' (ag'.setO n2 n3 n4 nz r n5) h⟩⟩
end
theorem qci_ {K:PySem.W.Frag} {Z F H:Hp} {M:Mm} {ρ:Rho} {σ:L2.St} {i:Nat} {ds:List D} (ag:Ag K Z F M H ρ σ) (h:ρ[i]?=some (.ow ds)):∃p vs,σ[i]?=some (some (.ref p))/\H p=some (.lst vs)/\F p=none/\M p=none/\Z p=none/\Rps K F ds vs:=by
 obtain ⟨p,vs,h1,h2⟩:=ag.en i _ h
 refine ⟨p,vs,?_,h2⟩
 cases y:σ[i]? with
 |none=>rw [y] at h1;cases h1
 |some o=>rw [y] at h1;simp at h1;rw [h1]
theorem Ag.chg {K:PySem.W.Frag} {Z F H:Hp} {M:Mm} {ρ:Rho} {σ:L2.St} {i:Nat} {ds es:List D} {p:Addr} {vs ws:List V} (ag:Ag K Z F M H ρ σ) (h:ρ[i]?=some (.ow ds)) (hs:σ[i]?=some (some (.ref p))) (h2:H p=some (.lst vs)) (h3:F p=none) (h4:M p=none) (h5:Z p=none) (r:Rps K F es ws):
  Ag K Z F M (upd H p (.lst ws)) (ρ.set i (.ow es)) σ:=by
 have hi:i<ρ.length:=(List.getElem?_eq_some_iff.mp h).1
 have ne:∀{q:Addr} {u:HO},F q=some u->q≠p:=λe z=>by rw [z,h3] at e;cases e
 refine ⟨⟨λq u e=>by rw [qo_ (ne e)];exact ag.m.sm q u e,λq o e=>?_,λq o e=>?_⟩,by rw [List.length_set];exact ag.len,λj e q=>?_,λj k ds' es' q n q1 q2 q3=>?_⟩
 ·obtain ⟨z1,z2,z3⟩:=ag.m.zz q o e
  have:q≠p:=λz=>by rw [z,h5] at e;cases e
  exact ⟨by rw [qo_ this];exact z1,z2,z3⟩
 ·obtain ⟨z1,z2⟩:=ag.m.mo q o e
  have:q≠p:=λz=>by rw [z,h4] at e;cases e
  exact ⟨z1,z2.same (Same.refl _) (qo_ this)⟩
 ·by_cases hj:j=i
  ·subst hj
   rw [List.getElem?_set_self hi] at q
   cases q
   exact ⟨p,ws,by rw [hs];rfl,qt_,h3,h4,h5,r⟩
  ·rw [List.getElem?_set_ne (Ne.symm hj)] at q
   have:=ag.en j e q
   cases e with
   |un=>trivial
   |sh d=>exact this
   |rf p=>exact this
   |ut u=>exact this
   |ow ds'=>
    obtain ⟨q',us,g1,g2,g3⟩:=this
    have hne:q'≠p:=λz=>by
     subst z
     have hj':σ[j]?=some (some (.ref q')):=by
      cases y:σ[j]? with
      |none=>rw [y] at g1;cases g1
      |some o=>rw [y] at g1;simp at g1;rw [g1]
     exact ag.di i j ds ds' q' (Ne.symm hj) h q hs hj'
    exact ⟨q',us,g1,by rw [qo_ hne];exact g2,g3⟩
 ·have key:∀{j:Nat} {ds':List D},(ρ.set i (.ow es))[j]?=some (.ow ds')->∃ds'',ρ[j]?=some (.ow ds''):=λ{j ds'} q=>by
   by_cases hj:j=i
   ·subst hj;exact ⟨ds,h⟩
   ·rw [List.getElem?_set_ne (Ne.symm hj)] at q;exact ⟨ds',q⟩
  obtain ⟨d1,e1⟩:=key q1
  obtain ⟨d2,e2⟩:=key q2
  exact ag.di j k d1 d2 q n e1 e2 q3
def isOw:Option Ent->Prop
 |some (.ow _)=>True
 |_=>False
theorem qeu_ {o:Option Ent} (h:isOw o):∃ds,o=some (.ow ds):=by
 unfold isOw at h
 split at h
 ·exact ⟨_,rfl⟩
 ·exact h.elim
def wApp (i:Nat) (f:WE):WS:=λE ρ M=>isOw ρ[i]?/\f ρ M λd ρ1 M1=>match ρ1[i]? with
 |some (.ow ds)=>ds.length<sizeLine/\E.nx (ρ1.set i (.ow (ds++[d]))) M1
 |_=>False
theorem qu4_ {i:Nat} (hh:PS X st (qrl_ (tBM X.K "list" qlh_ (tVar i) (lfA X.K (qhc_ fe wNil))))):JS X st (wApp i fe):=⟨imS hh λD' σ H hh=>ex5 hh λZ F ρ M E ag hf k=>by
 obtain ⟨ho,hf⟩:=hf
 obtain ⟨ds0,ho⟩:=qeu_ ho
 obtain ⟨p,vs,h1,h2,h3,h4,h5,h6⟩:=qci_ ag ho
 refine ⟨.ref p,h1,.inl ⟨rfl,vs,SqL.of h2⟩,Z,F,ρ,M,λes ρ1 M1=>match es with
  |[d]=>(match ρ1[i]? with
   |some (.ow ds)=>ds.length<sizeLine/\E.nx (ρ1.set i (.ow (ds++[d]))) M1
   |_=>False)
  |_=>False,ag,hf,λws H1 F1 es ρ1 M1 s1 ag1 r1 hh=>?_⟩
 dsimp only at hh
 split at hh
 ·rename_i d
  split at hh
  ·rename_i ds hd
   obtain ⟨v,rfl,rv⟩:=rps1 r1
   obtain ⟨p',us,g1,g2,g3,g4,g5,g6⟩:=qci_ ag1 hd
   rw [h1] at g1
   cases g1
   refine ⟨p,us,v,rfl,rfl,g2,by rw [<-g6.length];exact hh.1,k.nx σ _ F1 _ M1 s1 (ag1.chg hd h1 g2 g3 g4 g5 (g6.append (.cons rv .nil))) hh.2⟩
  ·exact hh.elim
 ·exact hh.elim⟩
def qpk_ (i:Nat) (fk fe:WE):WS:=λE ρ M=>fe ρ M λd ρ1 M1=>isOw ρ1[i]?/\fk ρ1 M1 λk ρ2 M2=>match ρ2[i]?,k with
 |some (.ow ds),.int j=>(match ixN ds.length j with
  |some n=>E.nx (ρ2.set i (.ow (ds.set n d))) M2
  |none=>False)
 |_,_=>False
theorem qnn_ {i:Nat} {fk:WE} (hh:PS X st (tAsg (lf X.K fe) (gSub (tVar i) (lf X.K fk) quf_))):JS X st (qpk_ i fk fe):=⟨imS hh λD' σ H hh=>ex5 hh λZ F ρ M E ag hf k=>by
 refine ⟨Z,F,ρ,M,_,ag,hf,λv H1 F1 d ρ1 M1 s1 ag1 r1 h1=>?_⟩
 obtain ⟨ho,h1⟩:=h1
 obtain ⟨ds0,ho⟩:=qeu_ ho
 obtain ⟨p,vs,e1,e2,e3,e4,e5,e6⟩:=qci_ ag1 ho
 refine ⟨.ref p,e1,Z,F1,ρ1,M1,_,ag1,h1,λu H2 F2 dk ρ2 M2 s2 ag2 r2 h2=>?_⟩
 split at h2
 ·rename_i ds j hd
  rw [Rp] at r2
  split at h2
  ·rename_i n hn
   obtain ⟨p',us,g1,g2,g3,g4,g5,g6⟩:=qci_ ag2 hd
   rw [e1] at g1
   cases g1
   refine ⟨p,us,j,n,rfl,r2,g2,by rw [<-g6.length];exact hn,k.nx σ _ F2 _ M2 (s1.trans s2) (ag2.chg hd e1 g2 g3 g4 g5 (g6.set (r1.same s2) n)) h2⟩
  ·exact h2.elim
 ·exact h2.elim⟩
def wAtO (i:Nat) (fk:WE):WE:=λρ M P=>isOw ρ[i]?/\fk ρ M λk ρ1 M1=>match ρ1[i]?,k with
 |some (.ow ds),.int j=>(match atI ds j with
  |some d=>P d ρ1 M1
  |none=>False)
 |_,_=>False
theorem qvm_ {i:Nat} {fk:WE} (hh:PE X e (tOp (rIx X.K) (tVar i) (lf X.K fk))):JE X e (wAtO i fk):=⟨imE hh λσ H Q hh=>ex5 hh λZ F ρ M P ag hf k=>by
 obtain ⟨ho,hf⟩:=hf
 obtain ⟨ds0,ho⟩:=qeu_ ho
 obtain ⟨p,vs,e1,e2,e3,e4,e5,e6⟩:=qci_ ag ho
 refine ⟨.ref p,e1,Z,F,ρ,M,_,ag,hf,λu H2 F2 dk ρ2 M2 s2 ag2 r2 h2=>?_⟩
 split at h2
 ·rename_i ds j hd
  rw [Rp] at r2
  split at h2
  ·rename_i d hn
   obtain ⟨p',us,g1,g2,g3,g4,g5,g6⟩:=qci_ ag2 hd
   rw [e1] at g1
   cases g1
   obtain ⟨w,a1,a2⟩:=qjw_ g6 hn
   exact .inl ⟨p,us,j,w,rfl,r2,SqL.of g2,a1,k w H2 F2 d ρ2 M2 s2 ag2 a2 h2⟩
  ·exact h2.elim
 ·exact h2.elim⟩
def rIs4 (K:PySem.W.Frag):List V->Hp->VK->Prop:=λxs H Q=>∃d x n b,xs=[x,.ty n]/\Rp K H d x/\PySem.W.kitOne K (.type (tyN d)) (.type n)=some b/\Q (.bl b) H
theorem qn9_:qev_ X (.builtin "isinstance") (rIs4 X.K):=by
 intro pins s σ H vs us Q I r h
 obtain ⟨d,x,n,b,rfl,rp,e,q⟩:=h
 obtain ⟨u,w',rfl,r1,r2⟩:=qkb_ r
 cases (show w'=Value.type n from r2)
 have fin:∀tk:Nat,EP X pins σ Q (.bool b) {s with toks:=tk}:=λtk=>⟨.bl b,H,I.tok tk,rfl,q⟩
 cases d with
 |non=>rw [Rp] at rp;subst rp;exact qed_ I r1 .non e fin
 |bl k=>rw [Rp] at rp;subst rp;exact qed_ I r1 (.bl k) e fin
 |int k=>rw [Rp] at rp;subst rp;exact qed_ I r1 (.int k) e fin
 |str k=>rw [Rp] at rp;subst rp;exact qed_ I r1 (.str k) e fin
 |tup ds=>
  rw [Rp] at rp
  obtain ⟨a,ws,rfl,h1,_⟩:=rp
  cases (show u=Value.ref a from r1)
  obtain ⟨its,_,⟨o,g1,g2,_⟩,_⟩:=I.tuple h1
  exact PySem.W.kia_one PySem.W.kitx_tuple I.kIn ⟨o,g1,g2⟩ e (λz=>nomatch z) fin
 |lst ds=>
  rw [Rp] at rp
  obtain ⟨a,ws,rfl,h1,_⟩:=rp
  cases (show u=Value.ref a from r1)
  obtain ⟨its,_,⟨o,n',g1,g2,_⟩,_⟩:=I.list (.inl h1)
  exact PySem.W.kia_one PySem.W.kitx_list I.kIn ⟨o,g1,g2⟩ e (λz=>nomatch z) fin
def wIs (t:D->Bool) (f:WE):WE:=λρ M P=>f ρ M λd ρ1 M1=>P (.bl (t d)) ρ1 M1
theorem j_is {t:D->Bool} {n:String} (hk:∀d,PySem.W.kitOne X.K (.type (tyN d)) (.type n)=some (t d)) (hh:∀{ta:TE},PE X a ta->PE X e (tCB (rIs4 X.K) (qrb_ ta (qrb_ (tC (.ty n)) tNil)))) (ha:JE X a fa):JE X e (wIs t fa):=⟨imE (hh ha.h) λσ H Q hh=>ex5 hh λZ F ρ M P ag hf k=>
 ⟨Z,F,ρ,M,_,ag,hf,λv H1 F1 d ρ1 M1 s1 ag1 r1 h1=>⟨d,v,n,_,rfl,r1.same ag1.m.sm,hk d,k _ H1 F1 _ ρ1 M1 s1 ag1 (by rw [Rp]) h1⟩⟩⟩
end
end L4
namespace L4
open PySem PySem.Spec PyProof.Rows L2 L3
structure ItOk (K:PySem.W.Frag) (J:It) (F:Hp) (ds:List D):Prop where
 go:∀i F' H,i<ds.length->Same F F'->Same F' H->J.go i H
 stop:∀F' H,Same F F'->Same F' H->J.stop ds.length H
 yld:∀(i:Nat) d F' H x H',ds[i]?=some d->Same F F'->Same F' H->J.yld i H x H'->∃F'',Gw F' H F'' H'/\Rp K F'' d x
abbrev WI:=Rho->Mm->(List D->Rho->Mm->Prop)->Prop
def lfI (K:PySem.W.Frag) (f:WI):TI:=λσ H R=>∃Z F ρ M P,Ag K Z F M H ρ σ/\f ρ M P/\∀J H' F' ds ρ' M',Same F F'->Ag K Z F' M' H' ρ' σ->ItOk K J F' ds->P ds ρ' M'->R J H'
structure JI (X:Cx) (tg iter:Expr) (f:WI):Prop where
 h:PI X tg iter (lfI X.K f)
theorem imI {X:Cx} {tg iter:Expr} {t t':TI} (h:PI X tg iter t) (k:∀σ H R,t' σ H R->t σ H R):PI X tg iter t':=λpins s σ H R I q=>h pins s σ H R I (k σ H R q)
section
variable {X:Cx} {a b c e tg iter:Expr} {es rest:List Expr} {pos p:Pos} {fa fb fe:WE} {ft fu:WT} {fl:WA} {fn:WN} {st:Stmt} {sts:List Stmt} {fs gs:WS} {x:Str} {fi:WI} {fg:WG}
def wIL (f:WE):WI:=λρ M P=>f ρ M λd ρ1 M1=>match d with
 | .lst ds=>P ds ρ1 M1
 |_=>False
theorem qr_ (ha:JE X a fa):JI X tg a (wIL fa):=⟨imI (qqk_ ha.h) λσ H R hh=>ex5 hh λZ F ρ M P ag hf k=>⟨Z,F,ρ,M,_,ag,hf,λv H1 F1 d ρ1 M1 s1 ag1 r1 h1=>by
 split at h1
 ·rename_i ds
  rw [Rp] at r1
  obtain ⟨q,vs,rfl,g1,g2⟩:=r1
  refine ⟨q,rfl,⟨vs,.inl (ql_ ag1.m.sm g1)⟩,k _ H1 F1 ds ρ1 M1 s1 ag1 ⟨λi F' H hi s s'=>?_,λF' H s s'=>?_,λi d F' H x H' hd s s' y=>?_⟩ h1⟩
  ·exact ⟨vs,_,.inl (ql_ s' (ql_ s g1)),List.getElem?_eq_getElem (by rw [<-g2.length];exact hi)⟩
  ·exact ⟨vs,.inl (ql_ s' (ql_ s g1)),by rw [g2.length];exact Nat.le_refl _⟩
  ·obtain ⟨rfl,y⟩:=y
   obtain ⟨w,h2,h3⟩:=g2.get hd
   have:=y vs (.inl (ql_ s' (ql_ s g1)))
   rw [h2] at this
   cases this
   exact ⟨F',.rf,h3.same s⟩
 ·exact h1.elim⟩⟩
def rngD (lo:Int) (n:Nat):List D:=(List.range n).map λ(k:Nat)=>D.int (lo+(k:Int))
theorem qts_ {K:PySem.W.Frag} {F:Hp} (lo:Int) (n:Nat):ItOk K (Itr lo n) F (rngD lo n):=by
 have hl:(rngD lo n).length=n:=by unfold rngD;simp
 refine ⟨λi F' H hi _ _=>?_,λF' H _ _=>?_,λi d F' H x H' hd s s' y=>?_⟩
 ·show i<n
  omega
 ·show n<=_
  omega
 ·obtain ⟨rfl,rfl⟩:=y
  refine ⟨F',.rf,?_⟩
  unfold rngD at hd
  rw [List.getElem?_map] at hd
  cases q:(List.range n)[i]? with
  |none=>rw [q] at hd;cases hd
  |some j=>
   rw [q] at hd
   obtain ⟨hj,e⟩:=List.getElem?_eq_some_iff.mp q
   simp at e
   subst e
   simp at hd
   subst hd
   rw [Rp]
def wIR1 (f:WA):WI:=λρ M P=>f ρ M λds ρ1 M1=>match ds with
 |[.int j]=>(-(2 ^ 62)<=j/\j<2 ^ 62)/\P (rngD 0 j.toNat) ρ1 M1
 |_=>False
theorem qcr_ (hg:Gl X "range") (hm:X.mg "range"=none) (ha:JA X [a] fl) (hs:starEach [a] X.env=[(false,eval a X.env)]:=by rfl):JI X tg (.Call (.Name "range" p) [a] [] pos) (wIR1 fl):=⟨imI (qmf_ hg hm ha.h hs) λσ H R hh=>ex5 hh λZ F ρ M P ag hf k=>⟨Z,F,ρ,M,_,ag,hf,λvs H1 F1 ds ρ1 M1 s1 ag1 r1 h1=>by
 split at h1
 ·rename_i j
  obtain ⟨v,rfl,rv⟩:=rps1 r1
  rw [Rp] at rv
  subst rv
  exact ⟨j,rfl,h1.1.1,h1.1.2,k _ H1 F1 _ ρ1 M1 s1 ag1 (qts_ 0 _) h1.2⟩
 ·exact h1.elim⟩⟩
def zipD:List D->List D->List D
 |x::xs,y::ys=> .tup [x,y]::zipD xs ys
 |_,_=>[]
theorem qcf_:∀(xs ys:List D),(zipD xs ys).length=min xs.length ys.length
 |[],_=>by simp [zipD]
 |_::_,[]=>by simp [zipD]
 |x::xs,y::ys=>by rw [zipD,List.length_cons,qcf_ xs ys];simp
theorem qef_:∀{xs ys:List D} {i:Nat} {d:D},(zipD xs ys)[i]?=some d->∃x y,xs[i]?=some x/\ys[i]?=some y/\d= .tup [x,y]
 |[],_,_,_,h=>by simp [zipD] at h
 |_::_,[],_,_,h=>by simp [zipD] at h
 |x::xs,y::ys,0,d,h=>by simp [zipD] at h;exact ⟨x,y,rfl,rfl,h.symm⟩
 |x::xs,y::ys,i+1,d,h=>by
  rw [zipD,List.getElem?_cons_succ] at h
  obtain ⟨a,b,h1,h2,h3⟩:=qef_ h
  exact ⟨a,b,by simpa using h1,by simpa using h2,h3⟩
def wIZ (f:WA):WI:=λρ M P=>f ρ M λds ρ1 M1=>match ds with
 |[.lst xs,.lst ys]=>P (zipD xs ys) ρ1 M1
 |_=>False
theorem qgp_ {tpos:Pos} {elts:List Expr} {k:Nat} (hg:Gl X "zip") (hm:X.mg "zip"=none) (ha:JA X [a,b] fl) (hs:starEach [a,b] X.env=[(false,eval a X.env),(false,eval b X.env)]:=by rfl) (hs2:starEach [b] X.env=[(false,eval b X.env)]:=by rfl):JI X (.Tuple elts k tpos) (.Call (.Name "zip" p) [a,b] [] pos) (wIZ fl):=⟨imI (qui_ hg hm ha.h hs hs2) λσ H R hh=>ex5 hh λZ F ρ M P ag hf k=>⟨Z,F,ρ,M,_,ag,hf,λvs H1 F1 ds ρ1 M1 s1 ag1 r1 h1=>by
 split at h1
 ·rename_i xs ys
  obtain ⟨v,u,rfl,rv,ru⟩:=rps2 r1
  rw [Rp] at rv ru
  obtain ⟨q,vs,rfl,g1,g2⟩:=rv
  obtain ⟨q',us,rfl,g3,g4⟩:=ru
  refine ⟨q,q',rfl,⟨vs,.inl (ql_ ag1.m.sm g1)⟩,⟨us,.inl (ql_ ag1.m.sm g3)⟩,k _ H1 F1 _ ρ1 M1 s1 ag1 ⟨λi F' H hi s s'=>?_,λF' H s s'=>?_,λi d F' H x H' hd s s' y=>?_⟩ h1⟩
  ·rw [qcf_,g2.length,g4.length] at hi
   exact ⟨vs,us,_,_,.inl (ql_ s' (ql_ s g1)),.inl (ql_ s' (ql_ s g3)),List.getElem?_eq_getElem (by omega),List.getElem?_eq_getElem (by omega)⟩
  ·refine ⟨vs,us,.inl (ql_ s' (ql_ s g1)),.inl (ql_ s' (ql_ s g3)),?_⟩
   rw [qcf_,g2.length,g4.length]
   omega
  ·obtain ⟨p,w1,w2,rfl,hp,rfl,y1,y2⟩:=y
   obtain ⟨d1,d2,e1,e2,rfl⟩:=qef_ hd
   obtain ⟨z1,f1,f2⟩:=g2.get e1
   obtain ⟨z2,f3,f4⟩:=g4.get e2
   have q1:=y1 vs (.inl (ql_ s' (ql_ s g1)))
   have q2:=y2 us (.inl (ql_ s' (ql_ s g3)))
   rw [f1] at q1
   cases q1
   rw [f3] at q2
   cases q2
   have hF:F' p=none:=qb3_ s' hp
   have sn:Same F' (upd F' p (.tup [w1,w2])):=Same.new hF
   refine ⟨_,.nw hp,?_⟩
   rw [Rp]
   exact ⟨p,_,rfl,SqT.of qt_,.cons ((f2.same s).same sn) (.cons ((f4.same s).same sn) .nil)⟩
 ·exact h1.elim⟩⟩
def gN (i:Nat):WG:=λd ρ M P=>P (ρ.set i (.sh d)) M
theorem qg_ {i:Nat} (hN:X.N.Nodup) (hi:X.N[i]?=some x) (hx:Loc X.env.scope x) (hf:X.fn x=true\/X.env.scope.names.lookup x=some .local:=by first|exact .inl rfl|exact .inr rfl|assumption):JG X (.Name x pos) (gN i):=⟨imG (qq1_ hN hi hx hf) λv σ H Q hh=>ex6 hh λZ F ρ M d P ag r hf k=>k _ H F _ M (Same.refl _) (ag.set r) hf⟩
def qtt_:WGs:=λds ρ M P=>match ds with
 |[]=>P ρ M
 |_=>False
def qpe_ (g:WG) (h:WGs):WGs:=λds ρ M P=>match ds with
 |d::r=>g d ρ M λρ1 M1=>h r ρ1 M1 P
 |_=>False
theorem qy_:JGs X [] qtt_:=⟨imGs qrk_ λvs σ H Q hh=>ex6 hh λZ F ρ M ds P ag r hf k=>by
 unfold qtt_ at hf
 split at hf
 ·rw [Rps] at r
  exact ⟨r,k σ H F ρ M (Same.refl _) ag hf⟩
 ·exact hf.elim⟩
theorem qj_ {fh:WGs} (h1:JG X e fg) (h2:JGs X es fh) (hs:(assignEach (e::es) X.env).map (·.2)=assign e X.env::(assignEach es X.env).map (·.2):=by rfl):JGs X (e::es) (qpe_ fg fh):=⟨imGs (qot_ h1.h h2.h hs) λvs σ H Q hh=>ex6 hh λZ F ρ M ds P ag r hf k=>by
 unfold qpe_ at hf
 split at hf
 ·rw [Rps] at r
  obtain ⟨v,vr,rfl,r1,r2⟩:=r
  exact ⟨v,vr,rfl,Z,F,ρ,M,_,_,ag,r1,hf,λσ' H' F' ρ' M' s' ag' h=>⟨Z,F',ρ',M',_,P,ag',r2.same s',h,λσ2 H2 F2 ρ2 M2 s2=>k σ2 H2 F2 ρ2 M2 (s'.trans s2)⟩⟩
 ·exact hf.elim⟩
def qr1_ (n:Nat) (g:WGs):WG:=λd ρ M P=>match d with
 | .tup ds=>ds.length=n/\g ds ρ M P
 |_=>False
theorem qba_ {fh:WGs} {k n:Nat} (hc:X.calm=true) (h:JGs X es fh) (hn:(assignEach es X.env).length=n:=by rfl) (hst:(assignEach es X.env).findIdx? (·.1)=none:=by rfl):JG X (.Tuple es k pos) (qr1_ n fh):=⟨imG (qry_ hc h.h hn hst) λv σ H Q hh=>ex6 hh λZ F ρ M d P ag r hf k=>by
 unfold qr1_ at hf
 split at hf
 ·rw [Rp] at r
  obtain ⟨q,vs,rfl,g1,g2⟩:=r
  exact ⟨q,vs,rfl,qbb_ ag.m.sm g1,by rw [<-g2.length];exact hf.1,Z,F,ρ,M,_,P,ag,g2,hf.2,k⟩
 ·exact hf.elim⟩
def wAsg (f:WE) (g:WG):WS:=λE ρ M=>f ρ M λd ρ1 M1=>g d ρ1 M1 E.nx
theorem qe1_ (he:JE X e fe) (hg:JG X tg fg) (hs:swapsWithSole [tg] e pos.line X.env=pure false:=by rfl) (hw:swappedStores [tg] e X.env=pure none:=by rfl) (h1:(assignEach [tg] X.env).map (·.2)=[assign tg X.env]:=by rfl):JS X (.Assign [tg] e pos) (wAsg fe fg):=⟨imS (qme_ he.h hg.h hs hw h1) λD' σ H hh=>ex5 hh λZ F ρ M E ag hf k=>
 ⟨Z,F,ρ,M,_,ag,hf,λv H1 F1 d ρ1 M1 s1 ag1 r1 h1=>⟨Z,F1,ρ1,M1,d,_,ag1,r1,h1,λσ' H' F' ρ' M' s' ag' h=>k.nx σ' H' F' ρ' M' (s1.trans s') ag' h⟩⟩⟩
def wPar (i j:Nat) (f:WA):WS:=λE ρ M=>f ρ M λds ρ1 M1=>match ds with
 |[d,e]=>E.nx ((ρ1.set i (.sh d)).set j (.sh e)) M1
 |_=>False
theorem qsl_ {i j:Nat} (hh:PS X st (tPar i j (lfA X.K fl))):JS X st (wPar i j fl):=⟨imS hh λD' σ H hh=>ex5 hh λZ F ρ M E ag hf k=>
 ⟨Z,F,ρ,M,_,ag,hf,λvs H1 F1 ds ρ1 M1 s1 ag1 r1 h1=>by
  split at h1
  ·obtain ⟨v,u,rfl,rv,ru⟩:=rps2 r1
   exact ⟨v,u,rfl,k.nx _ H1 F1 _ M1 s1 ((ag1.set rv).set ru) h1⟩
  ·exact h1.elim⟩⟩
def wFor (f:WI) (g:WG) (b:WS):WS:=λE ρ M=>f ρ M λds ρ1 M1=>∃I:Nat->Rho->Mm->Prop,I 0 ρ1 M1/\(∀(i:Nat) d ρ2 M2,ds[i]?=some d->I i ρ2 M2->g d ρ2 M2 λρ3 M3=>b ⟨I (i+1),E.rt,E.nx,I (i+1)⟩ ρ3 M3)/\∀ρ2 M2,I ds.length ρ2 M2->E.nx ρ2 M2
theorem qbm_ {body:List Stmt} (hp:PassesOwn (model X.prog X.w) X.A X.env X.xe) (hc:X.calm=true) (hi:JI X tg iter fi) (hg:JG X tg fg) (hb:JSs X body fs) (hs:∀x,foldedSetIterable iter X.env x=pure x:=by intro _;rfl):JS X (.For tg iter body [] pos) (wFor fi fg fs):=⟨imS (quv_ hp hc hi.h hg.h hb.h hs) λD' σ H hh=>ex5 hh λZ F ρ M E ag hf k=>⟨Z,F,ρ,M,_,ag,hf,λJ H1 F1 ds ρ1 M1 s1 ag1 it h1=>by
 obtain ⟨In,i0,step,fin⟩:=h1
 refine ⟨λi m σ' H'=>m=ds.length - i/\i<=ds.length/\∃F' ρ' M',Same F1 F'/\Ag X.K Z F' M' H' ρ' σ'/\In i ρ' M',⟨_,rfl,Nat.zero_le _,F1,ρ1,M1,Same.refl _,ag1,i0⟩,?_⟩
 rintro i m σ2 H2 ⟨rfl,hi,F2,ρ2,M2,s2,ag2,h2⟩
 by_cases hl:i<ds.length
 ·have e:ds[i]?=some ds[i]:=List.getElem?_eq_getElem hl
  refine .inr ⟨it.go i F2 H2 hl s2 ag2.m.sm,λσ' H'=>∃F' ρ' M',Same F1 F'/\Ag X.K Z F' M' H' ρ' σ'/\In (i+1) ρ' M',λσ' H' q=>⟨ds.length - (i+1),by omega,rfl,hl,q⟩,λx H' y=>?_⟩
  obtain ⟨F3,gw,r3⟩:=it.yld i _ F2 H2 x H' e s2 ag2.m.sm y
  have s3:=gw.same ag2.m.sm
  refine ⟨Z,F3,ρ2,M2,_,_,gw.ag ag2,r3,step i _ ρ2 M2 e h2,λσ4 H4 F4 ρ4 M4 s4 ag4 h4=>⟨Z,F4,ρ4,M4,_,ag4,h4,?_⟩⟩
  have s14:=s2.trans (s3.trans s4)
  refine ⟨λσ' H' F' ρ' M' t a q=>⟨F',ρ',M',s14.trans t,a,q⟩,λσ' H' F' ρ' M' t a q=>k.nx σ' H' F' ρ' M' (s1.trans (s14.trans t)) a q,λσ' H' F' ρ' M' t a q=>⟨F',ρ',M',s14.trans t,a,q⟩,λv H' F' d M' t a r q=>k.rt v H' F' d M' (s1.trans (s14.trans t)) a r q⟩
 ·have:i=ds.length:=by omega
  subst this
  exact .inl ⟨it.stop F2 H2 s2 ag2.m.sm,k.nx σ2 H2 F2 ρ2 M2 (s1.trans s2) ag2 (fin ρ2 M2 h2)⟩⟩⟩
def quc_ (c:WT) (b:WS):WS:=λE ρ M=>∃W:Nat->Rho->Mm->Prop,(∃m,W m ρ M)/\∀m ρ M,W m ρ M->c ρ M λk ρ1 M1=>if k=true then b ⟨λρ2 M2=>∃m',m'<m/\W m' ρ2 M2,E.rt,E.nx,λρ2 M2=>∃m',m'<m/\W m' ρ2 M2⟩ ρ1 M1 else E.nx ρ1 M1
theorem qjg_ {body:List Stmt} (hp:PassesOwn (model X.prog X.w) X.A X.env X.xe) (hc:JT X c ft) (hb:JSs X body fs):JS X (.While c body [] pos) (quc_ ft fs):=⟨imS (qn3_ hp hc.h hb.h) λD' σ H hh=>ex5 hh λZ F ρ M E ag hf k=>by
 obtain ⟨W,⟨m0,w0⟩,turn⟩:=hf
 refine ⟨λm σ' H'=>∃F' ρ' M',Same F F'/\Ag X.K Z F' M' H' ρ' σ'/\W m ρ' M',⟨m0,F,ρ,M,Same.refl _,ag,w0⟩,?_⟩
 rintro m σ1 H1 ⟨F1,ρ1,M1,s1,ag1,w1⟩
 refine ⟨Z,F1,ρ1,M1,_,ag1,turn m ρ1 M1 w1,λb H2 F2 ρ2 M2 s2 ag2 h2=>?_⟩
 cases b with
 |false=>rw [if_neg Bool.false_ne_true] at h2 ⊢;exact k.nx σ1 H2 F2 ρ2 M2 (s1.trans s2) ag2 h2
 |true=>
  rw [if_pos rfl] at h2 ⊢
  refine ⟨λσ' H'=>∃m',m'<m/\∃F' ρ' M',Same F F'/\Ag X.K Z F' M' H' ρ' σ'/\W m' ρ' M',λ_ _ h=>h,Z,F2,ρ2,M2,_,ag2,h2,?_⟩
  have s02:=s1.trans s2
  exact ⟨λσ' H' F' ρ' M' t a ⟨m',hm,q⟩=>⟨m',hm,F',ρ',M',s02.trans t,a,q⟩,λσ' H' F' ρ' M' t a q=>k.nx σ' H' F' ρ' M' (s02.trans t) a q,λσ' H' F' ρ' M' t a ⟨m',hm,q⟩=>⟨m',hm,F',ρ',M',s02.trans t,a,q⟩,λv H' F' d M' t a r q=>k.rt v H' F' d M' (s02.trans t) a r q⟩⟩
end
def iniR (src:List (Option Nat)) (ρ:Rho):Rho:=src.map λo=>match o with
 |none=> .un
 |some j=>(match ρ[j]? with
  |some (.sh d)=> .sh d
  |some (.rf p)=> .rf p
  |some (.ut u)=> .ut u
  |_=> .un)
theorem qu3_ {K:PySem.W.Frag} {Z F H:Hp} {M:Mm} {ρ:Rho} {σ:L2.St} (src:List (Option Nat)) (ag:Ag K Z F M H ρ σ):Ag K (Zof F M H) F M H (iniR src ρ) (ini src σ):=by
 refine ⟨ag.m.inner,by unfold iniR ini;rw [List.length_map,List.length_map],λi e h=>?_,λi j ds es p n h1 h2 h3=>?_⟩
 ·unfold iniR at h
  rw [List.getElem?_map] at h
  unfold ini
  rw [List.getElem?_map]
  cases q:src[i]? with
  |none=>rw [q] at h;cases h
  |some o=>
   rw [q] at h
   cases o with
   |none=>cases h;trivial
   |some j=>
    simp only [Option.map_some,Option.some.injEq] at h
    simp only [Option.map_some,Option.bind_some,Option.join_some]
    cases q2:ρ[j]? with
    |none=>rw [q2] at h;subst h;trivial
    |some en=>
     rw [q2] at h
     have hen:=ag.en j en q2
     cases en with
     |un=>subst h;trivial
     |sh d=>subst h;exact hen
     |rf p=>subst h;exact hen
     |ut u=>subst h;exact hen
     |ow ds=>subst h;trivial
 ·exfalso
  unfold iniR at h1
  rw [List.getElem?_map] at h1
  cases q:src[i]? with
  |none=>rw [q] at h1;cases h1
  |some o=>
   rw [q] at h1
   cases o with
   |none=>cases h1
   |some j=>
    simp only [Option.map_some,Option.some.injEq] at h1
    split at h1<;>cases h1
def clr (ρ:Rho):Rho:=ρ.map λe=>match e with
 | .ow _=> .un
 |e=>e
theorem qfx_ {K:PySem.W.Frag} {Z Z' F H:Hp} {M:Mm} {ρ:Rho} {σ:L2.St} (ag:Ag K Z F M H ρ σ) (m:AgM K Z' F M H):Ag K Z' F M H (clr ρ) σ:=by
 have key:∀{i:Nat} {e:Ent},(clr ρ)[i]?=some e->(e= .un\/ρ[i]?=some e)/\∀ds,e≠ .ow ds:=λ{i e} h=>by
  unfold clr at h
  rw [List.getElem?_map] at h
  cases q:ρ[i]? with
  |none=>rw [q] at h;cases h
  |some en=>
   rw [q] at h
   cases en with
   |un=>cases h;exact ⟨.inl rfl,λ_ z=>nomatch z⟩
   |sh d=>cases h;exact ⟨.inr rfl,λ_ z=>nomatch z⟩
   |rf p=>cases h;exact ⟨.inr rfl,λ_ z=>nomatch z⟩
   |ut u=>cases h;exact ⟨.inr rfl,λ_ z=>nomatch z⟩
   |ow ds=>cases h;exact ⟨.inl rfl,λ_ z=>nomatch z⟩
 refine ⟨m,by unfold clr;rw [List.length_map];exact ag.len,λi e h=>?_,λi j ds es p n h1 _ _=>absurd rfl ((key h1).2 ds)⟩
 obtain ⟨h1,h2⟩:=key h
 rcases h1 with rfl|h1
 ·trivial
 ·have:=ag.en i e h1
  cases e with
  |un=>trivial
  |sh d=>exact this
  |rf p=>exact this
  |ut u=>exact this
  |ow ds=>exact absurd rfl (h2 ds)
def qor_ (fi:WI) (g:WG) (c:WT) (f:WE) (src:List (Option Nat)):WN:=λρ M P=>fi ρ M λds ρ1 M1=>∃I:Nat->List D->Rho->Mm->Prop,I 0 [] (iniR src ρ1) M1/\
 (∀(i:Nat) d out ρ2 M2,ds[i]?=some d->I i out ρ2 M2->g d ρ2 M2 λρ3 M3=>c ρ3 M3 λb ρ4 M4=>if b=true then f ρ4 M4 λy ρ5 M5=>out.length<sizeLine/\I (i+1) (out++[y]) (clr ρ5) M5 else I (i+1) out (clr ρ4) M4)/\
 ∀out ρ2 M2,I ds.length out ρ2 M2->P out ρ1 M2
def wYes:WT:=λρ M P=>P true ρ M
theorem qr0_ {K:PySem.W.Frag}:∀σ H Q,lfT K wYes σ H Q->tYes σ H Q:=λσ H Q hh=>ex5 hh λZ F ρ M P ag hf k=>k true H F ρ M (Same.refl _) ag hf
abbrev lfX {α:Type} (K:PySem.W.Frag) (R:Hp->α->V->Prop) (f:Rho->Mm->(α->Rho->Mm->Prop)->Prop):TE:=λσ H Q=>∃Z F ρ M P,Ag K Z F M H ρ σ/\f ρ M P/\∀v H' F' d ρ' M',Same F F'->Ag K Z F' M' H' ρ' σ->R F' d v->P d ρ' M'->Q v H'
abbrev lfNX {α:Type} (K:PySem.W.Frag) (RL:Hp->List α->List V->Prop) (f:Rho->Mm->(List α->Rho->Mm->Prop)->Prop):TE:=λσ H Q=>∃Z F ρ M P,Ag K Z F M H ρ σ/\f ρ M P/\∀p vs H' F' ds ρ' M',Same F F'->Ag K Z F' M' H' ρ' σ->H' p=some (.lst vs)->F' p=none->M' p=none->Z p=none->(∀(j:Nat) (es:List D),ρ'[j]?=some (.ow es)->σ[j]?≠some (some (.ref p)))->RL F' ds vs->P ds ρ' M'->Q (.ref p) H'
abbrev qty_ {α:Type} (fi:WI) (g:WG) (c:WT) (f:Rho->Mm->(α->Rho->Mm->Prop)->Prop) (src:List (Option Nat)):Rho->Mm->(List α->Rho->Mm->Prop)->Prop:=λρ M P=>fi ρ M λds ρ1 M1=>∃I:Nat->List α->Rho->Mm->Prop,I 0 [] (iniR src ρ1) M1/\
 (∀(i:Nat) d out ρ2 M2,ds[i]?=some d->I i out ρ2 M2->g d ρ2 M2 λρ3 M3=>c ρ3 M3 λb ρ4 M4=>if b=true then f ρ4 M4 λy ρ5 M5=>out.length<sizeLine/\I (i+1) (out++[y]) (clr ρ5) M5 else I (i+1) out (clr ρ4) M4)/\
 ∀out ρ2 M2,I ds.length out ρ2 M2->P out ρ1 M2
theorem qjn_ {α:Type} {K:PySem.W.Frag} {R:Hp->α->V->Prop} {RL:Hp->List α->List V->Prop} (rn:∀F,RL F [] []) (rs:∀{F F' out ws},Same F F'->RL F out ws->RL F' out ws) (rl:∀{F out ws},RL F out ws->out.length=ws.length) (rc:∀{F out ws d v},RL F out ws->R F d v->RL F (out++[d]) (ws++[v]))
  {fi:WI} {fg:WG} {fc:WT} {fe:Rho->Mm->(α->Rho->Mm->Prop)->Prop} {src:List (Option Nat)} {g:TG} {tc:TT} {te:TE} (hg:∀v σ H Q,lfG K fg v σ H Q->g v σ H Q) (hc:∀σ H Q,lfT K fc σ H Q->tc σ H Q) (he:∀σ H Q,lfX K R fe σ H Q->te σ H Q):
  ∀σ H Q,lfNX K RL (qty_ fi fg fc fe src) σ H Q->qmg_ (lfI K fi) g tc te src σ H Q:=λσ H Q hh=>ex5 hh λZ F ρ M P ag hf k=>⟨Z,F,ρ,M,_,ag,hf,λJ H1 F1 ds ρ1 M1 s1 ag1 it h1 D0 hD=>by
  -- the new list at D0, the outer state as it was
 obtain ⟨In,i0,step,fin⟩:=h1
 obtain ⟨n1,n2,n3,n4,n5,n6,_⟩:=newN (ds:=[]) (vs:=[]) ag1 hD .nil
 refine ⟨λi m σc Hc=>m=ds.length - i/\i<=ds.length/\∃F' ρc M' out ws,Same F1 F'/\AgM K (Zof F1 M1 H1) F' M' Hc/\Hc D0=some (.lst ws)/\F' D0=none/\M' D0=none/\RL F' out ws/\
   Ag K (Zof F' M' Hc) F' M' Hc ρc σc/\In i out ρc M',⟨_,rfl,Nat.zero_le _,F1,iniR src ρ1,M1,[],[],Same.refl _,?_,n2,n3,n4,rn _,?_,i0⟩,?_⟩
 ·refine ⟨n1.m.sm,λp o h=>?_,n1.m.mo⟩
  obtain ⟨z1,z2,z3⟩:=qeh_ h
  have:p≠D0:=λz=>by rw [z,hD] at z1;cases z1
  exact ⟨by rw [qo_ this];exact z1,z2,z3⟩
 ·exact qu3_ src n1
 rintro i m σ2 H2 ⟨rfl,hi,F2,ρ2,M2,out,ws,s2,m2,d1,d2,d3,r2,ag2,h2⟩
 by_cases hl:i<ds.length
 ·have e:ds[i]?=some ds[i]:=List.getElem?_eq_getElem hl
  refine .inr ⟨it.go i F2 H2 hl s2 ag2.m.sm,λσc Hc=>∃F' ρc M' out ws,Same F1 F'/\AgM K (Zof F1 M1 H1) F' M' Hc/\Hc D0=some (.lst ws)/\F' D0=none/\M' D0=none/\RL F' out ws/\
   Ag K (Zof F' M' Hc) F' M' Hc ρc σc/\In (i+1) out ρc M',λσ' H' q=>⟨ds.length - (i+1),by omega,rfl,hl,q⟩,λx H' y=>?_⟩
  obtain ⟨F3,gw,r3⟩:=it.yld i _ F2 H2 x H' e s2 ag2.m.sm y
  have s3:=gw.same ag2.m.sm
  have zd:Zof F2 M2 H2 D0=some (.lst ws):=qft_ d1 d2 d3
  refine hg _ _ _ _ ⟨Zof F2 M2 H2,F3,ρ2,M2,_,_,gw.ag ag2,r3,step i _ out ρ2 M2 e h2,λσ4 H4 F4 ρ4 M4 s4 ag4 h4=>?_⟩
  refine hc _ _ _ ⟨Zof F2 M2 H2,F4,ρ4,M4,_,ag4,h4,λb H5 F5 ρ5 M5 s5 ag5 h5=>?_⟩
  have s25:=s3.trans (s4.trans s5)
  dsimp only
  cases b with
  |false=>
   rw [if_neg Bool.false_ne_true] at h5 ⊢
   obtain ⟨z1,z2,z3⟩:=ag5.m.zz _ _ zd
   exact ⟨F5,clr ρ5,M5,out,ws,s2.trans s25,m2.back ag5.m,z1,z2,z3,rs s25 r2,qfx_ ag5 ag5.m.inner,h5⟩
  |true=>
   rw [if_pos rfl] at h5 ⊢
   refine he _ _ _ ⟨Zof F2 M2 H2,F5,ρ5,M5,_,ag5,h5,λv H6 F6 d ρ6 M6 s6 ag6 r6 h6=>?_⟩
   obtain ⟨z1,z2,z3⟩:=ag6.m.zz _ _ zd
   have s26:=s25.trans s6
   have m6:=m2.back ag6.m
   have ne:∀{q:Addr} {u:HO},F6 q=some u->q≠D0:=λe z=>by rw [z,z2] at e;cases e
   have nz:Zof F1 M1 H1 D0=none:=by
    cases q:Zof F1 M1 H1 D0 with
    |none=>rfl
    |some o=>have:=(qeh_ q).1;rw [hD] at this;cases this
   have up:∀{Z':Hp},(∀p o,Z' p=some o->p≠D0)->AgM K Z' F6 M6 H6->AgM K Z' F6 M6 (upd H6 D0 (.lst (ws++[v]))):=λ{Z'} hz a=>⟨λq u e=>by rw [qo_ (ne e)];exact a.sm q u e,λq o e=>by
     obtain ⟨y1,y2,y3⟩:=a.zz q o e
     exact ⟨by rw [qo_ (hz q o e)];exact y1,y2,y3⟩,λq o e=>by
     obtain ⟨y1,y2⟩:=a.mo q o e
     have:q≠D0:=λz=>by rw [z,z3] at e;cases e
     exact ⟨y1,y2.same (Same.refl _) (qo_ this)⟩⟩
   have a6:=up (Z':=Zof F1 M1 H1) (λp o e z=>by rw [z,nz] at e;cases e) m6
   refine ⟨ws,z1,by rw [<-rl r2];exact h6.1,F6,clr ρ6,M6,out++[d],ws++[v],s2.trans s26,a6,qt_,z2,z3,rc (rs s26 r2) r6,?_,h6.2⟩
   have b6:Ag K (λ_=>none) F6 M6 H6 (clr ρ6) σ4:=qfx_ ag6 ⟨ag6.m.sm,λp o e=>(nomatch e),ag6.m.mo⟩
   have c6:Ag K (λ_=>none) F6 M6 (upd H6 D0 (.lst (ws++[v]))) (clr ρ6) σ4:=by
    refine ⟨up (λp o e=>(nomatch e)) b6.m,b6.len,λi e h=>?_,b6.di⟩
    have:=b6.en i e h
    cases e with
    |un=>trivial
    |sh d=>exact this
    |rf p=>exact this
    |ut u=>exact this
    |ow ds'=>
     exfalso
     unfold clr at h
     rw [List.getElem?_map] at h
     cases q:ρ6[i]? with
     |none=>rw [q] at h;cases h
     |some en=>rw [q] at h;cases en<;>cases h
   have e6:=qfx_ c6 c6.m.inner
   have ce:clr (clr ρ6)=clr ρ6:=by
    unfold clr
    rw [List.map_map]
    congr 1
    funext en
    cases en<;>rfl
   rw [ce] at e6
   exact e6
 ·have:i=ds.length:=by omega
  subst this
  refine .inl ⟨it.stop F2 H2 s2 ag2.m.sm,?_⟩
  have ag3:=ag1.back s2 m2
  refine k D0 ws H2 F2 out ρ1 M2 (s1.trans s2) ag3 d1 d2 d3 n5 n6 r2 (fin out ρ2 M2 h2)⟩
theorem qi6_ {K:PySem.W.Frag} {fi:WI} {fg:WG} {fc:WT} {fe:WE} {src:List (Option Nat)} {g:TG} {tc:TT} {te:TE} (hg:∀v σ H Q,lfG K fg v σ H Q->g v σ H Q) (hc:∀σ H Q,lfT K fc σ H Q->tc σ H Q) (he:∀σ H Q,lf K fe σ H Q->te σ H Q):
  ∀σ H Q,lfN K (qor_ fi fg fc fe src) σ H Q->qmg_ (lfI K fi) g tc te src σ H Q:=
 qjn_ (R:=Rp K) (RL:=Rps K) (λ_=> .nil) (λs r=>r.same s) (λr=>r.length) (λr q=>r.append (.cons q .nil)) hg hc he
section
variable {X:Cx} {tg elt iter:Expr} {pos:Pos} {fi:WI}
end
end L4
namespace L4
open PySem PySem.Spec PyProof.Rows L2 L3
section
variable {X:Cx} {a b c e tg elt iter:Expr} {es ifs:List Expr} {pos cpos pos' p2:Pos} {fa fb fe:WE} {fl:WA} {fn fm:WN} {fi:WI} {fg:WG} {fc:WT} {scope:Scope} {N:List Str} {src:List (Option Nat)} {x:Str} {k:Nat}
structure JC (X:Cx) (ifs:List Expr) (f:WT):Prop where
 h:PIfs X ifs (lfT X.K f)
theorem imC {t t':TT} (h:PIfs X ifs t) (k:∀σ H Q,t' σ H Q->t σ H Q):PIfs X ifs t':=λpins s σ H Q I q=>h pins s σ H Q I (k σ H Q q)
theorem q4_:JC X [] wYes:=⟨imC qq2_ qr0_⟩
theorem qfz_ (h:JT X c fc):JC X [c] fc:=⟨qpt_ h.h⟩
theorem qc7_ (N:List Str) (src:List (Option Nat)) (ok:CompOk X scope N src) (hcalm:X.calm=true) (hi:JI X tg iter fi)
  (hg:∀pins s2 H2 C fp,JG (q0_ X pins s2 H2 N scope C fp) tg fg) (hc:∀pins s2 H2 C fp,JC (q0_ X pins s2 H2 N scope C fp) ifs fc) (he:∀pins s2 H2 C fp,JE (q0_ X pins s2 H2 N scope C fp) elt fe)
  (hs:∀x,foldedSetIterable iter X.env x=pure x:=by intro _;rfl):JN X (.ListComp elt [⟨tg,iter,ifs,0⟩] scope pos) (qor_ fi fg fc fe src):=
 ⟨imE (ql3_ N src ok hcalm hi.h (λa b c d e=>(hg a b c d e).h) (λa b c d e=>(hc a b c d e).h) (λa b c d e=>(he a b c d e).h) hs) (qi6_ (λ_ _ _ _ h=>h) (λ_ _ _ h=>h) λ_ _ _ h=>h)⟩
theorem qc8_ (hN:X.N.Nodup) (hk:X.N[k]?=some x) (hx:Loc X.env.scope x) (N:List Str) (src:List (Option Nat)) (ok:CompOk X scope N src) (hcalm:X.calm=true) (hi:JI X tg iter fi)
  (hg:∀pins s2 H2 C fp,JG (q0_ X pins s2 H2 N scope C fp) tg fg) (hc:∀pins s2 H2 C fp,JC (q0_ X pins s2 H2 N scope C fp) ifs fc) (he:∀pins s2 H2 C fp,JE (q0_ X pins s2 H2 N scope C fp) elt fe)
  (hsw:swapsWith (.ListComp elt [⟨tg,iter,ifs,0⟩] scope cpos) (some (.Name x pos')) pos.line X.env=pure true:=by rfl)
  (hs:∀x,foldedSetIterable iter X.env x=pure x:=by intro _;rfl) (hfn:X.fn x=true\/X.env.scope.names.lookup x=some .local:=by first|exact .inl rfl|exact .inr rfl|assumption):
  JS X (.Assign [.Name x pos'] (.ListComp elt [⟨tg,iter,ifs,0⟩] scope cpos) pos) (qs5_ k (qor_ fi fg fc fe src)):=
 ⟨imS (qgj_ hN hk hx N src ok hcalm hi.h (λa b c d e=>(hg a b c d e).h) (λa b c d e=>(hc a b c d e).h) (λa b c d e=>(he a b c d e).h) hsw hs hfn) λD' σ H hh=>ex5 hh λZ F ρ M E ag hf k=>
  qi6_ (λ_ _ _ _ h=>h) (λ_ _ _ h=>h) (λ_ _ _ h=>h) σ H _ ⟨Z,F,ρ,M,_,ag,hf,λp vs H' F' ds ρ' M' s' ag' n2 n3 n4 nz n5 r h=>k.nx _ H' F' _ M' s' (ag'.setO n2 n3 n4 nz r n5) h⟩⟩
def qvr_ (fl:WA):WN:=λρ M P=>fl ρ M λds ρ1 M1=>match ds with
 |[.lst xs]=>P xs ρ1 M1
 |[.tup xs]=>P xs ρ1 M1
 |_=>False
theorem qbd_ {p:Pos} (hg:Gl X "list") (hm:X.mg "list"=none) (ha:JA X [a] fl) (he:starEach [a] X.env=[(false,eval a X.env)]:=by rfl):JN X (.Call (.Name "list" p) [a] [] pos) (qvr_ fl):=⟨imE (qhm_ qhz_ hg hm boot_list ha.h (by decide) (by decide) he rfl) λσ H Q hh=>ex5 hh λZ F ρ M P ag hf k=>⟨Z,F,ρ,M,_,ag,hf,λvs H1 F1 ds ρ1 M1 s1 ag1 r1 h1=>by
 split at h1
 ·obtain ⟨v,rfl,rv⟩:=rps1 r1
  rw [Rp] at rv
  obtain ⟨q,ws,rfl,g1,g2⟩:=rv
  refine ⟨q,ws,rfl,.inl (.inl (ql_ ag1.m.sm g1)),λp hp=>?_⟩
  obtain ⟨n1,n2,n3,n4,nz,n5,n6⟩:=newN ag1 hp g2
  exact k p ws _ F1 _ ρ1 M1 s1 n1 n2 n3 n4 nz n5 n6 h1
 ·obtain ⟨v,rfl,rv⟩:=rps1 r1
  rw [Rp] at rv
  obtain ⟨q,ws,rfl,g1,g2⟩:=rv
  refine ⟨q,ws,rfl,.inr (qbb_ ag1.m.sm g1),λp hp=>?_⟩
  obtain ⟨n1,n2,n3,n4,nz,n5,n6⟩:=newN ag1 hp g2
  exact k p ws _ F1 _ ρ1 M1 s1 n1 n2 n3 n4 nz n5 n6 h1
 ·exact h1.elim⟩⟩
def qv6_:R2:=λx y H Q=>∃l b xs zs,x= .ref l/\y= .ref b/\Rd H l (.lst xs)/\Rd H b (.lst zs)/\xs.length+zs.length<=sizeLine/\∀p,H p=none->Q (.ref p) (upd H p (.lst (xs++zs)))
theorem qqy_:OpR X (binaryOp .Add) qv6_:=by
 intro pins s σ H x y v u Q I rx ry h
 obtain ⟨l,b,xs,zs,rfl,rfl,hH,hB,hz,q⟩:=h
 cases rx
 cases ry
 obtain ⟨z,its,n,r,e⟩:=hH.ok I.hok
 obtain ⟨z2,its2,n2,r2,e2⟩:=hB.ok I.hok
 have hl:=r.length
 have hl2:=r2.length
 refine PySem.P.add_list e e2 ?_ (by rw [List.size_toArray,List.size_toArray];omega)
 have ea:its.toArray++its2.toArray=(its++its2).toArray:=by simp
 rw [ea]
 exact ⟨.ref _,_,I.lnew (t':=s.toks) (r.append r2) (by rw [List.length_append];omega),rfl,q _ I.fresh⟩
def wCat (fa fb:WE):WN:=λρ M P=>fa ρ M λx ρ1 M1=>fb ρ1 M1 λy ρ2 M2=>match x,y with
 | .lst xs,.lst ys=>xs.length+ys.length<=sizeLine/\P (xs++ys) ρ2 M2
 |_,_=>False
theorem qdk_ (ha:JE X a fa) (hb:JE X b fb):JN X (.BinOp a .Add b pos) (wCat fa fb):=⟨imE (qse_ qqy_ ha.h hb.h) λσ H Q hh=>ex5 hh λZ F ρ M P ag hf k=>⟨Z,F,ρ,M,_,ag,hf,λv H1 F1 d ρ1 M1 s1 ag1 r1 h1=>⟨Z,F1,ρ1,M1,_,ag1,h1,λu H2 F2 d2 ρ2 M2 s2 ag2 r2 h2=>by
 split at h2
 ·rename_i xs ys
  have r1:=r1.same s2
  rw [Rp] at r1 r2
  obtain ⟨q,ws,rfl,g1,g2⟩:=r1
  obtain ⟨q',us,rfl,g3,g4⟩:=r2
  refine ⟨q,q',ws,us,rfl,rfl,ql_ ag2.m.sm g1,ql_ ag2.m.sm g3,by rw [<-g2.length,<-g4.length];exact h2.1,λp hp=>?_⟩
  obtain ⟨n1,n2,n3,n4,nz,n5,n6⟩:=newN ag2 hp (g2.append g4)
  exact k p _ _ F2 _ ρ2 M2 (s1.trans s2) n1 n2 n3 n4 nz n5 n6 h2.2
 ·exact h2.elim⟩⟩⟩
abbrev WO:=Rho->Mm->(Option Int->Rho->Mm->Prop)->Prop
def lfO (K:PySem.W.Frag) (f:WO):TO:=λσ H Q=>∃Z F ρ M P,Ag K Z F M H ρ σ/\f ρ M P/\∀o H' F' ρ' M',Same F F'->Ag K Z F' M' H' ρ' σ->P o ρ' M'->Q o H'
structure JO (X:Cx) (e:Option Expr) (f:WO):Prop where
 h:PO X e (lfO X.K f)
def wO0:WO:=λρ M P=>P none ρ M
def wO1 (f:WE):WO:=λρ M P=>f ρ M λd ρ1 M1=>match d with
 | .int i=>P (some i) ρ1 M1
 |_=>False
theorem imO {e:Option Expr} {t t':TO} (h:PO X e t) (k:∀σ H Q,t' σ H Q->t σ H Q):PO X e t':=λpins s σ H Q I q=>h pins s σ H Q I (k σ H Q q)
theorem qie_:JO X none wO0:=⟨imO qqf_ λσ H Q hh=>ex5 hh λZ F ρ M P ag hf k=>k none H F ρ M (Same.refl _) ag hf⟩
theorem qfj_ (h:JE X e fe):JO X (some e) (wO1 fe):=⟨imO (qp6_ h.h) λσ H Q hh=>ex5 hh λZ F ρ M P ag hf k=>⟨Z,F,ρ,M,_,ag,hf,λv H1 F1 d ρ1 M1 s1 ag1 r1 h1=>by
 split at h1
 ·rw [Rp] at r1
  exact ⟨_,r1,k _ H1 F1 ρ1 M1 s1 ag1 h1⟩
 ·exact h1.elim⟩⟩
theorem Rps.cut {K:PySem.W.Frag} {F:Hp} {ds:List D} {vs:List V} (lo hi:Option Int) (h:Rps K F ds vs):Rps K F (L3.cutD ds lo hi) (cutV vs lo hi):=by
 unfold L3.cutD cutV
 rw [h.length]
 exact (h.drop _).take _
def wSl (fa:WE) (fl fh:WO):WN:=λρ M P=>fa ρ M λx ρ1 M1=>fl ρ1 M1 λlo ρ2 M2=>fh ρ2 M2 λhi ρ3 M3=>match x with
 | .lst xs=>P (L3.cutD xs lo hi) ρ3 M3
 |_=>False
theorem qoz_ {lo hi:Option Expr} {fl fh:WO} (ha:JE X a fa) (hl:JO X lo fl) (hh:JO X hi fh):JN X (.Subscript a (.Slice lo hi none p2) pos) (wSl fa fl fh):=⟨imE (qox_ qrj_ ha.h hl.h hh.h) λσ H Q hh=>ex5 hh λZ F ρ M P ag hf k=>⟨Z,F,ρ,M,_,ag,hf,λv H1 F1 d ρ1 M1 s1 ag1 r1 h1=>⟨Z,F1,ρ1,M1,_,ag1,h1,λlo H2 F2 ρ2 M2 s2 ag2 h2=>⟨Z,F2,ρ2,M2,_,ag2,h2,λhi H3 F3 ρ3 M3 s3 ag3 h3=>by
 split at h3
 ·rename_i xs
  have r1:=(r1.same s2).same s3
  rw [Rp] at r1
  obtain ⟨q,ws,rfl,g1,g2⟩:=r1
  refine ⟨q,ws,rfl,.inl (ql_ ag3.m.sm g1),λp hp=>?_⟩
  obtain ⟨n1,n2,n3,n4,nz,n5,n6⟩:=newN ag3 hp (g2.cut lo hi)
  exact k p _ _ F3 _ ρ3 M3 (s1.trans (s2.trans s3)) n1 n2 n3 n4 nz n5 n6 h3
 ·exact h3.elim⟩⟩⟩⟩
end
def Sub (M' M:Mm):Prop:=∀p o,M' p=some o->M p=some o
theorem AgM.sub {K:PySem.W.Frag} {Z F H:Hp} {M M':Mm} (a:AgM K Z F M H) (s:Sub M' M):AgM K Z F M' H:=⟨a.sm,λp o h=>by
 obtain ⟨z1,z2,z3⟩:=a.zz p o h
 refine ⟨z1,z2,?_⟩
 cases q:M' p with
 |none=>rfl
 |some o=>exact absurd ((s p o q).symm.trans z3) (by simp),λp o h=>a.mo p o (s p o h)⟩
def qdm_ (N:List Str) (ds:List D):Rho:=ds.map Ent.sh++List.replicate (N.length - ds.length) .un
def rtD (q:D->Mm->Prop):U->Mm->Prop:=λu M=>match u with
 | .d d=>q d M
 |_=>False
def endR (P:D->Mm->Prop):WEnds:=⟨λ_ M'=>∃M'',Sub M'' M'/\P .non M'',rtD λd M'=>∃M'',Sub M'' M'/\P d M'',λ_ _=>False,λ_ _=>False⟩
theorem qju_ {K:PySem.W.Frag} {F:Hp} {q:D->Mm->Prop} {u:U} {v:V} {M:Mm} (h:rtD q u M) (r:RU K F u v):∃d,Rp K F d v/\q d M:=by
 cases u with
 |d x=>rw [RU] at r;exact ⟨x,r,h⟩
 |adr p=>exact h.elim
 |ins C ns ds=>exact h.elim
 |tup us=>exact h.elim
theorem qg8_ {K:PySem.W.Frag} {Z F H:Hp} {M:Mm} {ds:List D} {vs:List V} (N:List Str) (m:AgM K Z F M H) (r:Rps K F ds vs):Ag K Z F M H (qdm_ N ds) (L2.start N vs):=by
 have hl:=r.length
 refine ⟨m,by unfold qdm_ L2.start;simp [hl],λi e h=>?_,λi j es fs p n h1 _ _=>?_⟩
 ·unfold qdm_ at h
  by_cases hi:i<ds.length
  ·rw [List.getElem?_append_left (by simpa using hi),List.getElem?_map] at h
   rw [List.getElem?_eq_getElem hi] at h
   cases h
   obtain ⟨v,h1,h2⟩:=r.get (List.getElem?_eq_getElem hi)
   refine ⟨v,?_,h2⟩
   unfold L2.start
   rw [List.getElem?_append_left (by simpa [<-hl] using hi),List.getElem?_map,h1]
   rfl
  ·rw [List.getElem?_append_right (by simpa using hi),List.getElem?_replicate] at h
   split at h
   ·cases h;trivial
   ·cases h
 ·unfold qdm_ at h1
  by_cases hi:i<ds.length
  ·rw [List.getElem?_append_left (by simpa using hi),List.getElem?_map,List.getElem?_eq_getElem hi] at h1
   cases h1
  ·rw [List.getElem?_append_right (by simpa using hi),List.getElem?_replicate] at h1
   split at h1<;>cases h1
theorem _root_.L3.Def.hasW {P:Program} {w:World} {K:PySem.W.Frag} {mg:Str->Option Value} {base:Heap} {k:Nat} {x:Str} {st:Stmt} {N ps:List Str} {g:WF} (F:Def K mg x st ps) (sc:FnScope N ps (qe_ st)) (len:∀ds M P,g ds M P->ds.length=ps.length)
  (hbody:∀(f:Addr) (cdv:Value) (A:Around) (outer:List Env) (s:Shared) (H:Hp) (E:XK),Room k (A.deeper (envOfC x (qe_ st) s.heap.objs.size f cdv))->
   ∃G,JSs (cxOf CX0 P w K mg base N x (qe_ st) f cdv A outer s H E).nox (q8_ st) G/\∀ds M Q,g ds M Q->G (endR Q) (qdm_ N ds) M):Has P w K mg base CX0 (k+1) x ps (spW K g):=by
 refine F.has sc (λvs H Q E h=>?_) λf cdv A outer s H vs Q E hr h=>?_
 ·obtain ⟨Z,F',M,ds,P,m,r,hg,_⟩:=h
  rw [<-r.length]
  exact len ds M P hg
 ·obtain ⟨Z,F',M,ds,P',m,r,hg,kk⟩:=h
  obtain ⟨G,hG,hh⟩:=hbody f cdv A outer s H E hr
  refine ⟨_,hG.h,Z,F',qdm_ N ds,M,endR P',qg8_ N m r,hh ds M P' hg,⟨λσ' H' F2 ρ' M' s' ag' ⟨M2,hs,q⟩=>kk _ H' F2 _ M2 s' (ag'.m.sub hs) (by rw [Rp]) q,λ_ _ _ _ _ _ _ q=>q.elim,λ_ _ _ _ _ _ _ q=>q.elim,λv H' F2 u M' s' m' r' q=>by
   obtain ⟨d,r',M2,hs,q⟩:=qju_ (q:=λd M'=>∃M'',Sub M'' M'/\P' d M'') q r'
   exact kk v H' F2 d M2 s' (m'.sub hs) r' q⟩⟩
def pur (g:List D->(D->Prop)->Prop):WF:=λds M P=>g ds λd=>P d M
theorem Sub.refl (M:Mm):Sub M M:=λ_ _ h=>h
theorem _root_.L3.Def.hasP {P:Program} {w:World} {K:PySem.W.Frag} {mg:Str->Option Value} {base:Heap} {k:Nat} {x:Str} {st:Stmt} {N ps:List Str} {g:List D->(D->Prop)->Prop} (F:Def K mg x st ps) (sc:FnScope N ps (qe_ st)) (len:∀ds P,g ds P->ds.length=ps.length)
  (hbody:∀(f:Addr) (cdv:Value) (A:Around) (outer:List Env) (s:Shared) (H:Hp) (E:XK),Room k (A.deeper (envOfC x (qe_ st) s.heap.objs.size f cdv))->
   ∃G,JSs (cxOf CX0 P w K mg base N x (qe_ st) f cdv A outer s H E).nox (q8_ st) G/\∀ds M Q,g ds (λd=>Q d M)->G (endR Q) (qdm_ N ds) M):Has P w K mg base CX0 (k+1) x ps (spW K (pur g)):=
 F.hasW sc (λds M P h=>len ds _ h) hbody
end L4
namespace L4
open PySem PySem.Spec PyProof.Rows L2 L3
section
variable {X:Cx} {a b c e o:Expr} {es:List Expr} {pos cpos apos np p:Pos} {fa fb fe fk:WE} {fl:WA} {x:Str}
def wAtV (i:Nat) (fk:WE):WE:=λρ M P=>match ρ[i]? with
 |some (.ow _)=>wAtO i fk ρ M P
 |some (.sh d)=>fk ρ M λk ρ1 M1=>RIx d k λz=>P z ρ1 M1
 |_=>False
theorem qh_ (i:Nat) (hk:JE X b fk) (hN:X.N[i]?=some x:=by rfl) (hv:Vis X.env.scope x:=by first|exact Or.inl rfl|exact Or.inr (Or.inl rfl)|exact Or.inr (Or.inr rfl)) (hs:qfu_ b:=by intro _ _;rfl) (hd:(x==("__debug__":Str))=false:=by decide) (hcd:(x==("__classdict__":Str))=false:=by decide):
  JE X (.Subscript (.Name x np) b pos) (wAtV i fk):=by
 have h1:=qvm_ (fk:=fk) (qoc_ (pos:=pos) qjq_ (L2.pv (pos:=np) i hN hv hd hcd) hk.h hs)
 have h2:=j_at (pos:=pos) (jv (pos:=np) i hN hv hd hcd) hk hs
 refine ⟨imE (qoc_ (pos:=pos) qjq_ (L2.pv (pos:=np) i hN hv hd hcd) hk.h hs) λσ H Q hh=>ex5 hh λZ F ρ M P ag hf k=>?_⟩
 unfold wAtV at hf
 split at hf
 ·obtain ⟨ho,hf⟩:=hf
  obtain ⟨ds0,ho⟩:=qeu_ ho
  obtain ⟨q,vs,e1,e2,e3,e4,e5,e6⟩:=qci_ ag ho
  refine ⟨.ref q,e1,Z,F,ρ,M,_,ag,hf,λu H2 F2 dk ρ2 M2 s2 ag2 r2 h2=>?_⟩
  split at h2
  ·rename_i ds j hd
   rw [Rp] at r2
   split at h2
   ·rename_i d hn
    obtain ⟨q',us,g1,g2,g3,g4,g5,g6⟩:=qci_ ag2 hd
    rw [e1] at g1
    cases g1
    obtain ⟨w,a1,a2⟩:=qjw_ g6 hn
    exact .inl ⟨q,us,j,w,rfl,r2,SqL.of g2,a1,k w H2 F2 d ρ2 M2 s2 ag2 a2 h2⟩
   ·exact h2.elim
  ·exact h2.elim
 ·rename_i d hd
  obtain ⟨v,g1,g2⟩:=ag.en i _ hd
  have g1':σ[i]?=some (some v):=by
   cases q:σ[i]? with
   |none=>rw [q] at g1;cases g1
   |some o=>rw [q] at g1;simp at g1;rw [g1]
  refine ⟨v,g1',Z,F,ρ,M,_,ag,hf,λu H2 F2 dk ρ2 M2 s2 ag2 r2 h2=>?_⟩
  exact w_ix d dk v u F2 H2 Q _ ag2.m.sm (g2.same s2) r2 h2 λz w F' H' g rp hp=>k w H' F' z ρ2 M2 (s2.trans (g.same ag2.m.sm)) (g.ag ag2) rp hp
 ·exact hf.elim
def qus_ (i:Nat):WE:=λρ M P=>match ρ[i]? with
 |some (.ow ds)=>P (.int ds.length) ρ M
 |some (.sh (.lst ds))=>P (.int ds.length) ρ M
 |some (.sh (.tup ds))=>P (.int ds.length) ρ M
 |_=>False
theorem qcu_ (i:Nat) (hg:Gl X "len") (hm:X.mg "len"=none) (hN:X.N[i]?=some x:=by rfl) (hv:Vis X.env.scope x:=by first|exact Or.inl rfl|exact Or.inr (Or.inl rfl)|exact Or.inr (Or.inr rfl)) (hd:(x==("__debug__":Str))=false:=by decide) (hcd:(x==("__classdict__":Str))=false:=by decide)
  (he:starEach [.Name x np] X.env=[(false,eval (.Name x np) X.env)]:=by rfl):JE X (.Call (.Name "len" p) [.Name x np] [] pos) (qus_ i):=by
 refine ⟨imE (qfb_ (pos:=pos) (p:=p) qdn_ hg hm boot_len (qc5_ (L2.pv (pos:=np) i hN hv hd hcd) qfp_ he) (by decide) (by decide) he rfl) λσ H Q hh=>ex5 hh λZ F ρ M P ag hf k=>?_⟩
 have sl:∀{v:V},(σ[i]?).join=some v->σ[i]?=some (some v):=λ{v} g1=>by
  cases q:σ[i]? with
  |none=>rw [q] at g1;cases g1
  |some o=>rw [q] at g1;simp at g1;rw [g1]
 unfold qus_ at hf
 split at hf
 ·rename_i ds hd
  obtain ⟨q,vs,e1,e2,e3,e4,e5,e6⟩:=qci_ ag hd
  refine ⟨.ref q,e1,q,vs,rfl,.inl (SqL.of e2),k _ H F _ ρ M (Same.refl _) ag ?_ hf⟩
  rw [Rp,e6.length]
 ·rename_i ds hd
  obtain ⟨v,g1,g2⟩:=ag.en i _ hd
  rw [Rp] at g2
  obtain ⟨q,vs,rfl,g2,g3⟩:=g2
  refine ⟨.ref q,sl g1,q,vs,rfl,.inl (.inl (ql_ ag.m.sm g2)),k _ H F _ ρ M (Same.refl _) ag ?_ hf⟩
  rw [Rp,g3.length]
 ·rename_i ds hd
  obtain ⟨v,g1,g2⟩:=ag.en i _ hd
  rw [Rp] at g2
  obtain ⟨q,vs,rfl,g2,g3⟩:=g2
  refine ⟨.ref q,sl g1,q,vs,rfl,.inr (qbb_ ag.m.sm g2),k _ H F _ ρ M (Same.refl _) ag ?_ hf⟩
  rw [Rp,g3.length]
 ·exact hf.elim
theorem qkk_ (hg:Gl X "len") (hm:X.mg "len"=none) (ha:JA X [a] fl) (he:starEach [a] X.env=[(false,eval a X.env)]:=by rfl):JE X (.Call (.Name "len" p) [a] [] pos) (qgi_ RLen fl):=qf3_ qdn_ qv7_ hg hm boot_len ha (by decide) (by decide) he rfl
theorem qsr_ (hg:Gl X "abs") (hm:X.mg "abs"=none) (ha:JA X [a] fl) (he:starEach [a] X.env=[(false,eval a X.env)]:=by rfl):JE X (.Call (.Name "abs" p) [a] [] pos) (qgi_ RAbs fl):=qf3_ qni_ qwg_ hg hm boot_abs ha (by decide) (by decide) he rfl
theorem qh0_ (hg:Gl X "int") (hm:X.mg "int"=none) (ha:JA X [a] fl) (he:starEach [a] X.env=[(false,eval a X.env)]:=by rfl):JE X (.Call (.Name "int" p) [a] [] pos) (qgi_ RInt fl):=qj4_ ql0_ qwi_ hg hm boot_int ha (by decide) (by decide) he rfl
theorem qvk_ {T:String} {y:Str} (t:D->Bool) (hk:∀d,PySem.W.kitOne X.K (.type (tyN d)) (.type T)=some (t d)) (hg:Gl X "isinstance") (hm:X.mg "isinstance"=none) (hgT:Gl X y) (hmT:X.mg y=none) (hb:bootBuiltins y=some (.type T)) (ha:JE X a fa) (hn:y≠"__name__":=by decide) (hdb:(y==("__debug__":Str))=false:=by decide)
  (he:starEach [a,.Name y np] X.env=[(false,eval a X.env),(false,eval (.Name y np) X.env)]:=by rfl) (he2:starEach [.Name y np] X.env=[(false,eval (.Name y np) X.env)]:=by rfl):JE X (.Call (.Name "isinstance" p) [a,.Name y np] [] pos) (wIs t fa):=
 j_is (n:=T) hk (λ{ta} hta=>qfb_ (pos:=pos) (p:=p) qn9_ hg hm boot_isinstance (qc5_ hta (qc5_ (qq8_ (v:= .ty T) hgT hmT hb rfl hn hdb) qfp_ he2) (by rw [he,he2])) (by decide) (by decide) (by rw [he,he2]) (by rw [he2];rfl)) ha
theorem qlo_ (i:Nat) (he:JE X e fe) (hN:X.N[i]?=some x:=by rfl) (hv:Vis X.env.scope x:=by first|exact Or.inl rfl|exact Or.inr (Or.inl rfl)|exact Or.inr (Or.inr rfl)) (hd:(x==("__debug__":Str))=false:=by decide) (hcd:(x==("__classdict__":Str))=false:=by decide)
  (hbase:attributeBase (.Name x np) "append" X.env (eval (.Name x np) X.env)=eval (.Name x np) X.env:=by rfl)
  (hfew:((backTo cpos (starEach [e] X.env)).all (λx=> !x.1)&&(backToKw cpos (keywordEach [] X.env)).all (λx=>x.1.isSome)&&decide ([e].length+([]:List Keyword).length+(if ([]:List Keyword).isEmpty then 0 else 1)<30))=true:=by rfl)
  (hline:(apos.endLine==cpos.line)=true:=by rfl) (hs:starEach [e] X.env=[(false,eval e X.env)]:=by rfl) (hplain:(backTo cpos (starEach [] X.env)).any (·.1)=false:=by rfl)
  (hsw:swapsWith (.Call (.Attribute (.Name x np) "append" apos) [e] [] cpos) none pos.line X.env=pure false:=by rfl):JS X (.Expr (.Call (.Attribute (.Name x np) "append" apos) [e] [] cpos) pos) (wApp i fe):=
 qu4_ (qey_ (qon_ PySem.F.plainAttrs_list PySem.F.slot_list_append PySem.F.type_list_append qfm_ (L2.pv i hN hv hd hcd) (qa_ he qb_ hs).h hbase hfew hline hs hplain) hsw)
theorem qen_ (i:Nat) {k:Expr} {spos:Pos} (he:JE X e fe) (hk:JE X k fk) (hN:X.N[i]?=some x:=by rfl) (hv:Vis X.env.scope x:=by first|exact Or.inl rfl|exact Or.inr (Or.inl rfl)|exact Or.inr (Or.inr rfl)) (hd:(x==("__debug__":Str))=false:=by decide) (hcd:(x==("__classdict__":Str))=false:=by decide)
  (ha:∀v,assign (.Subscript (.Name x np) k spos) X.env v=(do
   let ov <-holding [v] (eval (.Name x np) X.env)
   let iv <-holding [v,ov] (eval k X.env)
   standAt spos
   holding [v,ov,iv] (setItem ov iv v)
   release [v,ov,iv] []):=by intro _;rfl)
  (hs:swapsWithSole [.Subscript (.Name x np) k spos] e pos.line X.env=pure false:=by rfl) (hw:swappedStores [.Subscript (.Name x np) k spos] e X.env=pure none:=by rfl) (h1:(assignEach [.Subscript (.Name x np) k spos] X.env).map (·.2)=[assign (.Subscript (.Name x np) k spos) X.env]:=by rfl):
  JS X (.Assign [.Subscript (.Name x np) k spos] e pos) (qpk_ i fk fe):=qnn_ (qme_ he.h (qpo_ (L2.pv i hN hv hd hcd) hk.h qjx_ ha) hs hw h1)
structure Cst (K:PySem.W.Frag) (mg:Str->Option Value) (x:Str) (d:D):Prop where
 ex:∃v u,mg x=some u/\RelV v u/\∀F,Rp K F d v
theorem qbr_ {d:D} (C:Cst X.K X.mg x d) (hg:Gl X x) (hd:(x==("__debug__":Str))=false:=by decide):JE X (.Name x pos) (wC d):=by
 obtain ⟨v,u,h1,h2,h3⟩:=C.ex
 exact qf9_ (qrc_ hg h1 h2 hd) h3
end
end L4
namespace L4
open PySem PySem.Spec PyProof.Rows L2 L3
def Ite (K:PySem.W.Frag) (a:Addr):It:=
 ⟨λi H=>∃xs x,SqL K H a xs/\xs[i]?=some x,λi H v H'=>∃p x,v= .ref p/\H p=none/\H'=upd H p (.tup [.int i,x])/\∀xs,SqL K H a xs->xs[i]?=some x,λi H=>∃xs,SqL K H a xs/\xs.length<=i⟩
def EnSt (a e it:Addr) (i:Nat) (h:Heap):Prop:=(∃old,IsEnum h e it i old)/\h.IsListIter it a i
theorem qla_ {P:Program} {w:World} {K:PySem.W.Frag} {elts:List Expr} {k:Nat} {pos:Pos} {a e it:Addr} (hne:e≠it):Turn P w K (.Tuple elts k pos) (Ite K a) [e,it] e (EnSt a e it) where
 mem:=by simp
 obj:=λi h st b' hb=>by
  obtain ⟨⟨old,h1⟩,h2⟩:=st
  simp only [List.mem_cons,List.not_mem_nil,or_false] at hb
  rcases hb with rfl|rfl
  ·exact ⟨_,h1,λv z=>by cases z⟩
  ·obtain ⟨o,q,c,d⟩:=h2
   exact ⟨o,q,λv z=>by rw [d] at z;cases z⟩
 keep:=λi h h' st kp=>by
  obtain ⟨⟨old,h1⟩,h2⟩:=st
  exact ⟨⟨old,kp e (by simp) _ h1⟩,h2.at λo q=>kp it (by simp) o q⟩
 item:=by
  intro X hP hw hK hc i pins s σ H E I hf st hg
  subst hP hw hK
  obtain ⟨xs,x,hqa,hx⟩:=hg
  obtain ⟨ia,ra,pa,za⟩:=I.list hqa
  obtain ⟨u,hu,ru⟩:=ra.get hx
  obtain ⟨⟨old,h1⟩,h2⟩:=st
  have h20:=h2
  obtain ⟨o2,e2,_⟩:=h20
  refine wpAny_pyNext_enum_item h1 h2 pa.isList (x:=u) (by simpa using hu) hne λh' g1 g2 g3 g4 g5=>?_
  refine ⟨_,rfl,wpAny_letOwnedTupleGo_enum g1 λh'' k1 k2=>?_⟩
  have nz:s.heap.objs.size≠e:=λz=>Nat.lt_irrefl _ (by have:=Heap.lt_size h1;rw [<-z] at this;exact this)
  have kA:∀b o,b∉[e,it]->s.heap.get? b=some o->h''.get? b=some o:=λb o hb q=>by
   simp only [List.mem_cons,List.not_mem_nil,or_false,not_or] at hb
   exact k2.extBut b o hb.1 (g5 b o hb.1 hb.2 q)
  have I2:Inv X pins σ (upd H s.heap.objs.size (.tup [.int i,x])) {s with heap:=h'',toks:=s.toks+1}:=
   ql7_ (t':=s.toks+1) (xs:=[.int i,x]) (us:=[.int i s.toks,u]) I kA hf (Nat.le_refl _) (by show 2<=sizeLine;decide) (.cons ⟨_,rfl⟩ (.cons ru .nil)) ⟨_,k2.extBut _ _ nz g3,rfl,_,rfl⟩
  refine ⟨.ref s.heap.objs.size,_,I2,rfl,⟨_,x,rfl,I.fresh,rfl,λzs hz=>by rw [I.list_inj hz hqa];exact hx⟩,⟨⟨_,by simpa using k1⟩,g2.at λo q=>k2.extBut _ o (Ne.symm hne) q⟩,λb hb=>?_⟩
  rw [qo_]
  ·exact (hf b hb).1
  ·intro z
   simp only [List.mem_cons,List.not_mem_nil,or_false] at hb
   rcases hb with rfl|rfl
   ·exact nz z.symm
   ·exact Nat.ne_of_lt (Heap.lt_size e2) z
 done:=by
  intro X hP hw hK hc i pins s σ H E I hf st hg
  subst hP hw hK
  obtain ⟨xs,hqa,hend⟩:=hg
  obtain ⟨ia,ra,pa,za⟩:=I.list hqa
  obtain ⟨⟨old,h1⟩,h2⟩:=st
  have la:=ra.length
  refine wpAny_pyNext_enum_end (I.ok.hd hc) h1 h2 pa.isList (by simp;omega) λh' kk=>⟨rfl,qkv_ (t':=s.toks) I (λb o hb q=>?_) hf⟩
  simp only [List.mem_cons,List.not_mem_nil,or_false,not_or] at hb
  exact kk b o hb.2 q
 self:=λ_ _ _ _ _ st h=>by
  obtain ⟨⟨old,h1⟩,_⟩:=st
  exact wpAny_pyIter_enum h1 h
theorem qgd_:bootBuiltins "enumerate"=some (.type "enumerate"):=by decide+kernel
section
variable {X:Cx} {a:Expr} {ta:TA} {p pos tpos:Pos} {elts:List Expr} {k:Nat} {fl:WA}
def iEnu (K:PySem.W.Frag) (ta:TA):TI:=λσ H R=>ta σ H λvs H1=>∃a,vs=[.ref a]/\(∃xs,SqL K H1 a xs)/\R (Ite K a) H1
theorem qud_ (hg:Gl X "enumerate") (hm:X.mg "enumerate"=none) (ha:PA X [a] ta) (hs:starEach [a] X.env=[(false,eval a X.env)]:=by rfl):PI X (.Tuple elts k tpos) (.Call (.Name "enumerate" p) [a] [] pos) (iEnu X.K ta):=by
 intro pins s σ H R I h
 refine Call_ (qde_ I hg hm qgd_ (PyProof.Rows.callWith_type1 (thn (ha pos pins s σ H _ I h) λus s1 ⟨vs,H1,I1,r1,q1⟩=>?_) hs rfl))
 obtain ⟨a,rfl,⟨xs,hqa⟩,q⟩:=q1
 obtain ⟨u,rfl,ru⟩:=qgw_ r1
 cases ru
 obtain ⟨ia,ra,pa,za⟩:=I1.list hqa
 refine call_enumerate_list pa.isList λh' he hi hz hk=>?_
 refine wpAny_pyIter_enum (s:={s1 with heap:=h'}) he ⟨_,_,_,_,H1,rfl,I1.kept (t':=s1.toks) hk,qla_ (Nat.succ_ne_self _),⟨⟨_,he⟩,hi⟩,λc hc=>?_,q⟩
 have hle:s1.heap.objs.size<=c:=by
  simp only [List.mem_cons,List.not_mem_nil,or_false] at hc
  rcases hc with rfl|rfl
  ·exact Nat.le_add_right _ 1
  ·exact Nat.le_refl _
 exact I1.fpOk hle (I1.hok.fresh hle)
def enuD (n:Nat):List D->List D
 |[]=>[]
 |d::ds=> .tup [.int n,d]::enuD (n+1) ds
theorem qem_:∀(n:Nat) (ds:List D),(enuD n ds).length=ds.length
 |_,[]=>rfl
 |n,d::ds=>by rw [enuD,List.length_cons,qem_,List.length_cons]
theorem qfa_:∀{n:Nat} {ds:List D} {i:Nat} {d:D},(enuD n ds)[i]?=some d->∃x,ds[i]?=some x/\d= .tup [.int ((n+i:Nat):Int),x]
 |_,[],_,_,h=>by simp [enuD] at h
 |n,d::ds,0,e,h=>by simp [enuD] at h;exact ⟨d,rfl,h.symm⟩
 |n,d::ds,i+1,e,h=>by
  rw [enuD,List.getElem?_cons_succ] at h
  obtain ⟨x,h1,h2⟩:=qfa_ h
  refine ⟨x,by simpa using h1,?_⟩
  rw [h2]
  congr 4
  omega
def wIE (f:WA):WI:=λρ M P=>f ρ M λds ρ1 M1=>match ds with
 |[.lst xs]=>P (enuD 0 xs) ρ1 M1
 |_=>False
theorem qph_ (hg:Gl X "enumerate") (hm:X.mg "enumerate"=none) (ha:JA X [a] fl) (hs:starEach [a] X.env=[(false,eval a X.env)]:=by rfl):JI X (.Tuple elts k tpos) (.Call (.Name "enumerate" p) [a] [] pos) (wIE fl):=⟨imI (qud_ hg hm ha.h hs) λσ H R hh=>ex5 hh λZ F ρ M P ag hf k=>⟨Z,F,ρ,M,_,ag,hf,λvs H1 F1 ds ρ1 M1 s1 ag1 r1 h1=>by
 split at h1
 ·rename_i xs
  obtain ⟨v,rfl,rv⟩:=rps1 r1
  rw [Rp] at rv
  obtain ⟨q,vs,rfl,g1,g2⟩:=rv
  refine ⟨q,rfl,⟨vs,.inl (ql_ ag1.m.sm g1)⟩,k _ H1 F1 _ ρ1 M1 s1 ag1 ⟨λi F' H hi s s'=>?_,λF' H s s'=>?_,λi d F' H x H' hd s s' y=>?_⟩ h1⟩
  ·rw [qem_,g2.length] at hi
   exact ⟨vs,_,.inl (ql_ s' (ql_ s g1)),List.getElem?_eq_getElem hi⟩
  ·exact ⟨vs,.inl (ql_ s' (ql_ s g1)),by rw [qem_,g2.length];exact Nat.le_refl _⟩
  ·obtain ⟨p,w1,rfl,hp,rfl,y1⟩:=y
   obtain ⟨d1,e1,rfl⟩:=qfa_ hd
   obtain ⟨z1,f1,f2⟩:=g2.get e1
   have q1:=y1 vs (.inl (ql_ s' (ql_ s g1)))
   rw [f1] at q1
   cases q1
   have hF:F' p=none:=qb3_ s' hp
   have sn:Same F' (upd F' p (.tup [.int i,w1])):=Same.new hF
   refine ⟨_,.nw hp,?_⟩
   rw [Rp]
   refine ⟨p,_,rfl,SqT.of qt_,.cons ?_ (.cons ((f2.same s).same sn) .nil)⟩
   rw [Rp,Nat.zero_add]
 ·exact h1.elim⟩⟩
end
structure Bl2 (mg:Str->Option Value):Prop extends Bl mg where
 enumerate:mg "enumerate"=none
 sum:mg "sum"=none
 min:mg "min"=none
 max:mg "max"=none
 sorted:mg "sorted"=none
 reversed:mg "reversed"=none
 dict:mg "dict"=none
end L4
namespace L4
open PySem PySem.Spec PyProof.Rows L2 L3
abbrev Pool:=Mm->Addr->Prop
def spD (K:PySem.W.Frag) (Pl:Pool) (g:List D->(D->Prop)->Prop):Sp:=λvs H Q _=>∃Z F M p vs' ds P,vs= .ref p::vs'/\AgM K Z F M H/\Pl M p/\Rps K F ds vs'/\g ds P/\∀v H' F' d,Same F F'->AgM K Z F' M H'->Rp K F' d v->P d->Q v H'
def wDr (Pl:Pool) (i:Nat) (g:List D->(D->Prop)->Prop) (fl:WA):WE:=λρ M P=>match ρ[i]? with
 |some (.rf p)=>fl ρ M λds ρ1 M1=>Pl M1 p/\g ds λd=>P d ρ1 M1
 |_=>False
section
variable {X:Cx} {e:Expr} {es:List Expr} {pos np p:Pos} {fl:WA} {x y:Str} {Pl:Pool} {g:List D->(D->Prop)->Prop} {k:Nat} {ps:List Str}
theorem j_hD (i:Nat) (F:Has X.prog X.w X.K X.mg X.base CX0 k x ps (spD X.K Pl g)) (hr:Room k X.A) (hg:Gl X x) (ha:JA X es fl) (hN:X.N[i]?=some y:=by rfl) (hv:Vis X.env.scope y:=by first|exact Or.inl rfl|exact Or.inr (Or.inl rfl)|exact Or.inr (Or.inr rfl)) (hd:(y==("__debug__":Str))=false:=by decide) (hcd:(y==("__classdict__":Str))=false:=by decide)
  (hdb:(x==("__debug__":Str))=false:=by decide) (he:starEach (.Name y np::es) X.env=(false,eval (.Name y np) X.env)::starEach es X.env:=by rfl) (hpl:(backTo pos (starEach es X.env)).any (·.1)=false:=by rfl):
  JE X (.Call (.Name x p) (.Name y np::es) [] pos) (wDr Pl i g fl):=⟨imE (pe_h F hr hg qov_ (qc5_ (L2.pv i hN hv hd hcd) ha.h he) hdb he hpl) λσ H Q hh=>ex5 hh λZ F ρ M P ag hf k=>by
 unfold wDr at hf
 split at hf
 ·rename_i q hq
  have h0:=ag.en i _ hq
  have hs:σ[i]?=some (some (.ref q)):=by
   have h0:(σ[i]?).join=some (.ref q):=h0
   cases z:σ[i]? with
   |none=>rw [z] at h0;cases h0
   |some o=>rw [z] at h0;simp at h0;rw [h0]
  refine ⟨.ref q,hs,Z,F,ρ,M,_,ag,hf,λvs H1 F1 ds ρ1 M1 s1 ag1 r1 h1=>?_⟩
  show spD X.K Pl g ((.ref q::vs)++[]) H1 Q E0
  rw [List.append_nil]
  exact ⟨_,F1,M1,q,vs,ds,_,rfl,ag1.m.inner,h1.1,r1,h1.2,λv H' F' d s' m' r h=>k v H' F' d ρ1 M1 (s1.trans s') (ag1.back s' m') r h⟩
 ·exact hf.elim⟩
end
def qd5_ (N:List Str) (p:Addr) (ds:List D):Rho:= .rf p::(ds.map Ent.sh++List.replicate (N.length - (ds.length+1)) .un)
theorem qf5_ {K:PySem.W.Frag} {Z F H:Hp} {M:Mm} {p:Addr} {ds:List D} {vs:List V} (N:List Str) (m:AgM K Z F M H) (r:Rps K F ds vs):Ag K Z F M H (qd5_ N p ds) (L2.start N (.ref p::vs)):=by
 have hl:=r.length
 have ei:L2.start N (.ref p::vs)=some (.ref p)::(vs.map some++List.replicate (N.length - (vs.length+1)) none):=by
  unfold L2.start
  simp
 rw [ei]
 have key:∀{i:Nat} {e:Ent},(ds.map Ent.sh++List.replicate (N.length - (ds.length+1)) Ent.un)[i]?=some e->(e= .un)\/∃d,e= .sh d/\ds[i]?=some d:=λ{i e} h=>by
  by_cases hi:i<ds.length
  ·rw [List.getElem?_append_left (by simpa using hi),List.getElem?_map,List.getElem?_eq_getElem hi] at h
   cases h
   exact .inr ⟨_,rfl,List.getElem?_eq_getElem hi⟩
  ·rw [List.getElem?_append_right (by simpa using hi),List.getElem?_replicate] at h
   split at h
   ·cases h;exact .inl rfl
   ·cases h
 refine ⟨m,by unfold qd5_;simp [hl],λi e h=>?_,λi j es fs q n h1 _ _=>?_⟩
 ·cases i with
  |zero=>unfold qd5_ at h;simp at h;subst h;rfl
  |succ i=>
   unfold qd5_ at h
   rw [List.getElem?_cons_succ] at h
   rcases key h with rfl|⟨d,rfl,hd⟩
   ·trivial
   ·obtain ⟨v,h1,h2⟩:=r.get hd
    refine ⟨v,?_,h2⟩
    rw [List.getElem?_cons_succ,List.getElem?_append_left (by simp [<-hl];exact (List.getElem?_eq_some_iff.mp hd).1),List.getElem?_map,h1]
    rfl
 ·cases i with
  |zero=>unfold qd5_ at h1;simp at h1
  |succ i=>
   unfold qd5_ at h1
   rw [List.getElem?_cons_succ] at h1
   rcases key h1 with z|⟨d,z,_⟩
   ·cases z
   ·cases z
theorem _root_.L3.Def.hasD {P:Program} {w:World} {K:PySem.W.Frag} {mg:Str->Option Value} {base:Heap} {k:Nat} {x:Str} {st:Stmt} {N ps:List Str} {Pl:Pool} {g:List D->(D->Prop)->Prop} (F:Def K mg x st ps) (sc:FnScope N ps (qe_ st)) (len:∀ds P,g ds P->ds.length+1=ps.length)
  (hbody:∀(f:Addr) (cdv:Value) (A:Around) (outer:List Env) (s:Shared) (H:Hp) (E:XK),Room k (A.deeper (envOfC x (qe_ st) s.heap.objs.size f cdv))->
   ∃G,JSs (cxOf CX0 P w K mg base N x (qe_ st) f cdv A outer s H E).nox (q8_ st) G/\∀p ds M Q,Pl M p->g ds Q->G ⟨λ_ M'=>Sub M M'/\Q .non,rtD λd M'=>Sub M M'/\Q d,λ_ _=>False,λ_ _=>False⟩ (qd5_ N p ds) M):Has P w K mg base CX0 (k+1) x ps (spD K Pl g):=by
 refine F.has sc (λvs H Q E h=>?_) λf cdv A outer s H vs Q E hr h=>?_
 ·obtain ⟨Z,F',M,p,vs',ds,P,rfl,m,hp,r,hg,_⟩:=h
  rw [List.length_cons,<-r.length]
  exact len ds P hg
 ·obtain ⟨Z,F',M,p,vs',ds,P',rfl,m,hp,r,hg,kk⟩:=h
  obtain ⟨G,hG,hh⟩:=hbody f cdv A outer s H E hr
  refine ⟨_,hG.h,Z,F',qd5_ N p ds,M,_,qf5_ N m r,hh p ds M P' hp hg,⟨λσ' H' F2 ρ' M' s' ag' ⟨hs,q⟩=>kk _ H' F2 _ s' (ag'.m.sub hs) (by rw [Rp]) q,λ_ _ _ _ _ _ _ q=>q.elim,λ_ _ _ _ _ _ _ q=>q.elim,λv H' F2 u M' s' m' r' q=>by
   obtain ⟨d,r',hs,q⟩:=qju_ (q:=λd M'=>Sub M M'/\P' d) q r'
   exact kk v H' F2 d s' (m'.sub hs) r' q⟩⟩
end L4
namespace L4
open PySem PySem.Spec PyProof.Rows L2 L3
section
variable {X:Cx} {a b c e:Expr} {es:List Expr} {pos cpos apos np p p2:Pos} {fa fb fe fk:WE} {fl:WA} {fn:WN} {x:Str}
def bls:List D->Option (List Bool)
 |[]=>some []
 | .bl b::r=>(bls r).map (b::·)
 |_::_=>none
theorem qlb_ {K:PySem.W.Frag} {F:Hp}:∀{ds:List D} {bs:List Bool} {vs:List V},bls ds=some bs->Rps K F ds vs->vs=bs.map V.bl
 |[],bs,vs,h,r=>by rw [Rps] at r;subst r;cases h;rfl
 | .bl b::ds,bs,vs,h,r=>by
  rw [bls] at h
  cases q:bls ds with
  |none=>rw [q] at h;cases h
  |some l=>
   rw [q] at h
   cases h
   rw [Rps] at r
   obtain ⟨v,w,rfl,h1,h2⟩:=r
   rw [Rp] at h1
   rw [h1,qlb_ q h2]
   rfl
 | .non::_,_,_,h,_=>by cases h
 | .int _::_,_,_,h,_=>by cases h
 | .str _::_,_,_,h,_=>by cases h
 | .tup _::_,_,_,h,_=>by cases h
 | .lst _::_,_,_,h,_=>by cases h
theorem qgr_ (bs:List Bool):bls (bs.map D.bl)=some bs:=by
 induction bs with
 |nil=>rfl
 |cons b r ih=>rw [List.map_cons,bls,ih];rfl
def RAll (g:List Bool->Bool):List D->(D->Prop)->Prop:=λxs P=>match xs with
 |[.lst ds]=>(match bls ds with
  |some bs=>P (.bl (g bs))
  |none=>False)
 |_=>False
theorem qub_ {g:List Bool->Bool}:CaW X (λxs H Q=>∃(p:Addr) (bs:List Bool),xs=[.ref p]/\SqL X.K H p (bs.map V.bl)/\Q (.bl (g bs)) H) (RAll g):=by
 intro xs vs F H Q P sm rs h k
 unfold RAll at h
 split at h
 ·rename_i ds
  split at h
  ·rename_i bs hb
   obtain ⟨v,rfl,r⟩:=rps1 rs
   rw [Rp] at r
   obtain ⟨q,ws,rfl,h1,h2⟩:=r
   have:=qlb_ hb h2
   subst this
   exact ⟨q,bs,rfl,.inl (ql_ sm h1),k _ _ F H .rf (by rw [Rp]) h⟩
  ·exact h.elim
 ·exact h.elim
theorem qtr_ (hg:Gl X "all") (hm:X.mg "all"=none) (hc:X.calm=true) (ha:JA X [a] fl) (he:starEach [a] X.env=[(false,eval a X.env)]:=by rfl):JE X (.Call (.Name "all" p) [a] [] pos) (qgi_ (RAll λbs=>bs.all id) fl):=qf3_ (qoa_ hc) qub_ hg hm boot_all ha (by decide) (by decide) he rfl
theorem qti_ (hg:Gl X "any") (hm:X.mg "any"=none) (hc:X.calm=true) (ha:JA X [a] fl) (he:starEach [a] X.env=[(false,eval a X.env)]:=by rfl):JE X (.Call (.Name "any" p) [a] [] pos) (qgi_ (RAll λbs=>bs.any id) fl):=qf3_ (qnc_ hc) qub_ hg hm boot_any ha (by decide) (by decide) he rfl
end
end L4
namespace L4
open PySem PySem.Spec PyProof.Rows L2 L3
section
variable {X:Cx} {e st:Expr} {pos p2 p3 p4:Pos} {te:TE} {fe:WE}
end
def wCut (f:WS):WS:=λE ρ M=>∃I:Rho->Mm->Prop,f ⟨I,E.rt,E.bk,E.ct⟩ ρ M/\∀ρ1 M1,I ρ1 M1->E.nx ρ1 M1
theorem qs3_ {X:Cx} {st:Stmt} {f:WS} (h:JS X st f):JS X st (wCut f):=⟨imS h.h λD' σ H ⟨Z,F,ρ,M,E,ag,⟨I,hf,hI⟩,k⟩=>⟨Z,F,ρ,M,⟨I,E.rt,E.bk,E.ct⟩,ag,hf,⟨λσ' H' F' ρ' M' s ag' i=>k.nx σ' H' F' ρ' M' s ag' (hI ρ' M' i),k.bk,k.ct,k.rt⟩⟩⟩
theorem qqh_ {lo:Int} {n i:Nat} {d:D} (h:(rngD lo n)[i]?=some d):d= .int (lo+(i:Int))/\i<n:=by
 have hi:=(List.getElem?_eq_some_iff.mp h).1
 unfold rngD at h hi
 rw [List.length_map,List.length_range] at hi
 rw [List.getElem?_map,List.getElem?_range hi] at h
 exact ⟨(Option.some.inj h).symm,hi⟩
theorem qc1_ {lo:Int} {n:Nat}:(rngD lo n).length=n:=by simp [rngD]
end L4
namespace L4
open PySem PySem.Spec PyProof.Rows L2 L3
section
variable {X:Cx} {e:Expr} {es:List Expr} {pos np p:Pos} {fl:WA} {x y:Str} {φ:Int->HO->Prop} {c:Int} {g:List D->(D->Prop)->Prop} {k:Nat} {ps:List Str}
end
theorem qcb_ {M:Mm} {p:Addr} {o o':MO}:mset (mset M p o) p o'=mset M p o':=by
 funext q
 by_cases h:q=p
 ·subst h;rw [qm_,qm_]
 ·rw [qu_ h,qu_ h,qu_ h]
end L4
namespace L4
open PySem PySem.Spec PyProof.Rows L2 L3
mutual
def noL:D->Bool
 | .lst _=>false
 | .tup ds=>noLs ds
 | .non=>true
 | .bl _=>true
 | .int _=>true
 | .str _=>true
def noLs:List D->Bool
 |[]=>true
 |d::ds=>noL d&&noLs ds
end
mutual
def Own (M:Mm):D->U->List Addr->Prop
 | .lst ds,u,A=>∃p us B,u= .adr p/\M p=some (.own us)/\A=p::B/\Owns M ds us B
 | .tup ds,u,A=>(u= .d (.tup ds)/\noLs ds=true/\A=[])\/(noLs ds=false/\∃us,u= .tup us/\Owns M ds us A)
 | .non,u,A=>u= .d .non/\A=[]
 | .bl b,u,A=>u= .d (.bl b)/\A=[]
 | .int i,u,A=>u= .d (.int i)/\A=[]
 | .str x,u,A=>u= .d (.str x)/\A=[]
def Owns (M:Mm):List D->List U->List Addr->Prop
 |[],us,A=>us=[]/\A=[]
 |d::ds,us,A=>∃u r B C,us=u::r/\A=B++C/\Own M d u B/\Owns M ds r C
end
theorem Own.leaf {M:Mm} {d:D} (h:noL d=true):Own M d (.d d) []:=by
 cases d with
 |lst ds=>rw [noL] at h;cases h
 |tup ds=>rw [noL] at h;rw [Own];exact .inl ⟨rfl,h,rfl⟩
 |non=>rw [Own];exact ⟨rfl,rfl⟩
 |bl b=>rw [Own];exact ⟨rfl,rfl⟩
 |int b=>rw [Own];exact ⟨rfl,rfl⟩
 |str b=>rw [Own];exact ⟨rfl,rfl⟩
mutual
theorem Own.mono {M M1:Mm}:∀{d:D} {u:U} {A:List Addr},(∀p∈A,M1 p=M p)->Own M d u A->Own M1 d u A
 | .lst ds,u,A,e,h=>by
  rw [Own] at h ⊢
  obtain ⟨p,us,B,h1,h2,h3,h4⟩:=h
  subst h3
  exact ⟨p,us,B,h1,(e p (by simp)).trans h2,rfl,Owns.mono (λq hq=>e q (by simp [hq])) h4⟩
 | .tup ds,u,A,e,h=>by
  rw [Own] at h ⊢
  rcases h with h|⟨h0,us,h1,h2⟩
  ·exact .inl h
  ·exact .inr ⟨h0,us,h1,Owns.mono e h2⟩
 | .non,u,A,e,h=>by rw [Own] at h ⊢;exact h
 | .bl b,u,A,e,h=>by rw [Own] at h ⊢;exact h
 | .int b,u,A,e,h=>by rw [Own] at h ⊢;exact h
 | .str b,u,A,e,h=>by rw [Own] at h ⊢;exact h
theorem Owns.mono {M M1:Mm}:∀{d:List D} {u:List U} {A:List Addr},(∀p∈A,M1 p=M p)->Owns M d u A->Owns M1 d u A
 |[],u,A,e,h=>by rw [Owns] at h ⊢;exact h
 |d::ds,u,A,e,h=>by
  rw [Owns] at h ⊢
  obtain ⟨x,r,B,C,h1,h2,h3,h4⟩:=h
  subst h2
  exact ⟨x,r,B,C,h1,rfl,Own.mono (λq hq=>e q (by simp [hq])) h3,Owns.mono (λq hq=>e q (by simp [hq])) h4⟩
end
mutual
theorem Own.there {M:Mm}:∀{d:D} {u:U} {A:List Addr},Own M d u A->∀p∈A,∃us,M p=some (.own us)
 | .lst ds,u,A,h,q,hq=>by
  rw [Own] at h
  obtain ⟨p,us,B,h1,h2,h3,h4⟩:=h
  subst h3
  rcases List.mem_cons.mp hq with rfl|hq
  ·exact ⟨us,h2⟩
  ·exact Owns.there h4 q hq
 | .tup ds,u,A,h,q,hq=>by
  rw [Own] at h
  rcases h with ⟨_,_,h⟩|⟨_,us,h1,h2⟩
  ·subst h;cases hq
  ·exact Owns.there h2 q hq
 | .non,u,A,h,q,hq=>by rw [Own] at h;rw [h.2] at hq;cases hq
 | .bl b,u,A,h,q,hq=>by rw [Own] at h;rw [h.2] at hq;cases hq
 | .int b,u,A,h,q,hq=>by rw [Own] at h;rw [h.2] at hq;cases hq
 | .str b,u,A,h,q,hq=>by rw [Own] at h;rw [h.2] at hq;cases hq
theorem Owns.there {M:Mm}:∀{d:List D} {u:List U} {A:List Addr},Owns M d u A->∀p∈A,∃us,M p=some (.own us)
 |[],u,A,h,q,hq=>by rw [Owns] at h;rw [h.2] at hq;cases hq
 |d::ds,u,A,h,q,hq=>by
  rw [Owns] at h
  obtain ⟨x,r,B,C,h1,h2,h3,h4⟩:=h
  subst h2
  rcases List.mem_append.mp hq with hq|hq
  ·exact Own.there h3 q hq
  ·exact Owns.there h4 q hq
end
section
variable {K:PySem.W.Frag} {Z F G H:Hp} {M:Mm}
mutual
theorem Own.rp (a:AgM K Z F M H) (s:Same F G):∀{d:D} {u:U} {A:List Addr} {v:V},Own M d u A->(∀q∈A,G q=H q)->RU K F u v->Rp K G d v
 | .lst ds,u,A,v,h,hA,r=>by
  rw [Own] at h
  obtain ⟨p,us,B,rfl,h2,rfl,h4⟩:=h
  rw [RU] at r
  obtain ⟨_,vs,g1,g2⟩:=a.mo p _ h2
  rw [Rp]
  exact ⟨p,vs,r,.inl ((hA p (by simp)).trans g1),Owns.rps a s h4 (λq hq=>hA q (by simp [hq])) g2⟩
 | .tup ds,u,A,v,h,hA,r=>by
  rw [Own] at h
  rcases h with ⟨rfl,_,_⟩|⟨_,us,rfl,h2⟩
  ·rw [RU] at r;exact Rp.same s r
  ·rw [RU] at r
   obtain ⟨b,vs,r1,r2,r3⟩:=r
   rw [Rp]
   exact ⟨b,vs,r1,qbb_ s r2,Owns.rps a s h2 hA r3⟩
 | .non,u,A,v,h,hA,r=>by rw [Own] at h;rw [h.1,RU] at r;exact Rp.same s r
 | .bl b,u,A,v,h,hA,r=>by rw [Own] at h;rw [h.1,RU] at r;exact Rp.same s r
 | .int b,u,A,v,h,hA,r=>by rw [Own] at h;rw [h.1,RU] at r;exact Rp.same s r
 | .str b,u,A,v,h,hA,r=>by rw [Own] at h;rw [h.1,RU] at r;exact Rp.same s r
theorem Owns.rps (a:AgM K Z F M H) (s:Same F G):∀{d:List D} {u:List U} {A:List Addr} {v:List V},Owns M d u A->(∀q∈A,G q=H q)->RUs K F u v->Rps K G d v
 |[],u,A,v,h,hA,r=>by rw [Owns] at h;rw [h.1,RUs] at r;rw [Rps];exact r
 |d::ds,u,A,v,h,hA,r=>by
  rw [Owns] at h
  obtain ⟨x,t,B,C,rfl,rfl,h3,h4⟩:=h
  rw [RUs] at r
  obtain ⟨y,z,r1,r2,r3⟩:=r
  rw [Rps]
  exact ⟨y,z,r1,Own.rp a s h3 (λq hq=>hA q (by simp [hq])) r2,Owns.rps a s h4 (λq hq=>hA q (by simp [hq])) r3⟩
end
end
theorem Owns.nil {M:Mm}:Owns M [] [] []:=by rw [Owns];exact ⟨rfl,rfl⟩
theorem Owns.cons {M:Mm} {d:D} {u:U} {ds:List D} {us:List U} {A B:List Addr} (h:Own M d u A) (k:Owns M ds us B):Owns M (d::ds) (u::us) (A++B):=by
 rw [Owns];exact ⟨u,us,A,B,rfl,rfl,h,k⟩
theorem Owns.append {M:Mm}:∀{ds es:List D} {us ws:List U} {A B:List Addr},Owns M ds us A->Owns M es ws B->Owns M (ds++es) (us++ws) (A++B)
 |[],es,us,ws,A,B,h,k=>by rw [Owns] at h;rw [h.1,h.2];exact k
 |d::ds,es,us,ws,A,B,h,k=>by
  rw [Owns] at h
  obtain ⟨x,r,A1,C,rfl,rfl,h3,h4⟩:=h
  rw [List.cons_append,List.cons_append,List.append_assoc]
  exact .cons h3 (Owns.append h4 k)
theorem Owns.leaves {M:Mm}:∀{ds:List D},noLs ds=true->Owns M ds (ds.map U.d) []
 |[],_=> .nil
 |d::ds,h=>by
  rw [noLs,Bool.and_eq_true] at h
  exact Owns.cons (A:=[]) (B:=[]) (.leaf h.1) (Owns.leaves h.2)
theorem Own.mkflat {M:Mm} {ds:List D} {p:Addr} (n:noLs ds=true) (h:M p=some (.own (ds.map U.d))):Own M (.lst ds) (.adr p) [p]:=by
 rw [Own];exact ⟨p,_,[],rfl,h,rfl,.leaves n⟩
theorem Owns.length {M:Mm}:∀{ds:List D} {us:List U} {A:List Addr},Owns M ds us A->ds.length=us.length
 |[],us,A,h=>by rw [Owns] at h;rw [h.1];rfl
 |d::ds,us,A,h=>by
  rw [Owns] at h
  obtain ⟨x,r,B,C,rfl,_,_,h4⟩:=h
  rw [List.length_cons,List.length_cons,Owns.length h4]
def Fresh (M M':Mm) (d:D) (u:U):Prop:=∃A,Own M' d u A/\A.Nodup/\(∀p∈A,M p=none)/\∀q,q∉A->M' q=M q
def Freshs (M M':Mm) (ds:List D) (us:List U):Prop:=∃A,Owns M' ds us A/\A.Nodup/\(∀p∈A,M p=none)/\∀q,q∉A->M' q=M q
section
variable {M M1 M2:Mm} {d:D} {u:U} {ds es:List D} {us ws:List U} {p:Addr}
theorem Fresh.leaf (h:noL d=true):Fresh M M d (.d d):=⟨[],.leaf h,.nil,λ_ h=>(nomatch h),λ_ _=>rfl⟩
theorem Freshs.nil:Freshs M M [] []:=⟨[],.nil,.nil,λ_ h=>(nomatch h),λ_ _=>rfl⟩
theorem Freshs.leaves (h:noLs ds=true):Freshs M M ds (ds.map U.d):=⟨[],.leaves h,.nil,λ_ h=>(nomatch h),λ_ _=>rfl⟩
theorem Freshs.append (h:Freshs M M1 ds us) (k:Freshs M1 M2 es ws):Freshs M M2 (ds++es) (us++ws):=by
 obtain ⟨A,h1,h2,h3,h4⟩:=h
 obtain ⟨B,k1,k2,k3,k4⟩:=k
 have dj:∀q∈A,q∉B:=λq hq hb=>by
  obtain ⟨_,e⟩:=h1.there q hq
  rw [k3 q hb] at e;cases e
 refine ⟨A++B,.append (h1.mono λq hq=>k4 q (dj q hq)) k1,List.nodup_append.mpr ⟨h2,k2,λa ha b hb e=>dj a ha (e ▸ hb)⟩,λq hq=>?_,λq hq=>?_⟩
 ·rcases List.mem_append.mp hq with hq|hq
  ·exact h3 q hq
  ·by_cases z:q∈A
   ·exact h3 q z
   ·rw [<-h4 q z];exact k3 q hq
 ·rw [List.mem_append,not_or] at hq
  rw [k4 q hq.2,h4 q hq.1]
theorem Freshs.one (h:Fresh M M1 d u):Freshs M M1 [d] [u]:=by
 obtain ⟨A,h1,h2,h3,h4⟩:=h
 exact ⟨A++[],.cons h1 .nil,by rw [List.append_nil];exact h2,by rw [List.append_nil];exact h3,by rw [List.append_nil];exact h4⟩
theorem Freshs.snoc (h:Freshs M M1 ds us) (k:Fresh M1 M2 d u):Freshs M M2 (ds++[d]) (us++[u]):=h.append (.one k)
theorem Freshs.cons (h:Fresh M M1 d u) (k:Freshs M1 M2 ds us):Freshs M M2 (d::ds) (u::us):=(Freshs.one h).append k
theorem Fresh.tup (h:Freshs M M1 ds us) (n:noLs ds=false:=by rfl):Fresh M M1 (.tup ds) (.tup us):=by
 obtain ⟨A,h1,h2⟩:=h
 exact ⟨A,by rw [Own];exact .inr ⟨n,us,rfl,h1⟩,h2⟩
theorem Fresh.new (h:Freshs M M1 ds us) (hp:M1 p=none):Fresh M (mset M1 p (.own us)) (.lst ds) (.adr p):=by
 obtain ⟨A,h1,h2,h3,h4⟩:=h
 have np:p∉A:=λhq=>by
  obtain ⟨_,e⟩:=h1.there p hq
  rw [hp] at e;cases e
 refine ⟨p::A,by rw [Own];exact ⟨p,us,A,rfl,qm_,rfl,h1.mono λq hq=>qu_ λz=>np (z ▸ hq)⟩,List.nodup_cons.mpr ⟨np,h2⟩,λq hq=>?_,λq hq=>?_⟩
 ·rcases List.mem_cons.mp hq with rfl|hq
  ·rw [<-h4 q np];exact hp
  ·exact h3 q hq
 ·rw [List.mem_cons,not_or] at hq
  rw [qu_ hq.1,h4 q hq.2]
theorem Fresh.newD (h:noLs ds=true) (hp:M p=none):Fresh M (mset M p (.own (ds.map U.d))) (.lst ds) (.adr p):= .new (.leaves h) hp
theorem Fresh.push (h:Fresh M M1 (.lst ds) (.adr p)) (k:Fresh M1 M2 d u) (e:M2 p=some (.own us)):Fresh M (mset M2 p (.own (us++[u]))) (.lst (ds++[d])) (.adr p):=by
 obtain ⟨A,h1,h2,h3,h4⟩:=h
 obtain ⟨B,k1,k2,k3,k4⟩:=k
 rw [Own] at h1
 obtain ⟨p',us',A',e0,e1,rfl,e2⟩:=h1
 cases e0
 have dj:∀q∈p::A',q∉B:=λq hq hb=>by
  have:Own M1 (.lst ds) (.adr p) (p::A'):=by rw [Own];exact ⟨p,us',A',rfl,e1,rfl,e2⟩
  obtain ⟨_,e⟩:=this.there q hq
  rw [k3 q hb] at e;cases e
 have np:=(List.nodup_cons.mp h2).1
 have eu:us'=us:=by
  have:=k4 p (dj p (by simp))
  rw [e,e1] at this
  cases this;rfl
 subst eu
 refine ⟨p::(A'++(B++[])),by
  rw [Own]
  refine ⟨p,_,_,rfl,qm_,rfl,.append (e2.mono λq hq=>?_) (.cons (k1.mono λq hq=>?_) .nil)⟩
  ·rw [qu_ (show q≠p from λz=>np (z ▸ hq)),k4 q (dj q (by simp [hq]))]
  ·exact qu_ λz=>dj p (by simp) (z ▸ hq),?_,λq hq=>?_,λq hq=>?_⟩
 ·rw [List.append_nil,<-List.cons_append]
  exact List.nodup_append.mpr ⟨h2,k2,λa ha b hb e=>dj a ha (e ▸ hb)⟩
 ·rw [List.append_nil,<-List.cons_append] at hq
  rcases List.mem_append.mp hq with hq|hq
  ·exact h3 q hq
  ·by_cases z:q∈p::A'
   ·exact h3 q z
   ·rw [<-h4 q z];exact k3 q hq
 ·rw [List.append_nil,<-List.cons_append,List.mem_append,not_or] at hq
  rw [qu_ (λz=>hq.1 (by simp [z])),k4 q hq.2,h4 q hq.1]
theorem Fresh.own_of (h:Fresh M M1 (.lst ds) (.adr p)):∃us,M1 p=some (.own us)/\us.length=ds.length/\∀M2 d u,Fresh M1 M2 d u->M2 p=some (.own us):=by
 obtain ⟨A,h1,h2,h3,h4⟩:=h
 rw [Own] at h1
 obtain ⟨p',us',A',e0,e1,rfl,e2⟩:=h1
 cases e0
 refine ⟨us',e1,e2.length.symm,λM2 d u k=>?_⟩
 obtain ⟨B,k1,k2,k3,k4⟩:=k
 rw [k4 p λhb=>by rw [k3 p hb] at e1;cases e1]
 exact e1
theorem qdv_ {α:Type} {f:α->D} (h:∀a,noL (f a)=true):∀{l:List α},noLs (l.map f)=true
 |[]=>rfl
 |x::l=>by rw [List.map_cons,noLs,h,qdv_ h];rfl
end
end L4
namespace L4
open PySem PySem.Spec PyProof.Rows L2 L3
abbrev WU:=Rho->Mm->(U->Rho->Mm->Prop)->Prop
abbrev WUA:=Rho->Mm->(List U->Rho->Mm->Prop)->Prop
def lfU (K:PySem.W.Frag) (f:WU):TE:=λσ H Q=>∃Z F ρ M P,Ag K Z F M H ρ σ/\f ρ M P/\∀v H' F' u ρ' M',Same F F'->Ag K Z F' M' H' ρ' σ->RU K F' u v->P u ρ' M'->Q v H'
def lfUA (K:PySem.W.Frag) (f:WUA):TA:=λσ H Q=>∃Z F ρ M P,Ag K Z F M H ρ σ/\f ρ M P/\∀vs H' F' us ρ' M',Same F F'->Ag K Z F' M' H' ρ' σ->RUs K F' us vs->P us ρ' M'->Q vs H'
def lfNU (K:PySem.W.Frag) (f:WUA):TE:=λσ H Q=>∃Z F ρ M P,Ag K Z F M H ρ σ/\f ρ M P/\∀p vs H' F' us ρ' M',Same F F'->Ag K Z F' M' H' ρ' σ->H' p=some (.lst vs)->F' p=none->M' p=none->Z p=none->(∀(j:Nat) (es:List D),ρ'[j]?=some (.ow es)->σ[j]?≠some (some (.ref p)))->RUs K F' us vs->P us ρ' M'->Q (.ref p) H'
structure JU (X:Cx) (e:Expr) (f:WU):Prop where
 h:PE X e (lfU X.K f)
structure JUA (X:Cx) (es:List Expr) (f:WUA):Prop where
 h:PA X es (lfUA X.K f)
structure JNU (X:Cx) (e:Expr) (f:WUA):Prop where
 h:PE X e (lfNU X.K f)
section
variable {K:PySem.W.Frag} {Z F H:Hp} {M:Mm} {ρ:Rho} {σ:L2.St} {p:Addr}
theorem Ag.adopt {vs:List V} {us:List U} (ag:Ag K Z F M H ρ σ) (n2:H p=some (.lst vs)) (n3:F p=none) (n4:M p=none) (nz:Z p=none) (n5:∀(j:Nat) (es:List D),ρ[j]?=some (.ow es)->σ[j]?≠some (some (.ref p))) (r:RUs K F us vs):Ag K Z F (mset M p (.own us)) H ρ σ:=by
 refine ⟨⟨ag.m.sm,λq o e=>?_,λq o e=>?_⟩,ag.len,λi e h=>?_,ag.di⟩
 ·obtain ⟨z1,z2,z3⟩:=ag.m.zz q o e
  exact ⟨z1,z2,by rw [qu_ (λz=>by rw [z,nz] at e;cases e)];exact z3⟩
 ·by_cases z:q=p
  ·subst z
   rw [qm_] at e
   cases e
   exact ⟨n3,vs,n2,r⟩
  ·rw [qu_ z] at e;exact ag.m.mo q o e
 ·have:=ag.en i e h
  cases e with
  |un=>trivial
  |sh d=>exact this
  |rf p=>exact this
  |ut u=>exact this
  |ow ds=>
   obtain ⟨q,ws,h1,h2,h3,h4,h6,h5⟩:=this
   have hne:q≠p:=λz=>by
    subst z
    have hj':σ[i]?=some (some (.ref q)):=by
     cases y:σ[i]? with
     |none=>rw [y] at h1;cases h1
     |some o=>rw [y] at h1;simp at h1;rw [h1]
    exact n5 i ds h hj'
   exact ⟨q,ws,h1,h2,h3,by rw [qu_ hne];exact h4,h6,h5⟩
theorem Ag.chgM {us us':List U} {ws:List V} (ag:Ag K Z F M H ρ σ) (hp:M p=some (.own us)) (r:RUs K F us' ws):Ag K Z F (mset M p (.own us')) (upd H p (.lst ws)) ρ σ:=by
 obtain ⟨f0,vs,h0,r0⟩:=ag.m.mo p _ hp
 have ne:∀{q:Addr} {u:HO},F q=some u->q≠p:=λe z=>by rw [z,f0] at e;cases e
 refine ⟨⟨λq u e=>by rw [qo_ (ne e)];exact ag.m.sm q u e,λq o e=>?_,λq o e=>?_⟩,ag.len,λi e h=>?_,ag.di⟩
 ·obtain ⟨z1,z2,z3⟩:=ag.m.zz q o e
  have:q≠p:=λz=>by rw [z,hp] at z3;cases z3
  exact ⟨by rw [qo_ this];exact z1,z2,by rw [qu_ this];exact z3⟩
 ·by_cases z:q=p
  ·subst z
   rw [qm_] at e
   cases e
   exact ⟨f0,ws,qt_,r⟩
  ·rw [qu_ z] at e
   obtain ⟨z1,z2⟩:=ag.m.mo q o e
   exact ⟨z1,z2.same (Same.refl _) (qo_ z)⟩
 ·have:=ag.en i e h
  cases e with
  |un=>trivial
  |sh d=>exact this
  |rf p=>exact this
  |ut u=>exact this
  |ow ds=>
   obtain ⟨q,ws',h1,h2,h3,h4,h6,h5⟩:=this
   have hne:q≠p:=λz=>by rw [z,hp] at h4;cases h4
   exact ⟨q,ws',h1,by rw [qo_ hne];exact h2,h3,by rw [qu_ hne];exact h4,h6,h5⟩
end
theorem qdd_ {σ:L2.St} {i:Nat} {v:V} (g1:(σ[i]?).join=some v):σ[i]?=some (some v):=by
 cases q:σ[i]? with
 |none=>rw [q] at g1;cases g1
 |some o=>rw [q] at g1;simp at g1;rw [g1]
section
variable {X:Cx} {a b c e:Expr} {es rest:List Expr} {pos p p2:Pos} {fa fb fe:WE} {ft:WT} {fl:WA} {fn:WN} {ga gb ge:WU} {gl:WUA} {st:Stmt} {sts:List Stmt} {fs:WS} {x:Str}
def uD (f:WE):WU:=λρ M P=>f ρ M λd ρ1 M1=>P (.d d) ρ1 M1
theorem ju_d (h:JE X e fe):JU X e (uD fe):=⟨imE h.h λσ H Q hh=>ex5 hh λZ F ρ M P ag hf k=>⟨Z,F,ρ,M,_,ag,hf,λv H' F' d ρ' M' s' ag' r h=>k v H' F' _ ρ' M' s' ag' (by rw [RU];exact r) h⟩⟩
def uNu (f:WN):WUA:=λρ M P=>f ρ M λds ρ1 M1=>P (ds.map U.d) ρ1 M1
theorem qih_ (h:JN X e fn):JNU X e (uNu fn):=⟨imE h.h λσ H Q hh=>ex5 hh λZ F ρ M P ag hf k=>⟨Z,F,ρ,M,_,ag,hf,λp vs H' F' ds ρ' M' s' ag' n2 n3 n4 nz n5 r h=>k p vs H' F' _ ρ' M' s' ag' n2 n3 n4 nz n5 (.ofD r) h⟩⟩
def uNew (f:WUA):WU:=λρ M P=>f ρ M λus ρ1 M1=>∀p,M1 p=none->P (.adr p) ρ1 (mset M1 p (.own us))
theorem qe2_ (h:JNU X e gl):JU X e (uNew gl):=⟨imE h.h λσ H Q hh=>ex5 hh λZ F ρ M P ag hf k=>⟨Z,F,ρ,M,_,ag,hf,λp vs H' F' us ρ' M' s' ag' n2 n3 n4 nz n5 r h=>k _ H' F' _ ρ' _ s' (ag'.adopt n2 n3 n4 nz n5 r) (by rw [RU]) (h p n4)⟩⟩
def uV (i:Nat):WU:=λρ M P=>match ρ[i]? with
 |some (.sh d)=>P (.d d) ρ M
 |some (.ut u)=>P u ρ M
 |some (.rf p)=>P (.adr p) ρ M
 |some (.ow ds)=>∀p,M p=none->P (.adr p) (ρ.set i (.rf p)) (mset M p (.own (ds.map U.d)))
 |_=>False
theorem ju_v (i:Nat) {x:Str} (hN:X.N[i]?=some x:=by rfl) (hv:Vis X.env.scope x:=by first|exact Or.inl rfl|exact Or.inr (Or.inl rfl)|exact Or.inr (Or.inr rfl)) (hd:(x==("__debug__":Str))=false:=by decide) (hcd:(x==("__classdict__":Str))=false:=by decide):JU X (.Name x pos) (uV i):=⟨imE (L2.pv i hN hv hd hcd) λσ H Q hh=>ex5 hh λZ F ρ M P ag hf k=>by
 unfold uV at hf
 split at hf
 ·rename_i d hd
  obtain ⟨v,h1,h2⟩:=ag.en i _ hd
  exact ⟨v,qdd_ h1,k v H F _ ρ M (Same.refl _) ag (by rw [RU];exact h2) hf⟩
 ·rename_i u hd
  obtain ⟨v,h1,h2⟩:=ag.en i _ hd
  exact ⟨v,qdd_ h1,k v H F _ ρ M (Same.refl _) ag h2 hf⟩
 ·rename_i q hd
  have h1:(σ[i]?).join=some (.ref q):=ag.en i _ hd
  exact ⟨.ref q,qdd_ h1,k _ H F _ ρ M (Same.refl _) ag (by rw [RU]) hf⟩
 ·rename_i ds hd
  obtain ⟨q,vs,h1,h2,h3,h4,h5,h6⟩:=qci_ ag hd
  refine ⟨.ref q,h1,?_⟩
  have hi:i<ρ.length:=(List.getElem?_eq_some_iff.mp hd).1
  have ag1:Ag X.K Z F M H (ρ.set i (.rf q)) σ:=by
   have:=ag.put (i:=i) (e:= .rf q) (o:=some (.ref q)) rfl λ_ _ z=>nomatch z
   rw [qfw_ h1] at this
   exact this
  refine k _ H F _ _ _ (Same.refl _) (ag1.adopt h2 h3 h4 h5 (λj es hj z=>?_) (.ofD h6)) (by rw [RU]) (hf q h4)
  by_cases hji:j=i
  ·subst hji;rw [List.getElem?_set_self hi] at hj;cases hj
  ·rw [List.getElem?_set_ne (Ne.symm hji)] at hj
   exact ag.di i j ds es q (Ne.symm hji) hd hj h1 z
 ·exact hf.elim⟩
def uNil:WUA:=λρ M P=>P [] ρ M
def qvg_ (f:WU) (g:WUA):WUA:=λρ M P=>f ρ M λd ρ1 M1=>g ρ1 M1 λds ρ2 M2=>P (d::ds) ρ2 M2
theorem qd7_:JUA X [] uNil:=⟨imA qfp_ λσ H Q hh=>ex5 hh λZ F ρ M P ag hf k=>k [] H F [] ρ M (Same.refl _) ag .nil hf⟩
theorem qv_ (ha:JU X e ge) (hr:JUA X es gl) (hs:starEach (e::es) X.env=(false,eval e X.env)::starEach es X.env:=by rfl):JUA X (e::es) (qvg_ ge gl):=⟨imA (qc5_ ha.h hr.h hs) λσ H Q hh=>ex5 hh λZ F ρ M P ag hf k=>
 ⟨Z,F,ρ,M,_,ag,hf,λv H1 F1 d1 ρ1 M1 s1 ag1 r1 h1=>⟨Z,F1,ρ1,M1,_,ag1,h1,λvs H2 F2 ds ρ2 M2 s2 ag2 r2 h2=>k _ H2 F2 _ ρ2 M2 (s1.trans s2) ag2 (.cons (r1.same s2) r2) h2⟩⟩⟩
def uTup (f:WUA):WU:=λρ M P=>f ρ M λus ρ1 M1=>us.length<=sizeLine/\P (.tup us) ρ1 M1
theorem qk1_ {x1} (h:JUA X es gl):JU X (.Tuple es x1 pos) (uTup gl):=⟨imE (qo0_ h.h) λσ H Q hh=>ex5 hh λZ F ρ M P ag hf k=>⟨Z,F,ρ,M,_,ag,hf,λvs H1 F1 ds ρ1 M1 s1 ag1 r1 h1=>by
 refine ⟨by rw [<-r1.length];exact h1.1,λp hp=>?_⟩
 have s2:Same F1 (upd F1 p (.tup vs)):=Same.new (qb3_ ag1.m.sm hp)
 exact k _ _ (upd F1 p (.tup vs)) _ ρ1 M1 (s1.trans s2) (ag1.new hp) (by rw [RU];exact ⟨p,vs,rfl,SqT.of qt_,r1.same s2⟩) h1.2⟩⟩
def uRet (f:WU):WS:=λE ρ M=>f ρ M λu _ M1=>E.rt u M1
theorem qii_ (h:JU X e ge):JS X (.Return (some e) pos) (uRet ge):=⟨imS (ql1_ h.h) λD' σ H hh=>ex5 hh λZ F ρ M E ag hf k=>⟨Z,F,ρ,M,_,ag,hf,λv H' F' u ρ' M' s' ag' r h=>k.rt v H' F' u M' s' ag'.m r h⟩⟩
section
variable {i:Nat} {pos':Pos}
def uSet (i:Nat) (f:WU):WS:=λE ρ M=>f ρ M λu ρ1 M1=>E.nx (ρ1.set i (.ut u)) M1
theorem qfg_ (hN:X.N.Nodup) (hi:X.N[i]?=some x) (hx:Loc X.env.scope x) (he:JU X e ge) (hs:swapsWith e (some (.Name x pos')) pos.line X.env=pure false:=by rfl) (hf:X.fn x=true\/X.env.scope.names.lookup x=some .local:=by first|exact .inl rfl|exact .inr rfl|assumption):
  JS X (.Assign [.Name x pos'] e pos) (uSet i ge):=⟨imS (qgo_ hN hi hx he.h hs hf) λD' σ H hh=>ex5 hh λZ F ρ M E ag hf k=>⟨Z,F,ρ,M,_,ag,hf,λv H' F' d ρ' M' s' ag' r h=>k.nx _ H' F' _ M' s' (ag'.setU r) h⟩⟩
end
def uApp (fr fe:WU):WS:=λE ρ M=>fr ρ M λr ρ1 M1=>match r with
 | .adr p=>(∃us,M1 p=some (.own us))/\fe ρ1 M1 λu ρ2 M2=>∃us,M2 p=some (.own us)/\us.length<sizeLine/\E.nx ρ2 (mset M2 p (.own (us++[u])))
 |_=>False
theorem qg1_ {apos cpos:Pos} (hr:JU X a ga) (he:JU X e ge) (hbase:attributeBase a "append" X.env (eval a X.env)=eval a X.env:=by rfl)
  (hfew:((backTo cpos (starEach [e] X.env)).all (λx=> !x.1)&&(backToKw cpos (keywordEach [] X.env)).all (λx=>x.1.isSome)&&decide ([e].length+([]:List Keyword).length+(if ([]:List Keyword).isEmpty then 0 else 1)<30))=true:=by rfl)
  (hline:(apos.endLine==cpos.line)=true:=by rfl) (hs:starEach [e] X.env=[(false,eval e X.env)]:=by rfl) (hplain:(backTo cpos (starEach [] X.env)).any (·.1)=false:=by rfl)
  (hsw:swapsWith (.Call (.Attribute a "append" apos) [e] [] cpos) none pos.line X.env=pure false:=by rfl):JS X (.Expr (.Call (.Attribute a "append" apos) [e] [] cpos) pos) (uApp ga ge):=
 ⟨imS (qey_ (qon_ PySem.F.plainAttrs_list PySem.F.slot_list_append PySem.F.type_list_append qfm_ hr.h (qv_ he qd7_ hs).h hbase hfew hline hs hplain) hsw) λD' σ H hh=>ex5 hh λZ F ρ M E ag hf k=>⟨Z,F,ρ,M,_,ag,hf,λv H1 F1 r ρ1 M1 s1 ag1 r1 h1=>by
  split at h1
  ·rename_i q
   obtain ⟨⟨us0,e0⟩,h1⟩:=h1
   rw [RU] at r1
   subst r1
   obtain ⟨_,vs0,g1,g2⟩:=ag1.m.mo _ _ e0
   refine ⟨.inl ⟨rfl,vs0,SqL.of g1⟩,Z,F1,ρ1,M1,λws ρ2 M2=>∃u us,ws=[u]/\M2 q=some (.own us)/\us.length<sizeLine/\E.nx ρ2 (mset M2 q (.own (us++[u]))),ag1,?_,λws H2 F2 us' ρ2 M2 s2 ag2 r2 h2=>?_⟩
   ·show ge ρ1 M1 λd ρ1 M1=>∃u us,[d]=[u]/\_
    refine cast (congrArg _ ?_) h1
    funext u ρ2 M2
    refine propext ⟨λ⟨us,z1,z2,z3⟩=>⟨u,us,rfl,z1,z2,z3⟩,λ⟨u',us,z0,z1,z2,z3⟩=>?_⟩
    cases z0
    exact ⟨us,z1,z2,z3⟩
   ·obtain ⟨u,us,rfl,z1,z2,z3⟩:=h2
    rw [RUs] at r2
    obtain ⟨y,t,rfl,r3,r4⟩:=r2
    rw [RUs] at r4
    subst r4
    obtain ⟨_,vs,y1,y2⟩:=ag2.m.mo _ _ z1
    exact ⟨q,vs,y,rfl,rfl,y1,by rw [<-y2.length];exact z2,k.nx σ _ F2 _ _ (s1.trans s2) (ag2.chgM z1 (y2.append (.cons r3 .nil))) z3⟩
  ·exact h1.elim⟩⟩
end
end L4
namespace L4
open PySem PySem.Spec PyProof.Rows L2 L3
def qtb_ (fi:WI) (g:WG) (c:WT) (f:WU) (src:List (Option Nat)):WUA:=λρ M P=>fi ρ M λds ρ1 M1=>∃I:Nat->List U->Rho->Mm->Prop,I 0 [] (iniR src ρ1) M1/\
 (∀(i:Nat) d out ρ2 M2,ds[i]?=some d->I i out ρ2 M2->g d ρ2 M2 λρ3 M3=>c ρ3 M3 λb ρ4 M4=>if b=true then f ρ4 M4 λy ρ5 M5=>out.length<sizeLine/\I (i+1) (out++[y]) (clr ρ5) M5 else I (i+1) out (clr ρ4) M4)/\
 ∀out ρ2 M2,I ds.length out ρ2 M2->P out ρ1 M2
theorem qne_ {K:PySem.W.Frag} {fi:WI} {fg:WG} {fc:WT} {fe:WU} {src:List (Option Nat)} {g:TG} {tc:TT} {te:TE} (hg:∀v σ H Q,lfG K fg v σ H Q->g v σ H Q) (hc:∀σ H Q,lfT K fc σ H Q->tc σ H Q) (he:∀σ H Q,lfU K fe σ H Q->te σ H Q):
  ∀σ H Q,lfNU K (qtb_ fi fg fc fe src) σ H Q->qmg_ (lfI K fi) g tc te src σ H Q:=
 qjn_ (R:=RU K) (RL:=RUs K) (λ_=> .nil) (λs r=>r.same s) (λr=>r.length) (λr q=>r.append (.cons q .nil)) hg hc he
section
variable {X:Cx} {a b c e tg elt iter:Expr} {es ifs:List Expr} {pos cpos pos' p2:Pos} {fi:WI} {fg:WG} {fc:WT} {fe:WU} {scope:Scope} {N:List Str} {src:List (Option Nat)} {x:Str} {k:Nat}
theorem quo_ (N:List Str) (src:List (Option Nat)) (ok:CompOk X scope N src) (hcalm:X.calm=true) (hi:JI X tg iter fi)
  (hg:∀pins s2 H2 C fp,JG (q0_ X pins s2 H2 N scope C fp) tg fg) (hc:∀pins s2 H2 C fp,JC (q0_ X pins s2 H2 N scope C fp) ifs fc) (he:∀pins s2 H2 C fp,JU (q0_ X pins s2 H2 N scope C fp) elt fe)
  (hs:∀x,foldedSetIterable iter X.env x=pure x:=by intro _;rfl):JNU X (.ListComp elt [⟨tg,iter,ifs,0⟩] scope pos) (qtb_ fi fg fc fe src):=
 ⟨imE (ql3_ N src ok hcalm hi.h (λa b c d e=>(hg a b c d e).h) (λa b c d e=>(hc a b c d e).h) (λa b c d e=>(he a b c d e).h) hs) (qne_ (λ_ _ _ _ h=>h) (λ_ _ _ h=>h) λ_ _ _ h=>h)⟩
end
def spN (K:PySem.W.Frag) (g:List D->(D->Prop)->Prop):Sp:=λvs H Q _=>∃Z F M ds P,AgM K Z F M H/\Rps K F ds vs/\g ds P/\∀v H' F' u d M',Same F F'->AgM K Z F' M' H'->RU K F' u v->Fresh M M' d u->P d->Q v H'
def uFn (g:List D->(D->Prop)->Prop) (fl:WA):WU:=λρ M P=>fl ρ M λds ρ1 M1=>g ds λd=>∀u M2,Fresh M1 M2 d u->P u ρ1 M2
section
variable {X:Cx} {e:Expr} {es:List Expr} {pos p:Pos} {fl:WA} {x:Str} {g:List D->(D->Prop)->Prop} {k:Nat} {ps:List Str}
theorem j_hN (F:Has X.prog X.w X.K X.mg X.base CX0 k x ps (spN X.K g)) (hr:Room k X.A) (hg:Gl X x) (ha:JA X (e::es) fl) (hdb:(x==("__debug__":Str))=false:=by decide) (he:starEach (e::es) X.env=(false,eval e X.env)::starEach es X.env:=by rfl) (hpl:(backTo pos (starEach es X.env)).any (·.1)=false:=by rfl):
  JU X (.Call (.Name x p) (e::es) [] pos) (uFn g fl):=⟨imE (pe_h F hr hg qov_ ha.h hdb he hpl) λσ H Q hh=>ex5 hh λZ F ρ M P ag hf k=>⟨Z,F,ρ,M,_,ag,hf,λvs H1 F1 ds ρ1 M1 s1 ag1 r1 h1=>by
 show spN X.K g (vs++[]) H1 Q E0
 rw [List.append_nil]
 exact ⟨_,F1,M1,ds,_,ag1.m.inner,r1,h1,λv H' F' u d M' s' m' r fr h=>k v H' F' u ρ1 M' (s1.trans s') (ag1.back s' m') r (h u M' fr)⟩⟩⟩
end
def frz (A:List Addr) (H F:Hp):Hp:=λq=>if q∈A then H q else F q
theorem qfi_ {A:List Addr} {H F:Hp} {q:Addr} (h:q∈A):frz A H F q=H q:=if_pos h
theorem qb0_ {A:List Addr} {H F:Hp} {q:Addr} (h:q∉A):frz A H F q=F q:=if_neg h
section
variable {K:PySem.W.Frag} {Z F H:Hp} {M:Mm} {A:List Addr}
theorem qb9_ (a:AgM K Z F M H) (hA:∀p∈A,∃us,M p=some (.own us)):Same F (frz A H F):=λq u e=>by
 rw [qb0_];exact e
 intro hq
 obtain ⟨us,h⟩:=hA q hq
 rw [(a.mo q _ h).1] at e;cases e
theorem qd6_ (a:AgM K Z F M H):Same (frz A H F) H:=λq u e=>by
 by_cases h:q∈A
 ·rw [qfi_ h] at e;exact e
 ·rw [qb0_ h] at e;exact a.sm q u e
end
theorem spN.toW {K:PySem.W.Frag} {g:List D->(D->Prop)->Prop} {vs:List V} {H:Hp} {Q:VK} {E:XK} (h:spW K (pur g) vs H Q E):spN K g vs H Q E:=by
 obtain ⟨Z,F,M,ds,P,a,r,hg,k⟩:=h
 refine ⟨Z,F,M,ds,_,a,r,hg,λv H' F' u d M' s' a' ru fr pd=>?_⟩
 obtain ⟨A,h1,h2,h3,h4⟩:=fr
 have th:=h1.there
 refine k v H' (frz A H' F') d M (s'.trans (qb9_ a' th)) ⟨qd6_ a',λq o e=>?_,λq o e=>?_⟩ (h1.rp a' (qb9_ a' th) (λq hq=>qfi_ hq) ru) pd
 ·obtain ⟨z1,z2,z3⟩:=a'.zz q o e
  have nq:q∉A:=λhq=>by obtain ⟨_,y⟩:=th q hq;rw [z3] at y;cases y
  exact ⟨z1,by rw [qb0_ nq];exact z2,by rw [<-h4 q nq];exact z3⟩
 ·have nq:q∉A:=λhq=>by rw [h3 q hq] at e;cases e
  obtain ⟨z1,z2⟩:=a'.mo q o ((h4 q nq).trans e)
  exact ⟨by rw [qb0_ nq];exact z1,z2.same (qb9_ a' th) rfl⟩
theorem _root_.L3.Has.toW {P:Program} {w:World} {K:PySem.W.Frag} {mg:Str->Option Value} {base:Heap} {k:Nat} {x:Str} {ps:List Str} {g:List D->(D->Prop)->Prop} (h:Has P w K mg base CX0 k x ps (spN K g)):Has P w K mg base CX0 k x ps (spW K (pur g)):=by
 obtain ⟨f,fd,F,b,kp,m⟩:=h.ex
 exact ⟨f,fd,F.imp λvs H Q E h=>spN.toW h,b,kp,m⟩
def endN (M:Mm) (Q:D->Prop):WEnds:=⟨λ_ _=>False,λu M'=>∃d M'',Sub M'' M'/\Fresh M M'' d u/\Q d,λ_ _=>False,λ_ _=>False⟩
theorem _root_.L3.Def.hasN {P:Program} {w:World} {K:PySem.W.Frag} {mg:Str->Option Value} {base:Heap} {k:Nat} {x:Str} {st:Stmt} {N ps:List Str} {g:List D->(D->Prop)->Prop} (F:Def K mg x st ps) (sc:FnScope N ps (qe_ st)) (len:∀ds P,g ds P->ds.length=ps.length)
  (hbody:∀(f:Addr) (cdv:Value) (A:Around) (outer:List Env) (s:Shared) (H:Hp) (E:XK),Room k (A.deeper (envOfC x (qe_ st) s.heap.objs.size f cdv))->
   ∃G,JSs (cxOf CX0 P w K mg base N x (qe_ st) f cdv A outer s H E).nox (q8_ st) G/\∀ds M Q,g ds Q->G (endN M Q) (qdm_ N ds) M):Has P w K mg base CX0 (k+1) x ps (spN K g):=by
 refine F.has sc (λvs H Q E h=>?_) λf cdv A outer s H vs Q E hr h=>?_
 ·obtain ⟨Z,F',M,ds,P,m,r,hg,_⟩:=h
  rw [<-r.length]
  exact len ds P hg
 ·obtain ⟨Z,F',M,ds,P',m,r,hg,kk⟩:=h
  obtain ⟨G,hG,hh⟩:=hbody f cdv A outer s H E hr
  exact ⟨_,hG.h,Z,F',qdm_ N ds,M,endN M P',qg8_ N m r,hh ds M P' hg,⟨λ_ _ _ _ _ _ _ q=>q.elim,λ_ _ _ _ _ _ _ q=>q.elim,λ_ _ _ _ _ _ _ q=>q.elim,λv H' F2 u M' s' m' r' ⟨d,M2,hs,fr,q⟩=>kk v H' F2 u d M2 s' (m'.sub hs) r' fr q⟩⟩
def uOf:Option Ent->Option U
 |some (.ut u)=>some u
 |some (.rf p)=>some (.adr p)
 |_=>none
def wFrT (i:Nat) (f:WT):WT:=λρ M P=>match uOf ρ[i]? with
 |some u=>∃d A,Own M d u A/\f ((clr ρ).set i (.sh d)) (λ_=>none) λb _ _=>P b ρ M
 |none=>False
section
variable {X:Cx} {e:Expr} {ft:WT} {i:Nat}
theorem qjh_ {K:PySem.W.Frag} {Z F H:Hp} {M:Mm} {ρ:Rho} {σ:L2.St} {i:Nat} {u:U} {d:D} {A:List Addr} (ag:Ag K Z F M H ρ σ) (hu:uOf ρ[i]?=some u) (ow:Own M d u A):Ag K (Zof (frz A H F) (λ_=>none) H) (frz A H F) (λ_=>none) H ((clr ρ).set i (.sh d)) σ:=by
 have th:=ow.there
 have sF:=qb9_ ag.m th
 have hv:∃v,σ[i]?=some (some v)/\RU K F u v:=by
  cases q:ρ[i]? with
  |none=>rw [q] at hu;cases hu
  |some en=>
   rw [q] at hu
   have hen:=ag.en i en q
   cases en with
   |ut w=>cases hu;obtain ⟨v,h1,h2⟩:=hen;exact ⟨v,qdd_ h1,h2⟩
   |rf p=>cases hu;exact ⟨.ref p,qdd_ hen,by rw [RU]⟩
   |un=>cases hu
   |sh d=>cases hu
   |ow ds=>cases hu
 obtain ⟨v,hv1,hv2⟩:=hv
 have m1:AgM K (Zof (frz A H F) (λ_=>none) H) (frz A H F) (λ_=>none) H:=⟨qd6_ ag.m,λp o h=>qeh_ h,λ_ _ h=>(nomatch h)⟩
 have a1:Ag K (λ_=>none) (frz A H F) (λ_=>none) H (clr ρ) σ:=by
  have c0:Ag K (λ_=>none) F M H (clr ρ) σ:=qfx_ ag ⟨ag.m.sm,λp o e=>(nomatch e),ag.m.mo⟩
  refine ⟨⟨qd6_ ag.m,λp o e=>(nomatch e),λp o e=>(nomatch e)⟩,c0.len,λj en h=>?_,c0.di⟩
  have:=c0.en j en h
  cases en with
  |un=>trivial
  |sh d=>obtain ⟨v,h1,h2⟩:=this;exact ⟨v,h1,Rp.same sF h2⟩
  |rf p=>exact this
  |ut u=>obtain ⟨v,h1,h2⟩:=this;exact ⟨v,h1,RU.same sF h2⟩
  |ow ds'=>
   exfalso
   unfold clr at h
   rw [List.getElem?_map] at h
   cases q:ρ[j]? with
   |none=>rw [q] at h;cases h
   |some en=>rw [q] at h;cases en<;>cases h
 have a2:=qfx_ a1 m1
 have ce:clr (clr ρ)=clr ρ:=by
  unfold clr
  rw [List.map_map]
  congr 1
  funext en
  cases en<;>rfl
 rw [ce] at a2
 have a3:=a2.set (i:=i) (ow.rp ag.m sF (λq hq=>qfi_ hq) hv2)
 rw [qfw_ hv1] at a3
 exact a3
theorem qpd_ {K:PySem.W.Frag} {Z F G H H':Hp} {M:Mm} {ρ ρ':Rho} {σ σ':L2.St} {F':Hp} {M':Mm} (ag:Ag K Z F M H ρ σ) (sm:Same G H) (s':Same G F') (ag':Ag K (Zof G (λ_=>none) H) F' M' H' ρ' σ'):Ag K Z F M H' ρ σ:=by
 have sH:Same H H':=λq u e=>by
  cases h:G q with
  |none=>exact (ag'.m.zz q u (qft_ e h rfl)).1
  |some o=>
   have:=sm _ _ h
   rw [e] at this
   cases this
   exact ag'.m.sm _ _ (s' _ _ h)
 exact ag.grow (Same.refl _) sH (ag.m.sm.trans sH) λp h _=>h
theorem qs8_ (i:Nat) (h:JT X e ft):JT X e (wFrT i ft):=⟨imT h.h λσ H Q hh=>ex5 hh λZ F ρ M P ag hf k=>by
 unfold wFrT at hf
 split at hf
 ·rename_i u hu
  obtain ⟨d,A,ow,hf⟩:=hf
  exact ⟨_,_,_,_,_,qjh_ ag hu ow,hf,λb H' F' ρ' M' s' ag' hb=>k b H' F ρ M (Same.refl _) (qpd_ ag (qd6_ ag.m) s' ag') hb⟩
 ·exact hf.elim⟩
end
end L4
namespace L4
open PySem PySem.Spec PyProof.Rows L2 L3
section
variable {X:Cx} {a b c e:Expr} {es rest:List Expr} {pos p p2:Pos} {fa fb fe:WE} {ft:WT} {fl:WA} {ga gb ge:WU} {x:Str}
theorem qnz_:bootBuiltins "max"=some (.builtin "max"):=by decide+kernel
def RMx (g:Int->Int->Int):List D->(D->Prop)->Prop:=λxs P=>match xs with
 |[.int i,.int j]=>P (.int (g i j))
 |_=>False
theorem w_mx {g:Int->Int->Int}:CaW X (λxs H Q=>∃i j,xs=[.int i,.int j]/\Q (.int (g i j)) H) (RMx g):=by
 intro xs vs F H Q P sm rs h k
 unfold RMx at h
 split at h
 ·obtain ⟨v,u,rfl,r1,r2⟩:=rps2 rs
  rw [Rp] at r1 r2
  subst r1 r2
  exact ⟨_,_,rfl,k _ _ F H .rf (by rw [Rp]) h⟩
 ·exact h.elim
theorem quj_ (hg:Gl X "max") (hm:X.mg "max"=none) (hc:X.calm=true) (ha:JA X [a,b] fl) (he:starEach [a,b] X.env=(false,eval a X.env)::starEach [b] X.env:=by rfl) (hpl:(backTo pos (starEach [b] X.env)).any (·.1)=false:=by rfl):JE X (.Call (.Name "max" p) [a,b] [] pos) (qgi_ (RMx λi j=>if j>i then j else i) fl):=qf3_ (qm2_ hc) w_mx hg hm qnz_ ha (by decide) (by decide) he hpl
def qp0_:List D->(D->Prop)->Prop:=λxs P=>match xs with
 |[.lst ds]=>P (.tup ds)
 |[.tup ds]=>P (.tup ds)
 |_=>False
theorem qst_:CaW X (λxs H Q=>∃p ys,xs=[.ref p]/\((SqL X.K H p ys/\∀l,H l=none->Q (.ref l) (upd H l (.tup ys)))\/(SqT X.K H p ys/\Q (.ref p) H))) qp0_:=by
 intro xs vs F H Q P sm rs h k
 unfold qp0_ at h
 split at h
 ·obtain ⟨v,rfl,r⟩:=rps1 rs
  rw [Rp] at r
  obtain ⟨q,ws,rfl,h1,h2⟩:=r
  refine ⟨q,ws,rfl,.inl ⟨.inl (ql_ sm h1),λl hl=>?_⟩⟩
  have sn:Same F (upd F l (.tup ws)):=Same.new (qb3_ sm hl)
  exact k _ _ _ _ (.nw hl) (by rw [Rp];exact ⟨l,ws,rfl,SqT.of qt_,h2.same sn⟩) h
 ·obtain ⟨v,rfl,r⟩:=rps1 rs
  have r0:=r
  rw [Rp] at r
  obtain ⟨q,ws,rfl,h1,h2⟩:=r
  exact ⟨q,ws,rfl,.inr ⟨qbb_ sm h1,k _ _ F H .rf r0 h⟩⟩
 ·exact h.elim
theorem qo5_ (hg:Gl X "tuple") (hm:X.mg "tuple"=none) (ha:JA X [a] fl) (he:starEach [a] X.env=[(false,eval a X.env)]:=by rfl):JE X (.Call (.Name "tuple" p) [a] [] pos) (qgi_ qp0_ fl):=qj4_ qhg_ qst_ hg hm boot_tuple ha (by decide) (by decide) he rfl
def eU (f:WU):WE:=λρ M P=>f ρ M λu ρ1 M1=>match u with
 | .d x=>P x ρ1 M1
 |_=>False
theorem je_u (h:JU X e ge):JE X e (eU ge):=⟨imE h.h λσ H Q hh=>ex5 hh λZ F ρ M P ag hf k=>⟨Z,F,ρ,M,_,ag,hf,λv H' F' u ρ' M' s' ag' r h=>by
 split at h
 ·rw [RU] at r;exact k v H' F' _ ρ' M' s' ag' r h
 ·exact h.elim⟩⟩
end
section
variable {K:PySem.W.Frag} {Z F H:Hp} {M:Mm} {ρ:Rho} {σ:L2.St} {p:Addr}
end
section
variable {X:Cx} {e:Expr} {es:List Expr} {pos np p cpos pos':Pos} {fl:WA} {x y f:Str} {Pl:Pool} {gk:List D->Prop} {φ:HO->Prop} {k i:Nat} {ps:List Str}
end
end L4
namespace L4
open PySem PySem.Spec PyProof.Rows L2 L3
def qsz_ (ns:List Int):HO->Prop:=λo=>o= .lst (ns.map V.int)\/∃ob,o= .frz ob (.lst (ns.map V.int))
def ScrN (K:PySem.W.Frag) (M:Mm) (p:Addr) (ns:List Int):Prop:=ns.length<=63/\(M p=some (.op (qsz_ ns))\/∃(o:Obj) (its:Array Value) (n:Nat),K.lookup p=some o/\o.cls= .type "list"/\o.dict=none/\o.data= .seq its n/\its.size<=sizeLine/\Vals (ns.map V.int) its.toList)
def Scr (K:PySem.W.Frag):Pool:=λM p=>∃ns:List Int,ScrN K M p ns
section
variable {K:PySem.W.Frag}
theorem ScrN.sq {Z F H:Hp} {M:Mm} {p:Addr} {ns:List Int} (ag:AgM K Z F M H) (h:ScrN K M p ns):SqL K H p (ns.map V.int):=by
 obtain ⟨l,h|h⟩:=h
 ·obtain ⟨_,o,ho,e⟩:=ag.mo p _ h
  rcases e with rfl|⟨ob,rfl⟩
  ·exact .inl (.inl ho)
  ·exact .inl (.inr ⟨ob,ho⟩)
 ·exact .inr h
theorem ScrN.keep {M:Mm} {p q:Addr} {ns:List Int} {o:MO} (h:ScrN K M p ns) (hq:M q=none\/(∃u,M q=some u)/\q≠p):ScrN K (mset M q o) p ns:=by
 obtain ⟨l,h|h⟩:=h
 ·refine ⟨l,.inl ?_⟩
  rw [qu_];exact h
  rcases hq with hq|hq
  ·intro z;rw [z,hq] at h;cases h
  ·exact Ne.symm hq.2
 ·exact ⟨l,.inr h⟩
theorem Scr.start {H:Hp} {a:Addr} {ns:List Int} {N:List Str} (l:ns.length<=63) (h:SqL K H a (ns.map V.int)):∃M,Ag K (λ_=>none) (λ_=>none) M H (qd5_ N a []) (L2.start N [.ref a])/\ScrN K M a ns:=by
 rcases h with h|h
 ·refine ⟨mset (λ_=>none) a (.op (qsz_ ns)),qf5_ N ⟨λ_ _ e=>(nomatch e),λ_ _ e=>(nomatch e),λb o e=>?_⟩ .nil,l,.inl qm_⟩
  by_cases e1:b=a
  ·subst e1
   rw [qm_] at e
   cases e
   rcases h with h|⟨ob,h⟩
   ·exact ⟨rfl,_,h,.inl rfl⟩
   ·exact ⟨rfl,_,h,.inr ⟨ob,rfl⟩⟩
  ·rw [qu_ e1] at e;cases e
 ·exact ⟨λ_=>none,qf5_ N ⟨λ_ _ e=>(nomatch e),λ_ _ e=>(nomatch e),λb o e=>(nomatch e)⟩ .nil,l,.inr h⟩
end
section
variable {X:Cx} {a b c e:Expr} {es:List Expr} {pos np p cpos pos' spos:Pos} {fa fb fe fk:WE} {fl:WA} {ge:WU} {x y:Str}
def qs6_ (K:PySem.W.Frag) (i:Nat):WE:=λρ M P=>match ρ[i]? with
 |some (.rf q)=>∃ns,ScrN K M q ns/\P (.int ns.length) ρ M
 |_=>False
theorem qt0_ (i:Nat) (hg:Gl X "len") (hm:X.mg "len"=none) (hN:X.N[i]?=some x:=by rfl) (hv:Vis X.env.scope x:=by first|exact Or.inl rfl|exact Or.inr (Or.inl rfl)|exact Or.inr (Or.inr rfl)) (hd:(x==("__debug__":Str))=false:=by decide) (hcd:(x==("__classdict__":Str))=false:=by decide)
  (he:starEach [.Name x np] X.env=[(false,eval (.Name x np) X.env)]:=by rfl):JE X (.Call (.Name "len" p) [.Name x np] [] pos) (qs6_ X.K i):=by
 refine ⟨imE (qfb_ (pos:=pos) (p:=p) qdn_ hg hm boot_len (qc5_ (L2.pv (pos:=np) i hN hv hd hcd) qfp_ he) (by decide) (by decide) he rfl) λσ H Q hh=>ex5 hh λZ F ρ M P ag hf k=>?_⟩
 unfold qs6_ at hf
 split at hf
 ·rename_i q hq
  obtain ⟨ns,hs,hp⟩:=hf
  refine ⟨.ref q,qdd_ (ag.en i _ hq),q,_,rfl,.inl (hs.sq ag.m),k _ H F _ ρ M (Same.refl _) ag ?_ hp⟩
  rw [Rp,List.length_map]
 ·exact hf.elim
def wAtS (K:PySem.W.Frag) (i:Nat) (fk:WE):WE:=λρ M P=>match ρ[i]? with
 |some (.rf q)=>fk ρ M λk ρ1 M1=>match k with
  | .int j=>∃ns c,ScrN K M1 q ns/\atI ns j=some c/\P (.int c) ρ1 M1
  |_=>False
 |_=>False
theorem qr8_ {ns:List Int} {j c:Int} (h:atI ns j=some c):atI (ns.map V.int) j=some (.int c):=by
 unfold atI at h ⊢
 rw [List.length_map]
 cases e:ixN ns.length j with
 |none=>rw [e] at h;cases h
 |some i=>
  rw [e] at h
  show (ns.map V.int)[i]?=some (.int c)
  have h:ns[i]?=some c:=h
  rw [List.getElem?_map,h];rfl
theorem qvu_ (i:Nat) (hk:JE X b fk) (hN:X.N[i]?=some x:=by rfl) (hv:Vis X.env.scope x:=by first|exact Or.inl rfl|exact Or.inr (Or.inl rfl)|exact Or.inr (Or.inr rfl)) (hs:qfu_ b:=by intro _ _;rfl) (hd:(x==("__debug__":Str))=false:=by decide) (hcd:(x==("__classdict__":Str))=false:=by decide):
  JE X (.Subscript (.Name x np) b pos) (wAtS X.K i fk):=by
 refine ⟨imE (qoc_ (pos:=pos) qjq_ (L2.pv (pos:=np) i hN hv hd hcd) hk.h hs) λσ H Q hh=>ex5 hh λZ F ρ M P ag hf k=>?_⟩
 unfold wAtS at hf
 split at hf
 ·rename_i q hq
  refine ⟨.ref q,qdd_ (ag.en i _ hq),Z,F,ρ,M,_,ag,hf,λu H2 F2 dk ρ2 M2 s2 ag2 r2 h2=>?_⟩
  split at h2
  ·rename_i j
   rw [Rp] at r2
   obtain ⟨ns,c,hs,hc,hp⟩:=h2
   exact .inl ⟨q,_,j,.int c,rfl,r2,hs.sq ag2.m,qr8_ hc,k _ H2 F2 _ ρ2 M2 s2 ag2 (by rw [Rp]) hp⟩
  ·exact h2.elim
 ·exact hf.elim
def qu1_ (i:Nat) (fk:WE) (fe:WU):WS:=λE ρ M=>fe ρ M λu ρ1 M1=>match uOf ρ1[i]? with
 |some (.adr p)=>fk ρ1 M1 λk ρ2 M2=>match k with
  | .int j=>∃us n,M2 p=some (.own us)/\ixN us.length j=some n/\E.nx ρ2 (mset M2 p (.own (us.set n u)))
  |_=>False
 |_=>False
theorem qmj_ (i:Nat) {k:Expr} (he:JU X e ge) (hk:JE X k fk) (hN:X.N[i]?=some x:=by rfl) (hv:Vis X.env.scope x:=by first|exact Or.inl rfl|exact Or.inr (Or.inl rfl)|exact Or.inr (Or.inr rfl)) (hd:(x==("__debug__":Str))=false:=by decide) (hcd:(x==("__classdict__":Str))=false:=by decide)
  (ha:∀v,assign (.Subscript (.Name x np) k spos) X.env v=(do
   let ov <-holding [v] (eval (.Name x np) X.env)
   let iv <-holding [v,ov] (eval k X.env)
   standAt spos
   holding [v,ov,iv] (setItem ov iv v)
   release [v,ov,iv] []):=by intro _;rfl)
  (hs:swapsWithSole [.Subscript (.Name x np) k spos] e pos.line X.env=pure false:=by rfl) (hw:swappedStores [.Subscript (.Name x np) k spos] e X.env=pure none:=by rfl) (h1:(assignEach [.Subscript (.Name x np) k spos] X.env).map (·.2)=[assign (.Subscript (.Name x np) k spos) X.env]:=by rfl):
  JS X (.Assign [.Subscript (.Name x np) k spos] e pos) (qu1_ i fk ge):=⟨imS (qme_ he.h (qpo_ (L2.pv i hN hv hd hcd) hk.h qjx_ ha) hs hw h1) λD' σ H hh=>ex5 hh λZ F ρ M E ag hf k=>by
 refine ⟨Z,F,ρ,M,_,ag,hf,λv H1 F1 u ρ1 M1 s1 ag1 r1 h1=>?_⟩
 split at h1
 ·rename_i q hq
  have hv:σ[i]?=some (some (.ref q)):=by
   cases z:ρ1[i]? with
   |none=>rw [z] at hq;cases hq
   |some en=>
    rw [z] at hq
    have hen:=ag1.en i en z
    cases en with
    |ut w=>cases hq;obtain ⟨v,h1,h2⟩:=hen;rw [RU] at h2;subst h2;exact qdd_ h1
    |rf p=>cases hq;exact qdd_ hen
    |un=>cases hq
    |sh d=>cases hq
    |ow ds=>cases hq
  refine ⟨.ref q,hv,Z,F1,ρ1,M1,_,ag1,h1,λw H2 F2 dk ρ2 M2 s2 ag2 r2 h2=>?_⟩
  split at h2
  ·rename_i j
   rw [Rp] at r2
   obtain ⟨us,n,e1,e2,hp⟩:=h2
   obtain ⟨_,vs,g1,g2⟩:=ag2.m.mo _ _ e1
   exact ⟨q,vs,j,n,rfl,r2,g1,by rw [<-g2.length];exact e2,k.nx σ _ F2 _ _ (s1.trans s2) (ag2.chgM e1 (g2.set (r1.same s2) n)) hp⟩
  ·exact h2.elim
 ·exact h1.elim⟩
end
theorem Sub.mset {M M':Mm} {q:Addr} {o:MO} (s:Sub M M') (h:M q=none):Sub M (mset M' q o):=λp u e=>by
 rw [qu_ (λz=>by rw [z,h] at e;cases e)];exact s p u e
end L4
namespace L4
open PySem PySem.Spec PyProof.Rows L2 L3
section
variable {X:Cx} {e1 e2 e3:Expr} {f1 f2 f3:WE} {k1 k2 k3:Str} {j1 j2 j3:Nat} {pos p1 p2 p3 rpos:Pos}
end
section
variable {X:Cx} {es es2:List Expr} {pos np p p2 cpos:Pos} {fl fl2:WA} {x y f:Str} {Pl:Pool} {gk:List D->Prop} {φ:Int->HO->Prop} {g:List D->(D->Prop)->Prop} {k k':Nat} {b c:Int} {ps ps':List Str}
end
end L4
namespace L4
open PySem PySem.Spec PyProof.Rows L2 L3
def drp (A:List Addr) (F:Hp):Hp:=λq=>if q∈A then none else F q
theorem qlf_ {A:List Addr} {F:Hp} {q:Addr} (h:q∈A):drp A F q=none:=if_pos h
theorem qew_ {A:List Addr} {F:Hp} {q:Addr} (h:q∉A):drp A F q=F q:=if_neg h
section
variable {K:PySem.W.Frag} {F:Hp} {A:List Addr}
theorem qq6_ (hA:∀q∈A,∃vs,F q=some (.lst vs)) {a:Addr} {vs:List V} (h:SqT K F a vs):SqT K (drp A F) a vs:=by
 rcases h with h|h
 ·refine .inl ?_
  have na:a∉A:=λz=>by
   obtain ⟨ws,e⟩:=hA a z
   rcases h with h|⟨ob,h⟩
   ·rw [e] at h;cases h
   ·rw [e] at h;cases h
  rcases h with h|⟨ob,h⟩
  ·exact .inl (by rw [qew_ na];exact h)
  ·exact .inr ⟨ob,by rw [qew_ na];exact h⟩
 ·exact .inr h
mutual
theorem Rp.drp (hA:∀q∈A,∃vs,F q=some (.lst vs)):∀{d:D} {v:V},noL d=true->Rp K F d v->Rp K (drp A F) d v
 | .lst _,v,n,h=>by rw [noL] at n;cases n
 | .tup ds,v,n,h=>by
  rw [noL] at n
  rw [Rp] at h ⊢
  obtain ⟨b,vs,r1,r2,r3⟩:=h
  exact ⟨b,vs,r1,qq6_ hA r2,Rps.drp hA n r3⟩
 | .non,v,n,h=>by rw [Rp] at h ⊢;exact h
 | .bl b,v,n,h=>by rw [Rp] at h ⊢;exact h
 | .int b,v,n,h=>by rw [Rp] at h ⊢;exact h
 | .str b,v,n,h=>by rw [Rp] at h ⊢;exact h
theorem Rps.drp (hA:∀q∈A,∃vs,F q=some (.lst vs)):∀{d:List D} {v:List V},noLs d=true->Rps K F d v->Rps K (drp A F) d v
 |[],v,n,h=>by rw [Rps] at h ⊢;exact h
 |d::ds,v,n,h=>by
  rw [noLs,Bool.and_eq_true] at n
  rw [Rps] at h ⊢
  obtain ⟨x,r,h1,h2,h3⟩:=h
  exact ⟨x,r,h1,Rp.drp hA n.1 h2,Rps.drp hA n.2 h3⟩
end
end
section
variable {K:PySem.W.Frag} {Z F F' H H':Hp} {M M':Mm} {ρ:Rho} {σ:L2.St} {A:List Addr} {d d':D} {u u':U} {v:V}
theorem qsw_ (a:AgM K Z F M H) (ow:Own M d u A) (s':Same (frz A H F) F'):∀q∈A,∃vs,F' q=some (.lst vs):=λq hq=>by
 obtain ⟨us,e⟩:=ow.there q hq
 obtain ⟨_,vs,g,_⟩:=a.mo q _ e
 exact ⟨vs,s' _ _ (by rw [qfi_ hq];exact g)⟩
theorem qjv_ (a:AgM K Z F M H) (ow:Own M d u A) (s':Same (frz A H F) F'):Same F (drp A F'):=λq o e=>by
 have nq:q∉A:=λhq=>by
  obtain ⟨us,h⟩:=ow.there q hq
  rw [(a.mo q _ h).1] at e;cases e
 rw [qew_ nq]
 exact s' _ _ (by rw [qb0_ nq];exact e)
theorem qv2_ (a:AgM K Z F M H) (s':Same (frz A H F) F') (m':AgM K (Zof (frz A H F) (λ_=>none) H) F' M' H'):Same H H':=λq o e=>by
 cases h:frz A H F q with
 |none=>exact (m'.zz q o (qft_ e h rfl)).1
 |some o'=>
  have:=qd6_ a _ _ h
  rw [e] at this
  cases this
  exact m'.sm _ _ (s' _ _ h)
theorem qrm_ (ag:Ag K Z F M H ρ σ) (ow:Own M d u A) (s':Same (frz A H F) F') (m':AgM K (Zof (frz A H F) (λ_=>none) H) F' M' H'):Ag K Z (drp A F') M H' ρ σ:=by
 refine ag.grow (qjv_ ag.m ow s') (qv2_ ag.m s' m') (λq o e=>?_) λp h1 h2=>?_
 ·by_cases z:q∈A
  ·rw [qlf_ z] at e;cases e
  ·rw [qew_ z] at e;exact m'.sm _ _ e
 ·by_cases z:p∈A
  ·exact qlf_ z
  ·rw [qew_ z]
   cases e:H p with
   |none=>exact (h2 e).elim
   |some o=>exact (m'.zz p o (qft_ e (by rw [qb0_ z];exact h1) rfl)).2.1
theorem qtx_ (a:AgM K Z F M H) (s':Same (frz A H F) F') {p:Addr} (h1:F' p=none) (h2:Zof (frz A H F) (λ_=>none) H p=none):H p=none:=by
 cases e:H p with
 |none=>rfl
 |some o=>
  cases h:frz A H F p with
  |none=>rw [qft_ e h rfl] at h2;cases h2
  |some o'=>rw [s' _ _ h] at h1;cases h1
theorem qgt_ (a:AgM K Z F M H) {p:Addr} (h:H p=none):F p=none/\M p=none/\Z p=none:=by
 refine ⟨qb3_ a.sm h,?_,?_⟩
 ·cases q:M p with
  |none=>rfl
  |some o=>
   obtain ⟨_,k⟩:=a.mo p o q
   obtain ⟨u,hu⟩:=k.there
   rw [h] at hu;cases hu
 ·cases q:Z p with
  |none=>rfl
  |some o=>have:=(a.zz p o q).1;rw [h] at this;cases this
end
def nFr (i:Nat) (fn:WN):WN:=λρ M P=>match uOf ρ[i]? with
 |some u=>∃d A,Own M d u A/\fn ((clr ρ).set i (.sh d)) (λ_=>none) λds _ _=>noLs ds=true/\P ds ρ M
 |none=>False
section
variable {X:Cx} {e:Expr} {es:List Expr} {pos p:Pos} {fl:WA} {x:Str} {g:List D->(D->Prop)->Prop} {k i:Nat} {ps:List Str}
theorem qr9_ {K:PySem.W.Frag} {fn:WN} {σ:L2.St} {H:Hp} {Q:VK} (h:lfN K (nFr i fn) σ H Q):lfN K fn σ H Q:=by
 obtain ⟨Z,F,ρ,M,P,ag,hf,k⟩:=h
 unfold nFr at hf
 split at hf
 ·rename_i u hu
  obtain ⟨d,A,ow,hf⟩:=hf
  refine ⟨_,_,_,_,_,qjh_ ag hu ow,hf,λp vs H' F' ds ρ' M' s' ag' n2 n3 n4 nz n5 r h=>?_⟩
  have hp:=qtx_ ag.m s' n3 nz
  obtain ⟨y1,y2,y3⟩:=qgt_ ag.m hp
  refine k p vs H' (drp A F') ds ρ M (qjv_ ag.m ow s') (qrm_ ag ow s' ag'.m) n2 ?_ y2 y3 (λj es hj z=>?_) (Rps.drp (qsw_ ag.m ow s') h.1 r) h.2
  ·by_cases z:p∈A
   ·exact qlf_ z
   ·rw [qew_ z];exact n3
  ·obtain ⟨q,ws,h1,h2,_⟩:=ag.en j _ hj
   rw [z] at h1
   cases h1
   rw [hp] at h2;cases h2
 ·exact hf.elim
theorem qva_ {fn:WN} (i:Nat) (h:JN X e fn):JN X e (nFr i fn):=⟨imE h.h λσ H Q h=>qr9_ h⟩
end
section
variable {X:Cx} {a b c e tg elt iter:Expr} {es ifs:List Expr} {pos cpos pos' p2:Pos} {fe:WE} {fi:WI} {fg:WG} {fc:WT} {scope:Scope} {N:List Str} {src:List (Option Nat)} {x:Str} {k:Nat}
end
mutual
def Sees (M:Mm):D->U->List Addr->Prop
 | .lst ds,u,A=>(u= .d (.lst ds)/\A=[])\/∃p us B,u= .adr p/\M p=some (.own us)/\A=p::B/\Seess M ds us B
 | .tup ds,u,A=>(u= .d (.tup ds)/\A=[])\/∃us,u= .tup us/\Seess M ds us A
 | .non,u,A=>u= .d .non/\A=[]
 | .bl b,u,A=>u= .d (.bl b)/\A=[]
 | .int i,u,A=>u= .d (.int i)/\A=[]
 | .str x,u,A=>u= .d (.str x)/\A=[]
def Seess (M:Mm):List D->List U->List Addr->Prop
 |[],us,A=>us=[]/\A=[]
 |d::ds,us,A=>∃u r B C,us=u::r/\A=B++C/\Sees M d u B/\Seess M ds r C
end
theorem Sees.d {M:Mm} {d:D}:Sees M d (.d d) []:=by
 cases d with
 |lst ds=>rw [Sees];exact .inl ⟨rfl,rfl⟩
 |tup ds=>rw [Sees];exact .inl ⟨rfl,rfl⟩
 |non=>rw [Sees];exact ⟨rfl,rfl⟩
 |bl b=>rw [Sees];exact ⟨rfl,rfl⟩
 |int b=>rw [Sees];exact ⟨rfl,rfl⟩
 |str b=>rw [Sees];exact ⟨rfl,rfl⟩
theorem Seess.nil {M:Mm}:Seess M [] [] []:=by rw [Seess];exact ⟨rfl,rfl⟩
theorem Seess.cons {M:Mm} {d:D} {u:U} {ds:List D} {us:List U} {A B:List Addr} (h:Sees M d u A) (k:Seess M ds us B):Seess M (d::ds) (u::us) (A++B):=by
 rw [Seess];exact ⟨u,us,A,B,rfl,rfl,h,k⟩
theorem Seess.ds {M:Mm}:∀{ds:List D},Seess M ds (ds.map U.d) []
 |[]=> .nil
 |d::ds=>Seess.cons (A:=[]) (B:=[]) .d (Seess.ds (ds:=ds))
theorem Sees.flat {M:Mm} {ds:List D} {p:Addr} (h:M p=some (.own (ds.map U.d))):Sees M (.lst ds) (.adr p) [p]:=by
 rw [Sees];exact .inr ⟨p,_,[],rfl,h,rfl,.ds⟩
mutual
theorem Sees.there {M:Mm}:∀{d:D} {u:U} {A:List Addr},Sees M d u A->∀p∈A,∃us,M p=some (.own us)
 | .lst ds,u,A,h,q,hq=>by
  rw [Sees] at h
  rcases h with h|⟨p,us,B,h1,h2,h3,h4⟩
  ·rw [h.2] at hq;cases hq
  subst h3
  rcases List.mem_cons.mp hq with rfl|hq
  ·exact ⟨us,h2⟩
  ·exact Seess.there h4 q hq
 | .tup ds,u,A,h,q,hq=>by
  rw [Sees] at h
  rcases h with ⟨_,h⟩|⟨us,h1,h2⟩
  ·subst h;cases hq
  ·exact Seess.there h2 q hq
 | .non,u,A,h,q,hq=>by rw [Sees] at h;rw [h.2] at hq;cases hq
 | .bl b,u,A,h,q,hq=>by rw [Sees] at h;rw [h.2] at hq;cases hq
 | .int b,u,A,h,q,hq=>by rw [Sees] at h;rw [h.2] at hq;cases hq
 | .str b,u,A,h,q,hq=>by rw [Sees] at h;rw [h.2] at hq;cases hq
theorem Seess.there {M:Mm}:∀{d:List D} {u:List U} {A:List Addr},Seess M d u A->∀p∈A,∃us,M p=some (.own us)
 |[],u,A,h,q,hq=>by rw [Seess] at h;rw [h.2] at hq;cases hq
 |d::ds,u,A,h,q,hq=>by
  rw [Seess] at h
  obtain ⟨x,r,B,C,h1,h2,h3,h4⟩:=h
  subst h2
  rcases List.mem_append.mp hq with hq|hq
  ·exact Sees.there h3 q hq
  ·exact Seess.there h4 q hq
end
section
variable {K:PySem.W.Frag} {Z F G H:Hp} {M:Mm}
mutual
theorem Sees.rp (a:AgM K Z F M H) (s:Same F G):∀{d:D} {u:U} {A:List Addr} {v:V},Sees M d u A->(∀q∈A,G q=H q)->RU K F u v->Rp K G d v
 | .lst ds,u,A,v,h,hA,r=>by
  rw [Sees] at h
  rcases h with h|⟨p,us,B,rfl,h2,rfl,h4⟩
  ·rw [h.1,RU] at r;exact Rp.same s r
  rw [RU] at r
  obtain ⟨_,vs,g1,g2⟩:=a.mo p _ h2
  rw [Rp]
  exact ⟨p,vs,r,.inl ((hA p (by simp)).trans g1),Seess.rps a s h4 (λq hq=>hA q (by simp [hq])) g2⟩
 | .tup ds,u,A,v,h,hA,r=>by
  rw [Sees] at h
  rcases h with ⟨rfl,_⟩|⟨us,rfl,h2⟩
  ·rw [RU] at r;exact Rp.same s r
  ·rw [RU] at r
   obtain ⟨b,vs,r1,r2,r3⟩:=r
   rw [Rp]
   exact ⟨b,vs,r1,qbb_ s r2,Seess.rps a s h2 hA r3⟩
 | .non,u,A,v,h,hA,r=>by rw [Sees] at h;rw [h.1,RU] at r;exact Rp.same s r
 | .bl b,u,A,v,h,hA,r=>by rw [Sees] at h;rw [h.1,RU] at r;exact Rp.same s r
 | .int b,u,A,v,h,hA,r=>by rw [Sees] at h;rw [h.1,RU] at r;exact Rp.same s r
 | .str b,u,A,v,h,hA,r=>by rw [Sees] at h;rw [h.1,RU] at r;exact Rp.same s r
theorem Seess.rps (a:AgM K Z F M H) (s:Same F G):∀{d:List D} {u:List U} {A:List Addr} {v:List V},Seess M d u A->(∀q∈A,G q=H q)->RUs K F u v->Rps K G d v
 |[],u,A,v,h,hA,r=>by rw [Seess] at h;rw [h.1,RUs] at r;rw [Rps];exact r
 |d::ds,u,A,v,h,hA,r=>by
  rw [Seess] at h
  obtain ⟨x,t,B,C,rfl,rfl,h3,h4⟩:=h
  rw [RUs] at r
  obtain ⟨y,z,r1,r2,r3⟩:=r
  rw [Rps]
  exact ⟨y,z,r1,Sees.rp a s h3 (λq hq=>hA q (by simp [hq])) r2,Seess.rps a s h4 (λq hq=>hA q (by simp [hq])) r3⟩
end
end
end L4
namespace L4
open PySem PySem.Spec PyProof.Rows L2 L3
section
variable {X:Cx} {pins:List (Addr×Obj)} {σ:L2.St} {H:Hp} {s:Shared}
mutual
theorem qrp_ (I:Inv X pins σ H s):∀{d:D} {v:V} {u:Value},kOk d=true->Rp X.K H d v->RelV v u->HD s.heap d u
 | .int i,v,u,n,r,rv=>by rw [Rp] at r;subst r;obtain ⟨t,rfl⟩:=rv;rw [HD];exact ⟨t,rfl⟩
 | .tup ds,v,u,n,r,rv=>by
  rw [Rp] at r
  obtain ⟨a,vs,rfl,r2,r3⟩:=r
  cases rv
  obtain ⟨its,q1,q2,_⟩:=I.tuple r2
  rw [HD]
  rw [kOk] at n
  exact ⟨a,its.toArray,rfl,q2,qo8_ I n r3 q1⟩
 | .non,v,u,n,r,rv=>by rw [kOk] at n;cases n
 | .bl _,v,u,n,r,rv=>by rw [kOk] at n;cases n
 | .str _,v,u,n,r,rv=>by rw [kOk] at n;cases n
 | .lst _,v,u,n,r,rv=>by rw [kOk] at n;cases n
theorem qo8_ (I:Inv X pins σ H s):∀{d:List D} {v:List V} {u:List Value},kOks d=true->Rps X.K H d v->Vals v u->HDs s.heap d u
 |[],v,u,n,r,rv=>by rw [Rps] at r;subst r;cases rv;rw [HDs]
 |d::ds,v,u,n,r,rv=>by
  rw [Rps] at r
  obtain ⟨x,t,rfl,r1,r2⟩:=r
  rw [kOks,Bool.and_eq_true] at n
  cases rv with
  |cons h1 h2=>rw [HDs];exact ⟨_,_,rfl,qrp_ I n.1 r1 h1,qo8_ I n.2 r2 h2⟩
end
end
section
variable {K:PySem.W.Frag} {Z F H:Hp} {M:Mm} {ρ:Rho} {σ:L2.St} {p:Addr}
theorem Ag.adoptM {o:HO} {mo:MO} (ag:Ag K Z F M H ρ σ) (n2:H p=some o) (n3:F p=none) (n4:M p=none) (nz:Z p=none) (n5:∀(j:Nat) (es:List D),ρ[j]?=some (.ow es)->σ[j]?≠some (some (.ref p))) (r:MOk K F H p mo):Ag K Z F (mset M p mo) H ρ σ:=by
 refine ⟨⟨ag.m.sm,λq o e=>?_,λq o e=>?_⟩,ag.len,λi e h=>?_,ag.di⟩
 ·obtain ⟨z1,z2,z3⟩:=ag.m.zz q o e
  exact ⟨z1,z2,by rw [qu_ (λz=>by rw [z,nz] at e;cases e)];exact z3⟩
 ·by_cases z:q=p
  ·subst z
   rw [qm_] at e
   cases e
   exact ⟨n3,r⟩
  ·rw [qu_ z] at e;exact ag.m.mo q o e
 ·have:=ag.en i e h
  cases e with
  |un=>trivial
  |sh d=>exact this
  |rf p=>exact this
  |ut u=>exact this
  |ow ds=>
   obtain ⟨q,ws,h1,h2,h3,h4,h6,h5⟩:=this
   exact ⟨q,ws,h1,h2,h3,by rw [qu_ (λz=>n5 i ds h (by rw [<-z];exact qdd_ h1))];exact h4,h6,h5⟩
theorem Ag.chgO {o:MO} {mo:MO} {ho:HO} (ag:Ag K Z F M H ρ σ) (hp:M p=some o) (r:MOk K F (upd H p ho) p mo):Ag K Z F (mset M p mo) (upd H p ho) ρ σ:=by
 obtain ⟨f0,k0⟩:=ag.m.mo p _ hp
 have ne:∀{q:Addr} {u:HO},F q=some u->q≠p:=λe z=>by rw [z,f0] at e;cases e
 refine ⟨⟨λq u e=>by rw [qo_ (ne e)];exact ag.m.sm q u e,λq o e=>?_,λq o e=>?_⟩,ag.len,λi e h=>?_,ag.di⟩
 ·obtain ⟨z1,z2,z3⟩:=ag.m.zz q o e
  have:q≠p:=λz=>by rw [z,hp] at z3;cases z3
  exact ⟨by rw [qo_ this];exact z1,z2,by rw [qu_ this];exact z3⟩
 ·by_cases z:q=p
  ·subst z
   rw [qm_] at e
   cases e
   exact ⟨f0,r⟩
  ·rw [qu_ z] at e
   obtain ⟨z1,z2⟩:=ag.m.mo q o e
   exact ⟨z1,z2.same (Same.refl _) (qo_ z)⟩
 ·have:=ag.en i e h
  cases e with
  |un=>trivial
  |sh d=>exact this
  |rf p=>exact this
  |ut u=>exact this
  |ow ds=>
   obtain ⟨q,ws',h1,h2,h3,h4,h6,h5⟩:=this
   have hne:q≠p:=λz=>by rw [z,hp] at h4;cases h4
   exact ⟨q,ws',h1,by rw [qo_ hne];exact h2,h3,by rw [qu_ hne];exact h4,h6,h5⟩
end
theorem TKp.keys {K:PySem.W.Frag} {F:Hp}:∀{kvs:List (D×D)} {xs:List (D×Addr×Value)},TKp K F kvs xs->kvs.map (·.1)=xs.map (·.1)
 |_,_,.nil=>rfl
 |_,_,.cons ⟨r1,_⟩ t=>by rw [List.map_cons,List.map_cons,r1,TKp.keys t]
theorem TKp.all {K:PySem.W.Frag} {F:Hp}:∀{kvs:List (D×D)} {xs:List (D×Addr×Value)},TKp K F kvs xs->∀x∈xs,(kOk x.1=true/\dep x.1<=8)/\Rp K F x.1 (.ref x.2.1)/\∃v,RelV v x.2.2
 |_,_,.nil,x,hx=>by cases hx
 |_,_,.cons ⟨r1,r2,r3,v,r4,_⟩ t,x,hx=>by
  rcases List.mem_cons.mp hx with rfl|hx
  ·rw [r1] at r2 r3;exact ⟨r2,r3,v,r4⟩
  ·exact TKp.all t x hx
theorem TKp.vals {K:PySem.W.Frag} {F:Hp}:∀{kvs:List (D×D)} {xs:List (D×Addr×Value)},TKp K F kvs xs->∃vs,Vals vs (xs.map λx=>x.2.2)/\Rps K F (kvs.map (·.2)) vs
 |_,_,.nil=>⟨[],.nil,.nil⟩
 |_,_,.cons ⟨r1,r2,r3,v,r4,r5⟩ t=>by
  obtain ⟨vs,h1,h2⟩:=TKp.vals t
  exact ⟨v::vs,.cons r4 h1,.cons r5 h2⟩
theorem TKp.snoc {K:PySem.W.Frag} {F:Hp} {q:D×D} {x:D×Addr×Value} (h:q.1=x.1/\(kOk q.1=true/\dep q.1<=8)/\Rp K F q.1 (.ref x.2.1)/\∃v,RelV v x.2.2/\Rp K F q.2 v):∀{kvs:List (D×D)} {xs:List (D×Addr×Value)},TKp K F kvs xs->TKp K F (kvs++[q]) (xs++[x])
 |_,_,.nil=> .cons h .nil
 |_,_,.cons r t=> .cons r (TKp.snoc h t)
theorem atKey_none_iff {xs:List (D×Addr×Value)} {k:D}:atKey xs k=none↔k∉xs.map (·.1):=by
 unfold atKey
 rw [Option.map_eq_none_iff,List.find?_eq_none]
 constructor
 ·intro h m
  obtain ⟨x,hx,e⟩:=List.mem_map.mp m
  exact h x hx (decide_eq_true e)
 ·intro h x hx e
  exact h (List.mem_map.mpr ⟨x,hx,of_decide_eq_true e⟩)
open Classical in
noncomputable def sdK (kvs:List (D×D)) (k d:D):List (D×D):=if k∈kvs.map (·.1) then kvs else kvs++[(k,d)]
theorem qrf_ {M:Mm} {p:Addr} {o:MO} (h:M p=some o):mset M p o=M:=by
 funext q
 by_cases z:q=p
 ·subst z;rw [qm_,h]
 ·rw [qu_ z]
section
variable {X:Cx} {a b c e f:Expr} {es:List Expr} {pos np p apos cpos pos' dpos:Pos} {fl:WA} {x y:Str} {i:Nat}
def qwf_ (i:Nat):WS:=λE ρ M=>∀p,M p=none->E.nx (ρ.set i (.rf p)) (mset M p (.tk []))
theorem qq4_ (hN:X.N.Nodup) (hi:X.N[i]?=some x) (hx:Loc X.env.scope x) (hs:swapsWith (.Dict [] [] dpos) (some (.Name x pos')) pos.line X.env=pure false:=by rfl) (hf:X.fn x=true\/X.env.scope.names.lookup x=some .local:=by first|exact .inl rfl|exact .inr rfl|assumption):
  JS X (.Assign [.Name x pos'] (.Dict [] [] dpos) pos) (qwf_ i):=⟨imS (qgo_ hN hi hx qnr_ hs hf) λD' σ H hh=>ex5 hh λZ F ρ M E ag hf k=>by
 intro p hp
 obtain ⟨y1,y2,y3⟩:=qgt_ ag.m hp
 have a1:=(ag.newO (o:= .ext (IsDT p [])) hp).adoptM (mo:= .tk []) qt_ y1 y2 y3 (λj es h z=>by
  obtain ⟨q,ws,h1,h2,_⟩:=ag.en j _ h
  rw [z] at h1
  cases h1
  rw [hp] at h2;cases h2) ⟨[],qt_,.nil⟩
 exact k.nx _ _ F _ _ (Same.refl _) (a1.put (i:=i) (e:= .rf p) (o:=some (.ref p)) rfl λ_ _ z=>nomatch z) (hf p y2)⟩
def wSD (i:Nat) (fl:WA):WS:=λE ρ M=>match ρ[i]? with
 |some (.rf q)=>(∃kvs,M q=some (.tk kvs))/\fl ρ M λds ρ2 M2=>∃(ks:List D) (d:D) (kvs:List (D×D)),ds=[.tup ks,d]/\M2 q=some (.tk kvs)/\kOk (.tup ks)=true/\dep (.tup ks)<=8/\kvs.length<sizeLine/\E.nx ρ2 (mset M2 q (.tk (sdK kvs (.tup ks) d)))
 |_=>False
theorem qv3_ (i:Nat) (hu:X.A.units+10<cLine) (ha:JA X [e,f] fl) (hN:X.N[i]?=some x:=by rfl) (hv:Vis X.env.scope x:=by first|exact Or.inl rfl|exact Or.inr (Or.inl rfl)|exact Or.inr (Or.inr rfl)) (hd:(x==("__debug__":Str))=false:=by decide) (hcd:(x==("__classdict__":Str))=false:=by decide)
  (hbase:attributeBase (.Name x np) "setdefault" X.env (eval (.Name x np) X.env)=eval (.Name x np) X.env:=by rfl)
  (hfew:((backTo cpos (starEach [e,f] X.env)).all (λx=> !x.1)&&(backToKw cpos (keywordEach [] X.env)).all (λx=>x.1.isSome)
   &&decide ([e,f].length+([]:List Keyword).length+(if ([]:List Keyword).isEmpty then 0 else 1)<30))=true:=by rfl)
  (hline:(apos.endLine==cpos.line)=true:=by rfl) (hs:starEach [e,f] X.env=(false,eval e X.env)::starEach [f] X.env:=by rfl) (hplain:(backTo cpos (starEach [f] X.env)).any (·.1)=false:=by rfl)
  (hsw:swapsWith (.Call (.Attribute (.Name x np) "setdefault" apos) [e,f] [] cpos) none pos.line X.env=pure false:=by rfl):
  JS X (.Expr (.Call (.Attribute (.Name x np) "setdefault" apos) [e,f] [] cpos) pos) (wSD i fl):=
 ⟨imS (qey_ (qu9_ hu (L2.pv (pos:=np) i hN hv hd hcd) ha.h hbase hfew hline hs hplain) hsw) λD' σ H hh=>ex5 hh λZ F ρ M E ag hf k=>by
  unfold wSD at hf
  split at hf
  ·rename_i q hq
   obtain ⟨⟨kvs0,m0⟩,hf⟩:=hf
   obtain ⟨_,xs0,hx0,_⟩:=ag.m.mo q _ m0
   refine ⟨.ref q,qdd_ (ag.en i _ hq),q,xs0,rfl,hx0,Z,F,ρ,M,_,ag,hf,λvs H2 F2 ds ρ2 M2 s2 ag2 r2 h2=>?_⟩
   obtain ⟨ks,d,kvs,rfl,m2,ok,dk,lz,h2⟩:=h2
   obtain ⟨_,xs,hx,tk⟩:=ag2.m.mo q _ m2
   rw [Rps] at r2
   obtain ⟨v1,t,rfl,rk,r2⟩:=r2
   rw [Rps] at r2
   obtain ⟨v2,t2,rfl,rd,r2⟩:=r2
   rw [Rps] at r2
   subst r2
   have rk0:=rk
   rw [Rp] at rk
   obtain ⟨b,ws,rfl,_,_⟩:=rk
   have lx:kvs.length=xs.length:=by have:=congrArg List.length tk.keys;rw [List.length_map,List.length_map] at this;exact this
   refine ⟨b,v2,.tup ks,xs,rfl,hx,dk,by omega,λx h=>(tk.all x h).1.2,λpins s I=>⟨qrp_ I ok (Rp.same ag2.m.sm rk0) rfl,λx h=>qrp_ I (tk.all x h).1.1 (Rp.same ag2.m.sm (tk.all x h).2.1) rfl⟩,λp hp=>?_,λhn u ru=>?_⟩
   ·have hm:D.tup ks∈kvs.map (·.1):=by
     rw [tk.keys]
     apply Classical.byContradiction
     intro z
     rw [atKey_none_iff.mpr z] at hp;cases hp
    have:∃x∈xs,x.2=p:=by
     unfold atKey at hp
     rw [Option.map_eq_some_iff] at hp
     obtain ⟨x,h1,h2⟩:=hp
     exact ⟨x,List.mem_of_find?_eq_some h1,h2⟩
    obtain ⟨x,hx1,rfl⟩:=this
    obtain ⟨_,_,v',rv'⟩:=tk.all x hx1
    refine ⟨v',rv',k.nx σ _ F2 ρ2 M2 s2 ag2 ?_⟩
    rw [sdK,if_pos hm,qrf_ m2] at h2
    exact h2
   ·have hm:D.tup ks∉kvs.map (·.1):=by rw [tk.keys];exact atKey_none_iff.mp hn
    rw [sdK,if_neg hm] at h2
    exact k.nx σ _ F2 ρ2 _ s2 (ag2.chgO (mo:= .tk (kvs++[(.tup ks,d)])) m2 ⟨_,qt_,tk.snoc ⟨rfl,⟨ok,dk⟩,rk0,v2,ru,rd⟩⟩) h2
  ·exact hf.elim⟩
def qs0_ (i:Nat):WN:=λρ M P=>match ρ[i]? with
 |some (.rf q)=>∃kvs,M q=some (.tk kvs)/\kvs.length<=100000/\P (kvs.map (·.2)) ρ M
 |_=>False
theorem qqp_ {lp pos2:Pos} (i:Nat) (hgl:Gl X "list") (hml:X.mg "list"=none) (hc:X.calm=true) (hN:X.N[i]?=some x:=by rfl) (hv:Vis X.env.scope x:=by first|exact Or.inl rfl|exact Or.inr (Or.inl rfl)|exact Or.inr (Or.inr rfl)) (hd:(x==("__debug__":Str))=false:=by decide) (hcd:(x==("__classdict__":Str))=false:=by decide)
  (hbase:attributeBase (.Name x np) "values" X.env (eval (.Name x np) X.env)=eval (.Name x np) X.env:=by rfl) (hline:(apos.endLine==cpos.line)=true:=by rfl)
  (hs3:starEach [.Call (.Attribute (.Name x np) "values" apos) [] [] cpos] X.env=[(false,eval (.Call (.Attribute (.Name x np) "values" apos) [] [] cpos) X.env)]:=by rfl):
  JN X (.Call (.Name "list" lp) [.Call (.Attribute (.Name x np) "values" apos) [] [] cpos] [] pos) (qs0_ i):=
 ⟨imE (qif_ (pos2:=pos2) hgl hml hc (L2.pv (pos:=np) i hN hv hd hcd) hbase hline hs3) λσ H Q hh=>ex5 hh λZ F ρ M P ag hf k=>by
  unfold qs0_ at hf
  split at hf
  ·rename_i q hq
   obtain ⟨kvs,m0,lz,hf⟩:=hf
   obtain ⟨_,xs,hx,tk⟩:=ag.m.mo q _ m0
   obtain ⟨vs,v1,v2⟩:=tk.vals
   have lx:kvs.length=xs.length:=by have:=congrArg List.length tk.keys;rw [List.length_map,List.length_map] at this;exact this
   refine ⟨.ref q,qdd_ (ag.en i _ hq),q,xs,vs,rfl,hx,by omega,v1,λl hl=>?_⟩
   obtain ⟨n1,n2,n3,n4,nz,n5,n6⟩:=newN ag hl v2
   exact k l vs _ F _ ρ M (Same.refl _) n1 n2 n3 n4 nz n5 n6 hf
  ·exact hf.elim⟩
end
end L4
namespace L4
open PySem PySem.Spec PyProof.Rows L2 L3
theorem u10 {k:Nat} {A:Around} (r:Room k A):A.units+10<cLine:=by have:=Room.u60 r;omega
def qkt_ (lo:Int) (n:Nat):List D:=(List.range n).map λ(k:Nat)=>D.int (lo - (k:Int))
theorem qhf_ {lo:Int} {n:Nat}:(qkt_ lo n).length=n:=by unfold qkt_;simp
theorem qje_ {lo:Int} {n i:Nat} {d:D} (h:(qkt_ lo n)[i]?=some d):d= .int (lo - i)/\i<n:=by
 unfold qkt_ at h
 rw [List.getElem?_map] at h
 cases q:(List.range n)[i]? with
 |none=>rw [q] at h;cases h
 |some j=>
  rw [q] at h
  obtain ⟨hj,e⟩:=List.getElem?_eq_some_iff.mp q
  simp at e hj
  subst e
  simp at h
  exact ⟨h.symm,hj⟩
theorem qps_ {K:PySem.W.Frag} {F:Hp} (lo:Int) (n:Nat):ItOk K (Itd lo n) F (qkt_ lo n):=by
 refine ⟨λi F' H hi _ _=>?_,λF' H _ _=>?_,λi d F' H x H' hd s s' y=>?_⟩
 ·rw [qhf_] at hi;exact hi
 ·show n<=_
  rw [qhf_];exact Nat.le_refl _
 ·obtain ⟨rfl,rfl⟩:=y
  refine ⟨F',.rf,?_⟩
  obtain ⟨rfl,_⟩:=qje_ hd
  rw [Rp]
section
variable {X:Cx} {a b c e tg:Expr} {es:List Expr} {pos np p p2 pos2 apos cpos:Pos} {fl:WA} {fn:WN} {x:Str}
def wExt (i:Nat) (fn:WN):WS:=λE ρ M=>isOw ρ[i]?/\fn ρ M λds ρ1 M1=>match ρ1[i]? with
 |some (.ow es)=>es.length+ds.length<=sizeLine/\E.nx (ρ1.set i (.ow (es++ds))) M1
 |_=>False
theorem qqg_ (i:Nat) (hn:JN X e fn) (hN:X.N[i]?=some x:=by rfl) (hv:Vis X.env.scope x:=by first|exact Or.inl rfl|exact Or.inr (Or.inl rfl)|exact Or.inr (Or.inr rfl)) (hd:(x==("__debug__":Str))=false:=by decide) (hcd:(x==("__classdict__":Str))=false:=by decide)
  (hbase:attributeBase (.Name x np) "extend" X.env (eval (.Name x np) X.env)=eval (.Name x np) X.env:=by rfl)
  (hfew:((backTo cpos (starEach [e] X.env)).all (λx=> !x.1)&&(backToKw cpos (keywordEach [] X.env)).all (λx=>x.1.isSome)&&decide ([e].length+([]:List Keyword).length+(if ([]:List Keyword).isEmpty then 0 else 1)<30))=true:=by rfl)
  (hline:(apos.endLine==cpos.line)=true:=by rfl) (hs:starEach [e] X.env=[(false,eval e X.env)]:=by rfl) (hplain:(backTo cpos (starEach [] X.env)).any (·.1)=false:=by rfl)
  (hsw:swapsWith (.Call (.Attribute (.Name x np) "extend" apos) [e] [] cpos) none pos.line X.env=pure false:=by rfl):JS X (.Expr (.Call (.Attribute (.Name x np) "extend" apos) [e] [] cpos) pos) (wExt i fn):=
 ⟨imS (qey_ (qon_ PySem.F.plainAttrs_list PySem.F.slot_list_extend PySem.F.type_list_extend qma_ (L2.pv i hN hv hd hcd) (qc5_ hn.h qfp_ hs) hbase hfew hline hs hplain) hsw) λD' σ H hh=>ex5 hh λZ F ρ M E ag hf k=>by
  obtain ⟨ho,hf⟩:=hf
  obtain ⟨ds0,ho⟩:=qeu_ ho
  obtain ⟨p,vs,h1,h2,h3,h4,h5,h6⟩:=qci_ ag ho
  refine ⟨.ref p,h1,.inl ⟨rfl,vs,SqL.of h2⟩,Z,F,ρ,M,_,ag,hf,λq ws H1 F1 ds ρ1 M1 s1 ag1 n2 n3 n4 nz n5 r1 hh=>?_⟩
  split at hh
  ·rename_i es hd
   obtain ⟨p',us,g1,g2,g3,g4,g5,g6⟩:=qci_ ag1 hd
   rw [h1] at g1
   cases g1
   exact ⟨p,q,us,ws,rfl,rfl,g2,n2,by rw [<-g6.length,<-r1.length];exact hh.1,k.nx σ _ F1 _ M1 s1 (ag1.chg hd h1 g2 g3 g4 g5 (g6.append r1)) hh.2⟩
  ·exact hh.elim⟩
end
def qwa_ (k:Nat) (f:WN):WS:=λE ρ M=>f ρ M λds ρ1 M1=>E.nx (ρ1.set k (.sh (.lst ds))) M1
theorem qfd_ {X:Cx} {tg elt iter:Expr} {ifs:List Expr} {pos cpos pos':Pos} {fe:WE} {fi:WI} {fg:WG} {fc:WT} {scope:Scope} {x:Str} {k:Nat} (hN:X.N.Nodup) (hk:X.N[k]?=some x) (hx:Loc X.env.scope x) (N:List Str) (src:List (Option Nat)) (ok:CompOk X scope N src) (hcalm:X.calm=true) (hi:JI X tg iter fi)
  (hg:∀pins s2 H2 C fp,JG (q0_ X pins s2 H2 N scope C fp) tg fg) (hc:∀pins s2 H2 C fp,JC (q0_ X pins s2 H2 N scope C fp) ifs fc) (he:∀pins s2 H2 C fp,JE (q0_ X pins s2 H2 N scope C fp) elt fe)
  (hsw:swapsWith (.ListComp elt [⟨tg,iter,ifs,0⟩] scope cpos) (some (.Name x pos')) pos.line X.env=pure true:=by rfl)
  (hs:∀x,foldedSetIterable iter X.env x=pure x:=by intro _;rfl) (hfn:X.fn x=true\/X.env.scope.names.lookup x=some .local:=by first|exact .inl rfl|exact .inr rfl|assumption):
  JS X (.Assign [.Name x pos'] (.ListComp elt [⟨tg,iter,ifs,0⟩] scope cpos) pos) (qwa_ k (qor_ fi fg fc fe src)):=
 ⟨imS (qgj_ hN hk hx N src ok hcalm hi.h (λa b c d e=>(hg a b c d e).h) (λa b c d e=>(hc a b c d e).h) (λa b c d e=>(he a b c d e).h) hsw hs hfn) λD' σ H hh=>ex5 hh λZ F ρ M E ag hf kk=>
  qi6_ (λ_ _ _ _ h=>h) (λ_ _ _ h=>h) (λ_ _ _ h=>h) σ H _ ⟨Z,F,ρ,M,_,ag,hf,λp vs H' F' ds ρ' M' s' ag' n2 n3 n4 nz n5 r h=>by
   have a:=ag'.setO (i:=k) n2 n3 n4 nz r n5
   by_cases c:k<ρ'.length
   ·obtain ⟨F2,v,h1,h2,h3,h4⟩:=a.fz (i:=k) (ds:=ds) (by rw [List.getElem?_set_self c])
    rw [List.set_set] at h4
    exact kk.nx _ H' F2 _ M' (s'.trans h2) h4 h
   ·have e1:ρ'.set k (.ow ds)=ρ':=List.set_eq_of_length_le (by omega)
    have e2:ρ'.set k (.sh (.lst ds))=ρ':=List.set_eq_of_length_le (by omega)
    rw [e1] at a
    rw [e2] at h
    exact kk.nx _ H' F' _ M' s' a h⟩⟩
end L4
namespace L4
open PySem PySem.Spec PyProof.Rows L2 L3 PySem.SeqAt
def spE (K:PySem.W.Frag) (C:Addr) (g:List D->(Option D->Prop)->Prop):Sp:=λvs H Q E=>∃Z F M ds P,AgM K Z F M H/\Rps K F ds vs/\g ds P/\(∀v H' F' d,Same F F'->AgM K Z F' M H'->Rp K F' d v->P (some d)->Q v H')/\(∀x H' F',Same F F'->AgM K Z F' M H'->H' x=none->P none->E (.ref C) (some x) H')
section
variable {X:Cx} {e:Expr} {es:List Expr} {fl:WA} {fs:WS} {x n f S:Str} {i j:Nat} {g:List D->(Option D->Prop)->Prop} {k:Nat} {ps:List Str} {b0:Stmt} {suite:List Stmt} {pos pos' p cpos np hpos tpos:Pos} {C Sa:Addr}
end
section
variable {X:Cx} {a b e:Expr} {pos np p np2:Pos} {x y:Str}
end
open Classical in
theorem qp8_ {X:Cx} {pins:List (Addr×Obj)} {σ:L2.St} {H:Hp} {s:Shared} (I:Inv X pins σ H s) {A:Around} (hu:A.units+60<cLine) {d:D} {x:V} {u:Value} (rx:Rp X.K H d x) (ru:RelV x u) {es:List D} {vs:List V} {us:List Value} (re:Rps X.K H es vs) (rv:Vals vs us) (hd:∀e∈es,dep e<=50):
  ∃e:Value->Bool,(∀y,y∈us.toArray->EqAt A.in1 s y u (e y))/\us.toArray.any e=es.any λe=>peq e d:=by
 have uniq:∀(i j:Nat) (a b:D) (y:Value),es[i]?=some a->es[j]?=some b->us[i]?=some y->us[j]?=some y->a=b:=λi j a b y h1 h2 h3 h4=>by
  obtain ⟨v1,g1,g2⟩:=re.get h1
  obtain ⟨v2,g3,g4⟩:=re.get h2
  obtain ⟨w1,f1,f2⟩:=rv.get g1
  obtain ⟨w2,f3,f4⟩:=rv.get g3
  rw [h3] at f1
  rw [h4] at f3
  cases f1
  cases f3
  have:=RelV.inj f2 f4
  subst this
  exact Rp.inj I g2 g4
 let e:Value->Bool:=λy=>decide (∃(i:Nat) (a:D),es[i]?=some a/\us[i]?=some y/\peq a d=true)
 have ev:∀(i:Nat) (a:D) (y:Value),es[i]?=some a->us[i]?=some y->e y=peq a d:=λi a y h1 h2=>by
  show decide _=_
  by_cases c:peq a d=true
  ·rw [c];exact decide_eq_true ⟨i,a,h1,h2,c⟩
  ·rw [Bool.not_eq_true] at c
   rw [c]
   refine decide_eq_false ?_
   rintro ⟨j,b,h3,h4,h5⟩
   rw [uniq j i b a y h3 h1 h4 h2,c] at h5
   cases h5
 have ll:es.length=us.length:=re.length.trans rv.length
 refine ⟨e,λy hy=>?_,?_⟩
 ·have hy:y∈us:=by simpa using hy
  obtain ⟨i,hi⟩:=List.mem_iff_getElem?.mp hy
  have hil:i<es.length:=by rw [ll];exact (List.getElem?_eq_some_iff.mp hi).1
  have ha:es[i]?=some es[i]:=List.getElem?_eq_getElem hil
  obtain ⟨v1,g1,g2⟩:=re.get ha
  obtain ⟨w1,f1,f2⟩:=rv.get g1
  rw [hi] at f1
  cases f1
  rw [ev i _ y ha hi]
  exact (qqe_ I A.in1 _ d v1 x y u (hd _ (List.getElem_mem hil)) (by rw [qbz_];omega) g2 rx f2 ru).1
 ·rw [<-Array.any_toList]
  show us.any e=_
  rw [Bool.eq_iff_iff,List.any_eq_true,List.any_eq_true]
  constructor
  ·rintro ⟨y,hy,h⟩
   obtain ⟨i,hi⟩:=List.mem_iff_getElem?.mp hy
   have hil:i<es.length:=by rw [ll];exact (List.getElem?_eq_some_iff.mp hi).1
   have ha:es[i]?=some es[i]:=List.getElem?_eq_getElem hil
   rw [ev i _ y ha hi] at h
   exact ⟨_,List.getElem_mem hil,h⟩
  ·rintro ⟨a,ha,h⟩
   obtain ⟨i,hi⟩:=List.mem_iff_getElem?.mp ha
   have hil:i<us.length:=by rw [<-ll];exact (List.getElem?_eq_some_iff.mp hi).1
   have hy:us[i]?=some us[i]:=List.getElem?_eq_getElem hil
   exact ⟨_,List.getElem_mem hil,by rw [ev i a _ hi hy];exact h⟩
def rInD (K:PySem.W.Frag) (f:Bool->Bool):R2:=λx y H Q=>∃d l es vs,Rp K H d x/\y= .ref l/\Rd H l (.lst vs)/\Rps K H es vs/\(∀e∈es,dep e<=50)/\Q (.bl (f (es.any λe=>peq e d))) H
theorem qk5_ {X:Cx} (hu:X.A.units+60<cLine):OpR X (compareOp .NotIn) (rInD X.K not):=by
 intro pins s σ H x y u v Q I rx ry h
 obtain ⟨d,l,es,vs,hd,rfl,hl,re,dd,q⟩:=h
 cases ry
 obtain ⟨its,rv,pl,hz⟩:=I.list (.inl hl)
 obtain ⟨e,h1,h2⟩:=qp8_ I hu hd rx re rv dd
 refine notIn_listAt e pl.isList h1 ?_
 rw [h2]
 exact ⟨.bl _,H,I,rfl,q⟩
def RIn (f:Bool->Bool):D->D->(D->Prop)->Prop:=λx y P=>match y with
 | .lst es=>(∀e∈es,dep e<=50)/\P (.bl (f (es.any λe=>peq e x)))
 |_=>False
theorem w_in {X:Cx} (f:Bool->Bool):OpW X (rInD X.K f) (RIn f):=λx y v u F H Q P sm rx ry h k=>by
 unfold RIn at h
 split at h
 ·rename_i es
  rw [Rp] at ry
  obtain ⟨q,vs,rfl,g1,g2⟩:=ry
  exact ⟨x,q,es,vs,rx.same sm,rfl,ql_ sm g1,g2.same sm,h.1,k _ _ F H .rf (by rw [Rp]) h.2⟩
 ·exact h.elim
section
variable {X:Cx} {a b:Expr} {pos:Pos} {fa fb:WE}
theorem qnv_ {k:Nat} (hr:Room k X.A) (ha:JE X a fa) (hb:JE X b fb) (hm:behindInMarks .NotIn b=false:=by with_unfolding_all rfl):JT X (.Compare a [.NotIn] [b] pos) (wB (wOp (RIn not) fa fb)):=qgl_ (qk5_ (Room.u60 hr)) (w_in not) ha hb hm
end
end L4
namespace L4
open PySem PySem.Spec PySem.Calls PyProof.Rows L2 L3
abbrev WFU:=List U->Mm->(U->Mm->Prop)->Prop
def spU (K:PySem.W.Frag) (g:WFU):Sp:=λvs H Q _=>∃Z F M us P,AgM K Z F M H/\RUs K F us vs/\g us M P/\∀v H' F' u M',Same F F'->AgM K Z F' M' H'->RU K F' u v->P u M'->Q v H'
def entU:U->Ent
 | .d x=> .sh x
 |u=> .ut u
def qgq_ (N:List Str) (us:List U):Rho:=us.map entU++List.replicate (N.length - us.length) .un
def endU (P:U->Mm->Prop):WEnds:=⟨λ_ M'=>∃M'',Sub M'' M'/\P (.d .non) M'',λu M'=>∃M'',Sub M'' M'/\P u M'',λ_ _=>False,λ_ _=>False⟩
theorem qql_ {K:PySem.W.Frag} {Z F H:Hp} {M:Mm} {u:U} {v:V} (r:RU K F u v):EOk K Z F M H (entU u) (some v):=by
 cases u with
 |d x=>rw [RU] at r;exact ⟨v,rfl,r⟩
 |adr p=>exact ⟨v,rfl,r⟩
 |tup us=>exact ⟨v,rfl,r⟩
 |ins C ns ds=>exact ⟨v,rfl,r⟩
theorem qpz_ {u:U} {es:List D}:entU u≠ .ow es:=by cases u<;>exact λz=>nomatch z
theorem qlq_ {K:PySem.W.Frag} {Z F H:Hp} {M:Mm} {us:List U} {vs:List V} (N:List Str) (m:AgM K Z F M H) (r:RUs K F us vs):Ag K Z F M H (qgq_ N us) (L2.start N vs):=by
 have hl:=r.length
 have g:∀(i:Nat) (e:Ent),(qgq_ N us)[i]?=some e->(∃u v,e=entU u/\(L2.start N vs)[i]?=some (some v)/\RU K F u v)\/e= .un:=λi e h=>by
  unfold qgq_ at h
  by_cases hi:i<us.length
  ·rw [List.getElem?_append_left (by simpa using hi),List.getElem?_map,List.getElem?_eq_getElem hi] at h
   cases h
   obtain ⟨v,h1,h2⟩:=r.get (List.getElem?_eq_getElem hi)
   refine .inl ⟨_,v,rfl,?_,h2⟩
   unfold L2.start
   rw [List.getElem?_append_left (by simpa [<-hl] using hi),List.getElem?_map,h1]
   rfl
  ·rw [List.getElem?_append_right (by simpa using hi),List.getElem?_replicate] at h
   split at h
   ·cases h;exact .inr rfl
   ·cases h
 refine ⟨m,by unfold qgq_ L2.start;simp [hl],λi e h=>?_,λi j es fs p n h1 _ _=>?_⟩
 ·rcases g i e h with ⟨u,v,rfl,h2,h3⟩|rfl
  ·rw [h2];exact qql_ h3
  ·trivial
 ·rcases g i _ h1 with ⟨u,v,e,_⟩|e
  ·exact absurd e.symm qpz_
  ·cases e
section
variable {P:Program} {w:World} {K:PySem.W.Frag} {mg:Str->Option Value} {base:Heap} {k:Nat} {x:Str} {st:Stmt} {N ps:List Str} {g:WFU}
theorem _root_.L3.Def.hasU (F:Def K mg x st ps) (sc:FnScope N ps (qe_ st)) (len:∀us M P,g us M P->us.length=ps.length)
  (hbody:∀(f:Addr) (cdv:Value) (A:Around) (outer:List Env) (s:Shared) (H:Hp) (E:XK),Room k (A.deeper (envOfC x (qe_ st) s.heap.objs.size f cdv))->
   ∃G,JSs (cxOf CX0 P w K mg base N x (qe_ st) f cdv A outer s H E).nox (q8_ st) G/\∀us M Q,g us M Q->G (endU Q) (qgq_ N us) M):Has P w K mg base CX0 (k+1) x ps (spU K g):=by
 refine F.has sc (λvs H Q E h=>?_) λf cdv A outer s H vs Q E hr h=>?_
 ·obtain ⟨Z,F',M,us,P,m,r,hg,_⟩:=h
  rw [<-r.length]
  exact len us M P hg
 ·obtain ⟨Z,F',M,us,P',m,r,hg,kk⟩:=h
  obtain ⟨G,hG,hh⟩:=hbody f cdv A outer s H E hr
  exact ⟨_,hG.h,Z,F',qgq_ N us,M,endU P',qlq_ N m r,hh us M P' hg,⟨λσ' H' F2 ρ' M' s' ag' ⟨M2,hs,q⟩=>kk _ H' F2 _ M2 s' (ag'.m.sub hs) (by rw [RU,Rp]) q,λ_ _ _ _ _ _ _ q=>q.elim,λ_ _ _ _ _ _ _ q=>q.elim,λv H' F2 u M' s' m' r' ⟨M2,hs,q⟩=>kk v H' F2 u M2 s' (m'.sub hs) r' q⟩⟩
end
section
variable {X:Cx} {a e:Expr} {es:List Expr} {pos p apos:Pos} {gl:WUA} {ga ge:WU} {fe:WE} {fl:WA} {x f:Str} {k:Nat} {ps:List Str}
def uFnU (g:WFU) (fl:WUA):WU:=λρ M P=>fl ρ M λus ρ1 M1=>g us M1 λu M2=>P u ρ1 M2
theorem ju_h {g:WFU} (F:Has X.prog X.w X.K X.mg X.base CX0 k x ps (spU X.K g)) (hr:Room k X.A) (hg:Gl X x) (ha:JUA X (e::es) gl) (hdb:(x==("__debug__":Str))=false:=by decide) (he:starEach (e::es) X.env=(false,eval e X.env)::starEach es X.env:=by rfl) (hpl:(backTo pos (starEach es X.env)).any (·.1)=false:=by rfl):
  JU X (.Call (.Name x p) (e::es) [] pos) (uFnU g gl):=⟨imE (pe_h F hr hg qov_ ha.h hdb he hpl) λσ H Q hh=>ex5 hh λZ F ρ M P ag hf k=>⟨Z,F,ρ,M,_,ag,hf,λvs H1 F1 us ρ1 M1 s1 ag1 r1 h1=>by
 show spU X.K g (vs++[]) H1 Q E0
 rw [List.append_nil]
 exact ⟨_,F1,M1,us,_,ag1.m.inner,r1,h1,λv H' F' u M' s' m' r h=>k v H' F' u ρ1 M' (s1.trans s') (ag1.back s' m') r h⟩⟩⟩
end
section
variable {K:PySem.W.Frag} {Z F H H':Hp} {M:Mm} {ρ:Rho} {σ:L2.St} {P:Addr} {lpos:Pos} {q:Str}
end
section
variable {X:Cx} {e:Expr} {fe:WE} {i j:Nat} {x y fld:Str} {c P cy C:Addr} {params:Arguments} {scope:Scope} {p pos lpos kp1 kp2 np p1 p2 p3 p4:Pos} {ns:List Str}
end
end L4
namespace L4
open PySem PySem.Spec PySem.Calls PyProof.Rows L2 L3
section
variable {X:Cx} {a b:Expr} {pos:Pos} {fa fb:WE}
end
theorem len1 {α:Type}:∀{l:List α},l.length=1->∃a,l=[a]
 |[a],_=>⟨a,rfl⟩
theorem len2 {α:Type}:∀{l:List α},l.length=2->∃a b,l=[a,b]:=λ{l} h=>match l with
 |a::l=>let ⟨b,e⟩:=len1 (l:=l) (Nat.succ.inj h);⟨a,b,congrArg _ e⟩
theorem len3 {α:Type}:∀{l:List α},l.length=3->∃a b c,l=[a,b,c]:=λ{l} h=>match l with
 |a::l=>let ⟨b,c,e⟩:=len2 (l:=l) (Nat.succ.inj h);⟨a,b,c,congrArg _ e⟩
theorem len4 {α:Type}:∀{l:List α},l.length=4->∃a b c d,l=[a,b,c,d]:=λ{l} h=>match l with
 |a::l=>let ⟨b,c,d,e⟩:=len3 (l:=l) (Nat.succ.inj h);⟨a,b,c,d,congrArg _ e⟩
end L4
set_option maxHeartbeats 4000000
namespace M
open PySem PySem.Spec PyProof.Rows L2 L3 L4
def top (i : Nat) : Stmt := PySem.Challenge.pw_shimright_k70_whole_any_stand.main.body.getD i (.Pass ⟨0, 0, 0, 0⟩)
section
variable {P:Program} {w:World} {K:PySem.W.Frag} {mg:Str->Option Value} {base:Heap}
/-! ### fractions,over trees -/
abbrev qbj_:Stmt:=top 7
theorem sc_common_divisor:FnScope ["one","other","larger","smaller","rest"] ["one","other"] (qe_ qbj_):=⟨rfl,rfl,rfl,by decide+kernel,rfl,by decide+kernel,by decide+kernel⟩
def gGcd:List D->(D->Prop)->Prop:=λds P=>∃a b:Int,ds=[.int a,.int b]/\P (.int (Int.gcd a b:Int))
theorem qqa_ (a b:Int):Int.gcd (if a<0 then -a else a) (if b<0 then -b else b)=Int.gcd a b:=by
 split<;>split<;>simp [Int.gcd_neg,Int.neg_gcd]
theorem h_common_divisor (B:Bl mg) (F:Def K mg "common_divisor" qbj_ ["one","other"]):Has P w K mg base CX0 1 "common_divisor" ["one","other"] (spW K (pur gGcd)):=by
 refine F.hasP sc_common_divisor (λds P h=>by obtain ⟨a,b,rfl,_⟩:=h;rfl) λf cdv A outer s H E hr=>?_
 have nd:=sc_common_divisor.nd
 refine ⟨_,(qc_ (qp_ (i:=2) nd rfl (Or.inl rfl) (qsr_ rfl B.abs (qa_ (jv 0) qb_)))
  (qc_ (qp_ (i:=3) nd rfl (Or.inl rfl) (qsr_ rfl B.abs (qa_ (jv 1) qb_)))
  (qc_ (qjg_ PassesOwn.never (ql5_ hr (jv 3) qd_) (qc_ (qp_ (i:=4) nd rfl (Or.inl rfl) (qdj_ (jv 2) (jv 3)))
  (qc_ (qp_ (i:=2) nd rfl (Or.inl rfl) (jv 3))
  (qf_ (qp_ (i:=3) nd rfl (Or.inl rfl) (jv 4))))))
  (qf_ (qn_ (jv 2)))))),?_⟩
 rintro ds M Q ⟨a,b,rfl,q⟩
 refine ⟨λm ρ M'=>M'=M/\∃(l k:Int) (r:Ent),ρ=[.sh (.int a),.sh (.int b),.sh (.int l),.sh (.int k),r]/\m=k.natAbs/\0<=l/\0<=k/\Int.gcd l k=Int.gcd a b,⟨_,rfl,_,_,_,rfl,rfl,?_,?_,qqa_ a b⟩,?_⟩
 ·split<;>omega
 ·split<;>omega
 rintro m ρ M' ⟨rfl,l,k,r,rfl,rfl,hl,hk,e⟩
 refine ⟨by show 0<=60;decide,?_⟩
 show if (!(k==0))=true then _ else _
 refine iteB (λc=>?_) (λc=>?_)
 ·have c':k≠0:=by simpa using c
  exact ⟨c',_,qkc_ (a:=l) c',rfl,_,_,_,rfl,rfl,hk,Int.fmod_nonneg hl hk,by rw [qn6_,e]⟩
 ·have c':k=0:=by simpa using c
  subst c'
  have e2:l=(Int.gcd a b:Int):=by
   rw [<-e,Int.gcd_zero_right]
   omega
  exact ⟨_,Sub.refl _,by rw [e2];exact q⟩
abbrev qdx_:Stmt:=top 8
theorem sc_fraction:FnScope ["top","bottom","shared"] ["top","bottom"] (qe_ qdx_):=⟨rfl,rfl,rfl,by decide+kernel,rfl,by decide+kernel,by decide+kernel⟩
def gFr:List D->(D->Prop)->Prop:=λds P=>∃a b:Int,ds=[.int a,.int b]/\b≠0/\Sm 9000 b/\P (frD (Rat.divInt a b))
theorem h_fraction (B:Bl mg) (F:Def K mg "fraction" qdx_ ["top","bottom"]) (F_common_divisor:Has P w K mg base CX0 1 "common_divisor" ["one","other"] (spW K (pur gGcd))):Has P w K mg base CX0 2 "fraction" ["top","bottom"] (spW K (pur gFr)):=by
 refine F.hasP sc_fraction (λds P h=>by obtain ⟨a,b,rfl,_⟩:=h;rfl) λf cdv A outer s H E hr=>?_
 have nd:=sc_fraction.nd
 refine ⟨_,(qc_ (qcd_ (qgc_ hr (jv 1) qd_) (qf_ qn7_) qx_)
  (qc_ (qp_ (i:=2) nd rfl (Or.inl rfl) (j_h F_common_divisor (hr.mono (by decide)) rfl (qa_ (jv 0) (qa_ (jv 1) qb_))))
  (qc_ (qcd_ (qlp_ (jv 1) qd_) (qf_ (qp_ (i:=2) nd rfl (Or.inl rfl) (qlg_ (jv 2)))) qx_)
  (qf_ (qn_ (q7_ (qa_ (qcs_ (jv 0) (jv 2)) (qa_ (qcs_ (jv 1) (jv 2)) qb_)))))))),?_⟩
 rintro ds M Q ⟨a,b,rfl,hb,hs,q⟩
 refine ⟨by show 0<=60;decide,?_⟩
 show if (b==0)=true then _ else _
 refine iteN (by simpa using hb) ?_
 refine ⟨a,b,rfl,?_⟩
 have gs:Sm 9000 (Int.gcd a b:Int):=qpg_ hb hs
 have gp:=qm0_ (a:=a) hb
 have fin:∀g:Int,g=(if b<0 then -(Int.gcd a b:Int) else (Int.gcd a b:Int))->qi5_ a g/\qi5_ b g/\frD (Rat.divInt a b)= .tup [.int (a.fdiv g),.int (b.fdiv g)]:=by
  intro g e
  have h1:g≠0:=by rw [e];split<;>omega
  have h2:Sm 9000 g:=by
   rw [e];split
   ·exact gs.neg
   ·exact gs
  refine ⟨⟨h1,h2⟩,⟨h1,h2⟩,?_⟩
  unfold frD
  rw [e,<-qpp_ hb,<-qo7_ hb]
 show if decide (b<0)=true then _ else _
 refine iteB (λc=>?_) (λc=>?_)
 ·have c':b<0:=by simpa using c
  obtain ⟨g0,g1,g2⟩:=fin (-(Int.gcd a b:Int)) (by rw [if_pos c'])
  exact ⟨g0,g1,by show 2<=sizeLine;decide,_,Sub.refl _,by rw [<-g2];exact q⟩
 ·have c':¬b<0:=by simpa using c
  obtain ⟨g0,g1,g2⟩:=fin (Int.gcd a b:Int) (by rw [if_neg c'])
  exact ⟨g0,g1,by show 2<=sizeLine;decide,_,Sub.refl _,by rw [<-g2];exact q⟩

/-! ### sums,products,order,over trees -/
def Mx (q r:Rat):Prop:=∃n m,n+m<=8990/\SmR n q/\SmR m r
theorem Mx.of {n m:Nat} {q r:Rat} (a:SmR n q) (b:SmR m r) (h:n+m<=8990:=by decide):Mx q r:=⟨n,m,h,a,b⟩
theorem Mx.c1 {q r:Rat} (h:Mx q r):CM q.num r.den:=let ⟨n,m,l,a,b⟩:=h;.inr ⟨n,m,by omega,a.1,b.2⟩
theorem Mx.c2 {q r:Rat} (h:Mx q r):CM r.num q.den:=let ⟨n,m,l,a,b⟩:=h;.inr ⟨m,n,by omega,b.1,a.2⟩
theorem Mx.c3 {q r:Rat} (h:Mx q r):CM q.den r.den:=let ⟨n,m,l,a,b⟩:=h;.inr ⟨n,m,by omega,a.2,b.2⟩
theorem Mx.c4 {q r:Rat} (h:Mx q r):CM q.num r.num:=let ⟨n,m,l,a,b⟩:=h;.inr ⟨n,m,by omega,a.1,b.1⟩
theorem Mx.s {q r:Rat} (h:Mx q r):Sm 9000 ((q.den:Int)*(r.den:Int)):=let ⟨n,m,l,a,b⟩:=h;(a.2.mul b.2).mono (by omega)
theorem qmk_ (q r:Rat):(q.den:Int)*(r.den:Int)≠0:=Int.mul_ne_zero (qid_ q) (qid_ r)
def gOp (f:Rat->Rat->Rat):List D->(D->Prop)->Prop:=λds P=>∃q r:Rat,ds=[frD q,frD r]/\Mx q r/\P (frD (f q r))
abbrev qp1_ (P:Program) (w:World) (K:PySem.W.Frag) (mg:Str->Option Value) (base:Heap):Prop:=Has P w K mg base CX0 2 "fraction" ["top","bottom"] (spW K (pur gFr))
abbrev qj5_:Stmt:=top 9
theorem sc_plus:FnScope ["q","r"] ["q","r"] (qe_ qj5_):=⟨rfl,rfl,rfl,by decide+kernel,rfl,by decide+kernel,by decide+kernel⟩
theorem h_plus (B:Bl mg) (F:Def K mg "plus" qj5_ ["q","r"]) (F_fraction:qp1_ P w K mg base):Has P w K mg base CX0 3 "plus" ["q","r"] (spW K (pur (gOp λq r=>q+r))):=by
 refine F.hasP sc_plus (λds P h=>by obtain ⟨a,b,rfl,_⟩:=h;rfl) λf cdv A outer s H E hr=>?_
 have nd:=sc_plus.nd
 refine ⟨_,(qf_ (qn_ (j_h F_fraction (hr.mono (by decide)) rfl (qa_ (qcp_ (qbq_ (qh_ 0 qd_) (qh_ 1 qd_)) (qbq_ (qh_ 1 qd_) (qh_ 0 qd_))) (qa_ (qbq_ (qh_ 0 qd_) (qh_ 1 qd_)) qb_))))),?_⟩
 rintro ds M Q ⟨q,r,rfl,m,k⟩
 exact ⟨m.c1,m.c2,m.c3,_,_,rfl,qmk_ q r,m.s,_,Sub.refl _,by rw [qtd_];exact k⟩
abbrev qgv_:Stmt:=top 11
theorem sc_times:FnScope ["q","r"] ["q","r"] (qe_ qgv_):=⟨rfl,rfl,rfl,by decide+kernel,rfl,by decide+kernel,by decide+kernel⟩
theorem h_times (B:Bl mg) (F:Def K mg "times" qgv_ ["q","r"]) (F_fraction:qp1_ P w K mg base):Has P w K mg base CX0 3 "times" ["q","r"] (spW K (pur (gOp λq r=>q*r))):=by
 refine F.hasP sc_times (λds P h=>by obtain ⟨a,b,rfl,_⟩:=h;rfl) λf cdv A outer s H E hr=>?_
 have nd:=sc_times.nd
 refine ⟨_,(qf_ (qn_ (j_h F_fraction (hr.mono (by decide)) rfl (qa_ (qbq_ (qh_ 0 qd_) (qh_ 1 qd_)) (qa_ (qbq_ (qh_ 0 qd_) (qh_ 1 qd_)) qb_))))),?_⟩
 rintro ds M Q ⟨q,r,rfl,m,k⟩
 exact ⟨m.c4,m.c3,_,_,rfl,qmk_ q r,m.s,_,Sub.refl _,by rw [qri_];exact k⟩

/-! ### the module's fraction 0 -/
abbrev Zero4 (K:PySem.W.Frag) (mg:Str->Option Value):Prop:=Cst K mg "ZERO" (frD 0)
theorem Zero4.of {a:Addr} {od:Option Addr} {sl:Array (Option Value)} {n:Nat} {t0 t1:Tok} (h:mg "ZERO"=some (.ref a)) (l:K.lookup a=some ⟨.type "tuple",od,.seq #[.int 0 t0,.int 1 t1] n,sl⟩):Zero4 K mg:=
 ⟨.ref a,.ref a,h,rfl,λF=>by
  rw [frD,Rp]
  refine ⟨a,[.int 0,.int 1],rfl,.inr ⟨_,_,_,l,rfl,rfl,by show 2<=sizeLine;decide,.cons ⟨_,rfl⟩ (.cons ⟨_,rfl⟩ .nil)⟩,?_⟩
  rw [Rps]
  exact ⟨_,_,rfl,by rw [Rp];rfl,by rw [Rps];exact ⟨_,_,rfl,by rw [Rp];rfl,by rw [Rps]⟩⟩⟩

/-! ### sums of products -/
def dot:List Rat->List Rat->Rat
 |q::qs,r::rs=>q*r+dot qs rs
 |_,_=>0
theorem qjf_:∀{qs rs:List Rat} {i:Nat} {q r:Rat},qs[i]?=some q->rs[i]?=some r->dot (qs.take (i+1)) (rs.take (i+1))=dot (qs.take i) (rs.take i)+q*r
 |[],_,_,_,_,h,_=>by simp at h
 |_::_,[],_,_,_,_,h=>by simp at h
 |a::qs,b::rs,0,q,r,h1,h2=>by
  simp only [List.getElem?_cons_zero,Option.some.injEq] at h1 h2
  subst h1 h2
  simp only [List.take_succ_cons,List.take_zero,dot]
  grind
 |a::qs,b::rs,i+1,q,r,h1,h2=>by
  simp only [List.getElem?_cons_succ] at h1 h2
  have:=qjf_ (i:=i) h1 h2
  simp only [List.take_succ_cons,dot] at this ⊢
  rw [this]
  grind
theorem sm0:SmR 1 (0:Rat):=⟨by unfold Sm;decide,by unfold Sm;decide⟩
structure Two (n m k:Nat) (qs rs:List Rat):Prop where
 len:qs.length=rs.length
 few:qs.length<=k
 bnd:(n+m+1)*k<=8900
 s1:∀q∈qs,SmR n q
 s2:∀q∈rs,SmR m q
abbrev frL (qs:List Rat):D:= .lst (qs.map frD)
theorem qkx_:∀{qs rs:List Rat} {i:Nat} {d:D},(zipD (qs.map frD) (rs.map frD))[i]?=some d->∃q r,qs[i]?=some q/\rs[i]?=some r/\d= .tup [frD q,frD r]:=λ{qs rs i d} h=>by
 obtain ⟨x,y,h1,h2,rfl⟩:=qef_ h
 rw [List.getElem?_map,Option.map_eq_some_iff] at h1 h2
 obtain ⟨q,e1,rfl⟩:=h1
 obtain ⟨r,e2,rfl⟩:=h2
 exact ⟨q,r,e1,e2,rfl⟩
theorem qib_:∀(qs rs:List Rat),dot (qs.take (min qs.length rs.length)) (rs.take (min qs.length rs.length))=dot qs rs
 |[],_=>by simp [dot]
 |_::_,[]=>by simp [dot]
 |q::qs,r::rs=>by
  have:=qib_ qs rs
  rw [List.length_cons,List.length_cons,Nat.succ_min_succ,List.take_succ_cons,List.take_succ_cons,dot,dot,this]

/-! ### the fraction 1,opposites,lists that are 0 but at a place -/
abbrev One4 (K:PySem.W.Frag) (mg:Str->Option Value):Prop:=Cst K mg "ONE" (frD 1)
theorem One4.of {a:Addr} {od:Option Addr} {sl:Array (Option Value)} {n:Nat} {t0 t1:Tok} (h:mg "ONE"=some (.ref a)) (l:K.lookup a=some ⟨.type "tuple",od,.seq #[.int 1 t0,.int 1 t1] n,sl⟩):One4 K mg:=
 ⟨.ref a,.ref a,h,rfl,λF=>by
  rw [frD,Rp]
  refine ⟨a,[.int 1,.int 1],rfl,.inr ⟨_,_,_,l,rfl,rfl,by show 2<=sizeLine;decide,.cons ⟨_,rfl⟩ (.cons ⟨_,rfl⟩ .nil)⟩,?_⟩
  rw [Rps]
  exact ⟨_,_,rfl,by rw [Rp];rfl,by rw [Rps];exact ⟨_,_,rfl,by rw [Rp];rfl,by rw [Rps]⟩⟩⟩
def gOpp:List D->(D->Prop)->Prop:=λds P=>∃q:Rat,ds=[frD q]/\P (frD (-q))
abbrev qdz_:Stmt:=top 10
theorem sc_opposite:FnScope ["q"] ["q"] (qe_ qdz_):=⟨rfl,rfl,rfl,by decide+kernel,rfl,by decide+kernel,by decide+kernel⟩
theorem h_opposite (B:Bl mg) (F:Def K mg "opposite" qdz_ ["q"]):Has P w K mg base CX0 1 "opposite" ["q"] (spW K (pur gOpp)):=by
 refine F.hasP sc_opposite (λds P h=>by obtain ⟨_,rfl,_⟩:=h;rfl) λf cdv A outer s H E hr=>?_
 have nd:=sc_opposite.nd
 refine ⟨_,(qf_ (qn_ (q7_ (qa_ (qlg_ (qh_ 0 qd_)) (qa_ (qh_ 0 qd_) qb_))))),?_⟩
 rintro ds M Q ⟨q,rfl,k⟩
 have e:frD (-q)= .tup [.int (-q.num),.int (q.den:Int)]:=by rw [frD,Rat.neg_num,Rat.neg_den]
 rw [e] at k
 exact ⟨by show 2<=sizeLine;decide,_,Sub.refl _,k⟩
def qbe_ (n k:Nat) (q:Rat):List Rat:=(List.replicate n 0).set k q
def qr7_:List D->(D->Prop)->Prop:=λds P=>∃(n k:Nat) (q:Rat),ds=[.int n,.int k,frD q]/\k<n/\n<=1000/\P (frL (qbe_ n k q))
abbrev qbp_:Stmt:=top 23
theorem sc_all_but_one_0:FnScope ["length","place","q","told"] ["length","place","q"] (qe_ qbp_):=⟨rfl,rfl,rfl,by decide+kernel,rfl,by decide+kernel,by decide+kernel⟩
theorem h_all_but_one_0 (B:Bl mg) (F:Def K mg "all_but_one_0" qbp_ ["length","place","q"]) (C_ZERO:Zero4 K mg):Has P w K mg base CX0 1 "all_but_one_0" ["length","place","q"] (spN K qr7_):=by
 refine F.hasN sc_all_but_one_0 (λds P h=>by obtain ⟨_,_,_,rfl,_⟩:=h;rfl) λf cdv A outer s H E hr=>?_
 have nd:=sc_all_but_one_0.nd
 refine ⟨_,(qc_ (qc8_ (k:=3) nd rfl (Or.inl rfl) ["k"] [none] ⟨rfl,by decide+kernel,by decide+kernel,rfl,rfl,by intro i x j _ h;exact absurd h (by rcases i with _|_|_|i<;>simp)⟩ rfl (qcr_ rfl B.range (qa_ (jv 0) qb_)) (λ_ _ _ _ _=>(qg_ (i:=0) (show List.Nodup [("k":Str)] by decide+kernel) rfl (Or.inl rfl))) (λ_ _ _ _ _=>q4_) (λ_ _ _ _ _=>(qbr_ C_ZERO rfl)))
  (qc_ (qen_ 3 (jv 2) (jv 1))
  (qf_ (qii_ (ju_v 3))))),?_⟩
 rintro ds M Q ⟨n,k,q,rfl,kn,n1,kk⟩
 refine ⟨⟨by omega,by omega⟩,λi out ρ M'=>M'=M/\out=List.replicate i (frD 0)/\∃o,ρ=[o],⟨rfl,rfl,_,rfl⟩,?_,?_⟩
 ·rintro i d out ρ M' hd ⟨rfl,rfl,o,rfl⟩
  have hi:i<n:=by have:=(List.getElem?_eq_some_iff.mp hd).1;simpa [rngD] using this
  exact ⟨by rw [List.length_replicate];exact qi_ (by omega),rfl,by rw [List.replicate_succ'],.sh d,rfl⟩
 ·rintro out ρ M' ⟨rfl,rfl,o,rfl⟩
  have ln:(rngD 0 (n:Int).toNat).length=n:=by simp [rngD]
  rw [ln]
  refine ⟨trivial,?_⟩
  have e:ixN (List.replicate n (frD 0)).length (k:Int)=some k:=by
   rw [List.length_replicate]
   unfold ixN
   rw [if_pos (by omega),if_pos (by omega)]
   rfl
  show match ixN (List.replicate n (frD 0)).length (k:Int) with|some n=>_|none=>False
  rw [e]
  have e2:frL (qbe_ n k q)= .lst ((List.replicate n (frD 0)).set k (frD q)):=by rw [frL,qbe_,List.map_set,List.map_replicate]
  rw [e2] at kk
  refine λp hp=>⟨_,_,Sub.refl _,.newD ?_ hp,kk⟩
  have e3:(List.replicate n (frD 0)).set k (frD q)=(qbe_ n k q).map frD:=by rw [qbe_,List.map_set,List.map_replicate]
  rw [e3]
  exact qdv_ λ_=>rfl

/-! ### the rows of a plan,over trees -/
abbrev BR:=List Rat×Rat
def rQ (r:BR):D:= .tup [frL r.1,frD r.2]
def qls_ (n k:Nat) (x:Rat×Rat):List BR:=[(qbe_ n k 1, -x.1),(qbe_ n k (-1),x.2)]
def qea_ (T:List (Rat×Rat)):List BR:=(T.mapIdx λk x=>qls_ T.length k x).flatten
theorem qi1_ {α β:Type} (f:Nat->α->β) {l:List α} {i:Nat} {x:α} (h:l[i]?=some x):(l.take (i+1)).mapIdx f=(l.take i).mapIdx f++[f i x]:=by
 have hi:=(List.getElem?_eq_some_iff.mp h).1
 rw [List.take_add_one,h,Option.toList_some,List.mapIdx_append,List.mapIdx_singleton,List.length_take,Nat.min_eq_left (by omega),Nat.zero_add]
def bQ (x:Rat×Rat):D:= .tup [frD x.1,frD x.2]
def gBR:List D->(D->Prop)->Prop:=λds P=>∃T:List (Rat×Rat),ds=[.lst (T.map bQ)]/\T.length<=100/\P (.lst ((qea_ T).map rQ))
theorem qi8_ (n:Nat):∀(l:List (List BR)),(∀x∈l,x.length=2)->l.flatten.length=2*l.length
 |[],_=>rfl
 |a::l,h=>by rw [List.flatten_cons,List.length_append,h a (by simp),qi8_ n l λx hx=>h x (by simp [hx]),List.length_cons];omega
abbrev qcl_:Stmt:=top 24
theorem sc_bound_rows:FnScope ["shims","told","k","pair"] ["shims"] (qe_ qcl_):=⟨rfl,rfl,rfl,by decide+kernel,rfl,by decide+kernel,by decide+kernel⟩
theorem h_bound_rows (B:Bl2 mg) (F:Def K mg "bound_rows" qcl_ ["shims"]) (F_all_but_one_0:Has P w K mg base CX0 1 "all_but_one_0" ["length","place","q"] (spN K qr7_)) (F_opposite:Has P w K mg base CX0 1 "opposite" ["q"] (spW K (pur gOpp))) (C_ONE:One4 K mg):Has P w K mg base CX0 2 "bound_rows" ["shims"] (spN K gBR):=by
 refine F.hasN sc_bound_rows (λds P h=>by obtain ⟨_,rfl,_⟩:=h;rfl) λf cdv A outer s H E hr=>?_
 have nd:=sc_bound_rows.nd
 refine ⟨_,(qc_ (qfg_ (i:=1) nd rfl (Or.inl rfl) (qe2_ (qih_ (qbf_ qb_))))
  (qc_ (qbm_ PassesOwn.never rfl (qph_ rfl B.enumerate (qa_ (jv 0) qb_)) (qba_ (n:=2) rfl (qj_ (qg_ (i:=2) nd rfl (Or.inl rfl)) (qj_ (qg_ (i:=3) nd rfl (Or.inl rfl)) qy_)))
  (qc_ (qg1_ (ju_v 1) (qk1_ (qv_ (j_hN F_all_but_one_0 (hr.mono (by decide)) rfl (qa_ (qcu_ 0 rfl B.len) (qa_ (jv 2) (qa_ (qbr_ C_ONE rfl) qb_)))) (qv_ (ju_d (j_h F_opposite (hr.mono (by decide)) rfl (qa_ (qh_ 3 qd_) qb_))) qd7_))))
  (qf_ (qg1_ (ju_v 1) (qk1_ (qv_ (j_hN F_all_but_one_0 (hr.mono (by decide)) rfl (qa_ (qcu_ 0 rfl B.len) (qa_ (jv 2) (qa_ (j_h F_opposite (hr.mono (by decide)) rfl (qa_ (qbr_ C_ONE rfl) qb_)) qb_)))) (qv_ (ju_d (qh_ 3 qd_)) qd7_)))))))
  (qf_ (qii_ (ju_v 1))))),?_⟩
 rintro ds M Q ⟨T,rfl,l1,k⟩
 refine ⟨by show 0<=sizeLine;decide,λp hp=>⟨λi ρ M'=>Fresh M M' (.lst ((((T.take i).mapIdx λk x=>qls_ T.length k x).flatten).map rQ)) (.adr p)/\∃o2 o3,ρ=[.sh (.lst (T.map bQ)),.ut (.adr p),o2,o3],⟨.newD rfl hp,_,_,rfl⟩,?_,?_⟩⟩
 ·rintro i d ρ M' hd ⟨fr,o2,o3,rfl⟩
  obtain ⟨x,hx,rfl⟩:=qfa_ hd
  rw [List.getElem?_map,Option.map_eq_some_iff] at hx
  obtain ⟨x,hx,rfl⟩:=hx
  have hi:=(List.getElem?_eq_some_iff.mp hx).1
  have hlen:((((T.take i).mapIdx λk x=>qls_ T.length k x).flatten).map rQ).length<=200:=by
   rw [List.length_map,qi8_ 0 _ (by intro y hy;obtain ⟨j,hj,rfl⟩:=List.mem_mapIdx.mp hy;rfl),List.length_mapIdx,List.length_take]
   omega
  have el:((T.map bQ).length:Int)=(T.length:Int):=by rw [List.length_map]
  obtain ⟨us,e1,n1,st1⟩:=fr.own_of
  refine ⟨rfl,⟨us,e1⟩,T.length,i,1,?_,hi,by omega,λu M2 f2=>⟨x.1,rfl,by show 2<=sizeLine;decide,us,st1 _ _ _ f2,by rw [n1];exact Nat.lt_of_le_of_lt hlen (by decide),?_⟩⟩
  ·rw [el,Nat.zero_add]
  have fr2:=fr.push (Fresh.tup (.cons f2 (.cons (Fresh.leaf (d:=frD (-x.1)) rfl) .nil))) (st1 _ _ _ f2)
  obtain ⟨us2,e2,n2,st2⟩:=fr2.own_of
  refine ⟨⟨us2,e2⟩,1,rfl,T.length,i, -1,?_,hi,by omega,λu3 M3 f3=>⟨by show 2<=sizeLine;decide,us2,st2 _ _ _ f3,?_,?_⟩⟩
  ·rw [el,Nat.zero_add]
  ·rw [n2,List.length_append];exact Nat.lt_of_le_of_lt (show _<=201 by simp at hlen ⊢;omega) (by decide)
  have fr3:=fr2.push (Fresh.tup (.cons f3 (.cons (Fresh.leaf (d:=frD x.2) rfl) .nil))) (st2 _ _ _ f3)
  refine ⟨?_,.sh (.int i),.sh (bQ x),?_⟩
  ·rw [qi1_ _ hx,List.flatten_append,List.map_append]
   rw [List.append_assoc] at fr3
   exact fr3
  ·rw [Nat.zero_add];rfl
 ·rintro ρ M' ⟨fr,o2,o3,rfl⟩
  rw [qem_,List.length_map,List.take_length] at fr
  exact ⟨_,_,Sub.refl _,fr,k⟩
abbrev ZR:=List Rat×List Rat×Rat
def zQ (z:ZR):D:= .tup [frL z.1,frL z.2.1,frD z.2.2]
theorem q1_ {α:Type} {f:α->D} {l:List α} {i:Nat} {x:α} (h:l[i]?=some x):(l.take i).map f++[f x]=(l.take (i+1)).map f:=by
 rw [List.take_add_one,h,List.map_append];rfl

/-! ### plans as trees -/
def q9_ (S T:List (Rat×Rat)) (Z:List ZR):D:= .tup [.lst (S.map bQ),.lst (T.map bQ),.lst (Z.map zQ)]
theorem qq_ {α:Type} {f:α->D} {l:List α} {i:Nat} {d:D} (h:(l.map f)[i]?=some d):∃x,l[i]?=some x/\d=f x:=by
 rw [List.getElem?_map,Option.map_eq_some_iff] at h
 obtain ⟨x,e,rfl⟩:=h
 exact ⟨x,e,rfl⟩
theorem qdr_ {α:Type} {l:List α} {x:α} {p:α->Prop} (h:∀y∈l,p y) (k:p x):∀y∈l++[x],p y:=λy hy=>by
 rcases List.mem_append.mp hy with z|z
 ·exact h y z
 ·rw [List.mem_singleton] at z;subst z;exact k
theorem qht_ {n k:Nat} (h:k<n):ixN n (k:Int)=some k:=by
 unfold ixN
 rw [if_pos (by omega),if_pos (by omega)]
 rfl
theorem qt6_ {α:Type} {ds:List α} {k:Nat} {d:α} (h:ds[k]?=some d):atI ds (k:Int)=some d:=by
 have:=(List.getElem?_eq_some_iff.mp h).1
 unfold atI
 rw [qht_ this];exact h
theorem RIx.get {ds:List D} {k:Nat} {d:D} {P:D->Prop} (h:ds[k]?=some d) (p:P d):RIx (.lst ds) (.int (k:Int)) P:=by
 show match atI ds (k:Int) with|some d=>P d|none=>False
 rw [qt6_ h];exact p
theorem qb2_ {n i:Nat} {d:D} (h:(rngD 0 n)[i]?=some d):d= .int (i:Int)/\i<n:=by
 obtain ⟨h1,h2⟩:=qqh_ h
 rw [Int.zero_add] at h1
 exact ⟨h1,h2⟩
theorem qrx_ {ds:List D} {i:Int} (h0:0<=i) (h1:i<ds.length):∃d,d∈ds/\atI ds i=some d:=by
 have hi:i.toNat<ds.length:=by omega
 refine ⟨ds[i.toNat],List.getElem_mem hi,?_⟩
 unfold atI ixN
 rw [if_pos (by omega),if_pos (by omega)]
 exact List.getElem?_eq_getElem hi
theorem RIx.lst {ds:List D} {i:Int} {P:D->Prop} (h0:0<=i) (h1:i<ds.length) (k:∀d,d∈ds->P d):RIx (.lst ds) (.int i) P:=by
 obtain ⟨d,h2,h3⟩:=qrx_ h0 h1
 show match atI ds i with|some d=>P d|none=>False
 rw [h3];exact k d h2
theorem qee_ {α:Type} {f:α->D} {n:Nat} (h:∀a,dep (f a)<=n):∀l:List α,deps (l.map f)<=n
 |[]=>by rw [List.map_nil,deps];exact Nat.zero_le _
 |x::l=>by rw [List.map_cons,deps];exact Nat.max_le.mpr ⟨h x,qee_ h l⟩
theorem qcm_ (q:Rat):dep (frD q)<=1:=by simp [frD,dep,deps]
theorem qi4_ (qs:List Rat):dep (frL qs)<=2:=by rw [dep];exact Nat.succ_le_succ (qee_ qcm_ qs)
theorem qup_ (z:ZR):dep (zQ z)<=3:=by
 have h1:=qi4_ z.1
 have h2:=qi4_ z.2.1
 have h3:=qcm_ z.2.2
 simp only [zQ,dep,deps] at h1 h2 ⊢;omega
theorem frI (i:Int):D.tup [.int i,.int 1]=frD (i:Rat):=by rw [frD,Rat.num_intCast,Rat.den_intCast];rfl

/-! ### rows put on,shims taken out -/
def qpq_:List D->(D->Prop)->Prop:=λds P=>∃q r:Rat,ds=[frD q,frD r]/\Mx q r/\P (.bl (decide (q<r)))
abbrev qgy_:Stmt:=top 13
theorem sc_below:FnScope ["q","r"] ["q","r"] (qe_ qgy_):=⟨rfl,rfl,rfl,by decide+kernel,rfl,by decide+kernel,by decide+kernel⟩
theorem h_below (B:Bl mg) (F:Def K mg "below" qgy_ ["q","r"]):Has P w K mg base CX0 1 "below" ["q","r"] (spW K (pur qpq_)):=by
 refine F.hasP sc_below (λds P h=>by obtain ⟨a,b,rfl,_⟩:=h;rfl) λf cdv A outer s H E hr=>?_
 have nd:=sc_below.nd
 refine ⟨_,(qf_ (qn_ (j_lt (qbq_ (qh_ 0 qd_) (qh_ 1 qd_)) (qbq_ (qh_ 1 qd_) (qh_ 0 qd_))))),?_⟩
 rintro ds M Q ⟨q,r,rfl,m,k⟩
 exact ⟨m.c1,m.c2,_,Sub.refl _,by have:=r_lt q r;dsimp only at this ⊢;rw [this];exact k⟩
abbrev qe3_ (P:Program) (w:World) (K:PySem.W.Frag) (mg:Str->Option Value) (base:Heap):Prop:=Has P w K mg base CX0 1 "below" ["q","r"] (spW K (pur qpq_))
abbrev qn2_ (P:Program) (w:World) (K:PySem.W.Frag) (mg:Str->Option Value) (base:Heap):Prop:=Has P w K mg base CX0 3 "plus" ["q","r"] (spW K (pur (gOp λq r=>q+r)))
abbrev qms_ (P:Program) (w:World) (K:PySem.W.Frag) (mg:Str->Option Value) (base:Heap):Prop:=Has P w K mg base CX0 3 "times" ["q","r"] (spW K (pur (gOp λq r=>q*r)))
structure RowOk (s t n:Nat) (z:ZR):Prop where
 s:z.1.length=s
 t:z.2.1.length=t
 a:∀q∈z.1,SmR n q
 b:∀q∈z.2.1,SmR n q
 c:SmR n z.2.2
theorem RowOk.mono {s t n m:Nat} {z:ZR} (h:RowOk s t n z) (l:n<=m):RowOk s t m z:=⟨h.s,h.t,λq hq=>(h.a q hq).mono l,λq hq=>(h.b q hq).mono l,h.c.mono l⟩
def idle (z:ZR):Bool:=(z.1++z.2.1).all (λq=>decide (q=0))&& !decide (z.2.2<0)
theorem qjb_ {n:Nat} (h:n<=100000):n<sizeLine:=Nat.lt_of_le_of_lt h (by rw [sizeLine_eq];decide)
theorem qm1_ {q r:Rat} (h:frD q=frD r):q=r:=by
 have:=qhy_ q r
 rw [h,qcw_] at this
 simpa using this.symm
theorem qg7_:∀{qs rs:List Rat},qs.map frD=rs.map frD->qs=rs
 |[],[],_=>rfl
 |[],_::_,h=>by simp at h
 |_::_,[],h=>by simp at h
 |q::qs,r::rs,h=>by
  rw [List.map_cons,List.map_cons] at h
  injection h with h1 h2
  rw [qm1_ h1,qg7_ h2]
def gSN:List D->(D->Prop)->Prop:=λds P=>∃(z:ZR) (s t:Nat),ds=[zQ z]/\RowOk s t 4000 z/\s<=100/\t<=100/\P (.bl (idle z))
abbrev qbt_:Stmt:=top 26
theorem sc_says_nothing:FnScope ["row"] ["row"] (qe_ qbt_):=⟨rfl,rfl,rfl,by decide+kernel,rfl,by decide+kernel,by decide+kernel⟩
theorem h_says_nothing (B:Bl mg) (F:Def K mg "says_nothing" qbt_ ["row"]) (F_below:qe3_ P w K mg base) (C_ZERO:Zero4 K mg):Has P w K mg base CX0 2 "says_nothing" ["row"] (spW K (pur gSN)):=by
 refine F.hasP sc_says_nothing (λds P h=>by obtain ⟨_,_,_,rfl,_⟩:=h;rfl) λf cdv A outer s H E hr=>?_
 have nd:=sc_says_nothing.nd
 refine ⟨_,(qf_ (qn_ (qtp_ (qtr_ rfl B.all rfl (qa_ (j_fz (qc7_ ["q"] [none] ⟨rfl,by decide+kernel,by decide+kernel,rfl,rfl,by intro i x j _ h;exact absurd h (by rcases i with _|_|_|i<;>simp)⟩ rfl (qr_ (j_fz (qdk_ (qh_ 0 qd_) (qh_ 0 qd_)))) (λ_ _ _ _ _=>(qg_ (i:=0) (show List.Nodup [("q":Str)] by decide+kernel) rfl (Or.inl rfl))) (λ_ _ _ _ _=>q4_) (λ_ _ _ _ _=>(j_eq hr (jv 0) (qbr_ C_ZERO rfl))))) qb_)) (qsm_ (qoe_ (j_h F_below (hr.mono (by decide)) rfl (qa_ (qh_ 0 qd_) (qa_ (qbr_ C_ZERO rfl) qb_)))))))),?_⟩
 rintro ds M Q ⟨z,s,t,rfl,ok,hs,ht,k⟩
 have l1:=ok.s
 have l2:=ok.t
 refine ⟨Nat.le_trans (show _<=200 by rw [List.length_map,List.length_map];omega) (by rw [sizeLine_eq];decide),?_⟩
 refine ⟨λi out ρ M'=>M'=M/\out=((z.1++z.2.1).take i).map (λq=>D.bl (decide (q=0)))/\∃o,ρ=[o],⟨rfl,rfl,_,rfl⟩,?_,?_⟩
 ·rintro i d out ρ M' hd ⟨rfl,rfl,o,rfl⟩
  have hd:(z.1.map frD++z.2.1.map frD)[i]?=some d:=hd
  rw [<-List.map_append] at hd
  obtain ⟨q,hq,rfl⟩:=qq_ hd
  have hi:=(List.getElem?_eq_some_iff.mp hq).1
  rw [List.length_append] at hi
  refine ⟨Nat.le_trans (qcm_ q) (by decide),by rw [List.length_map,List.length_take];exact qi_ (by omega),rfl,?_,.sh (frD q),rfl⟩
  rw [<-q1_ (f:=λq:Rat=>D.bl (decide (q=0))) hq]
  have:=qhy_ q 0
  rw [<-this]
 rintro out ρ M' ⟨rfl,rfl,o,rfl⟩
 have el:(z.1.map frD++z.2.1.map frD).length=(z.1++z.2.1).length:=by rw [<-List.map_append,List.length_map]
 rw [el,List.take_length]
 show match bls ((z.1++z.2.1).map λq=>D.bl (decide (q=0))) with|some bs=>_|none=>False
 have eb:((z.1++z.2.1).map λq=>D.bl (decide (q=0)))=((z.1++z.2.1).map λq=>decide (q=0)).map D.bl:=by rw [List.map_map];rfl
 rw [eb,qgr_]
 show if ((z.1++z.2.1).map λq=>decide (q=0)).all id=true then _ else _
 have ea:((z.1++z.2.1).map λq=>decide (q=0)).all id=(z.1++z.2.1).all (λq=>decide (q=0)):=by rw [List.all_map];rfl
 rw [ea]
 unfold idle at k
 refine iteB (λc=>?_) (λc=>?_)
 ·rw [c,Bool.true_and] at k
  exact ⟨z.2.2,0,rfl,Mx.of ok.c sm0,_,Sub.refl _,k⟩
 ·rw [c,Bool.false_and] at k
  exact ⟨_,Sub.refl _,k⟩
def onR (acc:List ZR) (z:ZR):List ZR:=if idle z then acc else if z∈acc then acc else acc++[z]
def onQ (R:List ZR):List ZR:=R.foldl onR []
def kQ (z:ZR):D:= .tup [.tup (z.1.map frD),.tup (z.2.1.map frD),frD z.2.2]
theorem qtf_ {y z:ZR} (h:kQ y=kQ z):y=z:=by
 unfold kQ at h
 injection h with h
 injection h with h1 h
 injection h1 with h1
 injection h with h2 h
 injection h2 with h2
 injection h with h3 _
 obtain ⟨a,b,c⟩:=y
 obtain ⟨a',b',c'⟩:=z
 simp only at h1 h2 h3
 rw [qg7_ h1,qg7_ h2,qm1_ h3]
theorem qro_ {acc:List ZR} {z y:ZR} (h:y∈onR acc z):y∈acc\/y=z:=by
 unfold onR at h
 split at h
 ·exact .inl h
 ·split at h
  ·exact .inl h
  ·rcases List.mem_append.mp h with h|h
   ·exact .inl h
   ·exact .inr (List.mem_singleton.mp h)
theorem qrr_ (acc:List ZR) (z:ZR):(onR acc z).length<=acc.length+1:=by
 unfold onR
 split
 ·omega
 ·split
  ·omega
  ·simp
theorem qf4_ (R:List ZR):(onQ R).length<=R.length:=by
 unfold onQ
 have:∀(R acc:List ZR),(R.foldl onR acc).length<=acc.length+R.length:=by
  intro R
  induction R with
  |nil=>intro acc;simp
  |cons z R ih=>
   intro acc
   rw [List.foldl_cons,List.length_cons]
   have h1:=ih (onR acc z)
   have h2:=qrr_ acc z
   omega
 have:=this R []
 simpa using this
theorem qh6_ {R:List ZR} {y:ZR} (h:y∈onQ R):y∈R:=by
 unfold onQ at h
 have:∀(R acc:List ZR),y∈R.foldl onR acc->y∈acc\/y∈R:=by
  intro R
  induction R with
  |nil=>intro acc h;exact .inl h
  |cons z R ih=>
   intro acc h
   rw [List.foldl_cons] at h
   rcases ih _ h with h|h
   ·rcases qro_ h with h|h
    ·exact .inl h
    ·exact .inr (by simp [h])
   ·exact .inr (by simp [h])
 rcases this R [] h with h|h
 ·cases h
 ·exact h
theorem qln_:∀qs:List Rat,kOks (qs.map frD)=true
 |[]=>rfl
 |q::qs=>by rw [List.map_cons,kOks,qln_ qs];rfl
theorem qrw_ (z:ZR):kOk (kQ z)=true:=by
 unfold kQ
 simp only [kOk,kOks,qln_,Bool.true_and,Bool.and_true]
 rfl
theorem qsx_ (z:ZR):dep (kQ z)<=8:=by
 have h1:=qee_ qcm_ z.1
 have h2:=qee_ qcm_ z.2.1
 have h3:=qcm_ z.2.2
 simp only [kQ,dep,deps] at h1 h2 ⊢;omega
theorem qdu_ {α β:Type} {f:β->α->β} {z:β} {l:List α} {i:Nat} {x:α} (h:l[i]?=some x):(l.take (i+1)).foldl f z=f ((l.take i).foldl f z) x:=by
 rw [List.take_add_one,h,Option.toList_some,List.foldl_append];rfl
def gOn:List D->(D->Prop)->Prop:=λds P=>∃(R:List ZR) (s t:Nat),ds=[.lst (R.map zQ)]/\R.length<=100000/\s<=100/\t<=100/\(∀z∈R,RowOk s t 4000 z)/\P (.lst ((onQ R).map zQ))
abbrev qff_:Stmt:=top 27
theorem sc_put_on:FnScope ["rows","told","row"] ["rows"] (qe_ qff_):=⟨rfl,rfl,rfl,by decide+kernel,rfl,by decide+kernel,by decide+kernel⟩
theorem h_put_on (B:Bl mg) (F:Def K mg "put_on" qff_ ["rows"]) (F_says_nothing:Has P w K mg base CX0 2 "says_nothing" ["row"] (spW K (pur gSN))):Has P w K mg base CX0 3 "put_on" ["rows"] (spW K (pur gOn)):=by
 refine F.hasP sc_put_on (λds P h=>by obtain ⟨_,_,_,rfl,_⟩:=h;rfl) λf cdv A outer s H E hr=>?_
 have nd:=sc_put_on.nd
 refine ⟨_,(qc_ (qq4_ (i:=1) nd rfl (Or.inl rfl))
  (qc_ (qbm_ PassesOwn.never rfl (qr_ (jv 0)) (qg_ (i:=2) nd rfl (Or.inl rfl))
  (qf_ (qcd_ (qfs_ (jt (j_h F_says_nothing (hr.mono (by decide)) rfl (qa_ (jv 2) qb_)))) (qf_ (qv3_ 1 (u10 hr) (qa_ (q7_ (qa_ (qo5_ rfl B.tuple (qa_ (qh_ 2 qd_) qb_)) (qa_ (qo5_ rfl B.tuple (qa_ (qh_ 2 qd_) qb_)) (qa_ (qh_ 2 qd_) qb_)))) (qa_ (jv 2) qb_)))) qx_)))
  (qf_ (qn_ (j_fz (qqp_ (pos2:=⟨0,0,0,0⟩) 1 rfl B.list rfl)))))),?_⟩
 rintro ds M Q ⟨R,s,t,rfl,lR,hs,ht,ok,k⟩
 intro p hp
 refine ⟨λi ρ M'=>(M'=mset M p (.tk (((R.take i).foldl onR []).map λz=>(kQ z,zQ z))))/\∃o2,ρ=[.sh (.lst (R.map zQ)),.rf p,o2],⟨rfl,_,rfl⟩,?_,?_⟩
 ·rintro i d ρ M' hd ⟨rfl,o2,rfl⟩
  obtain ⟨z,hz,rfl⟩:=qq_ hd
  have zm:=List.mem_of_getElem? hz
  have hi:=(List.getElem?_eq_some_iff.mp hz).1
  have eo:(R.take (i+1)).foldl onR []=onR ((R.take i).foldl onR []) z:=qdu_ hz
  have lo:((R.take i).foldl onR []).length<=i:=by
   have:=qf4_ (R.take i)
   rw [List.length_take] at this
   exact Nat.le_trans this (by omega)
  generalize (R.take i).foldl onR []=acc at eo lo
  refine ⟨z,s,t,rfl,ok z zm,hs,ht,?_⟩
  show if (!idle z)=true then _ else _
  refine iteB (λc=>?_) (λc=>?_)
  ·have c':idle z=false:=by simpa using c
   refine ⟨⟨_,qm_⟩,by show 3<=sizeLine;decide,_,_,_,rfl,qm_,qrw_ z,qsx_ z,by rw [List.length_map];exact qjb_ (by omega),?_,.sh (zQ z),rfl⟩
   rw [qcb_,eo,onR,c']
   have ek:(acc.map λz=>(kQ z,zQ z)).map (·.1)=acc.map kQ:=by rw [List.map_map];rfl
   have em:kQ z∈(acc.map λz=>(kQ z,zQ z)).map (·.1)↔z∈acc:=by
    rw [ek,List.mem_map]
    exact ⟨λ⟨y,hy,e⟩=>qtf_ e ▸ hy,λh=>⟨z,h,rfl⟩⟩
   show mset M p (.tk (sdK (acc.map λz=>(kQ z,zQ z)) (kQ z) (zQ z)))=_
   unfold sdK
   by_cases h:z∈acc
   ·rw [if_pos (em.mpr h),if_neg Bool.false_ne_true,if_pos h]
   ·rw [if_neg (λx=>h (em.mp x)),if_neg Bool.false_ne_true,if_neg h,List.map_append];rfl
  ·have c':idle z=true:=by simpa using c
   refine ⟨?_,.sh (zQ z),rfl⟩
   rw [eo,onR,c',if_pos rfl]
 ·rintro ρ M' ⟨rfl,o2,rfl⟩
  rw [List.length_map,List.take_length]
  have lo:=qf4_ R
  refine ⟨_,qm_,by rw [List.length_map];exact Nat.le_trans lo lR,M,(Sub.refl M).mset hp,?_⟩
  have e:((R.foldl onR []).map λz=>(kQ z,zQ z)).map (·.2)=(onQ R).map zQ:=by rw [List.map_map];rfl
  rw [e]
  exact k

def gCR:List D->(D->Prop)->Prop:=λds P=>∃Z:List ZR,ds=[.lst (Z.map zQ)]/\Z.length<=1000/\P (.lst (Z.map zQ))
abbrev qb7_:Stmt:=top 15
theorem sc_copied_rows:FnScope ["rows"] ["rows"] (qe_ qb7_):=⟨rfl,rfl,rfl,by decide+kernel,rfl,by decide+kernel,by decide+kernel⟩
theorem h_copied_rows (B:Bl mg) (F:Def K mg "copied_rows" qb7_ ["rows"]):Has P w K mg base CX0 1 "copied_rows" ["rows"] (spN K gCR):=by
 refine F.hasN sc_copied_rows (λds P h=>by obtain ⟨_,rfl,_⟩:=h;rfl) λf cdv A outer s H E hr=>?_
 have nd:=sc_copied_rows.nd
 refine ⟨_,(qf_ (qii_ (qe2_ (quo_ ["a","b","c"] [none,none,none] ⟨rfl,by decide+kernel,by decide+kernel,rfl,rfl,by intro i x j _ h;exact absurd h (by rcases i with _|_|_|i<;>simp)⟩ rfl (qr_ (jv 0)) (λ_ _ _ _ _=>(qba_ (n:=3) rfl (qj_ (qg_ (i:=0) (show List.Nodup [("a":Str),("b":Str),("c":Str)] by decide+kernel) rfl (Or.inl rfl)) (qj_ (qg_ (i:=1) (show List.Nodup [("a":Str),("b":Str),("c":Str)] by decide+kernel) rfl (Or.inl rfl)) (qj_ (qg_ (i:=2) (show List.Nodup [("a":Str),("b":Str),("c":Str)] by decide+kernel) rfl (Or.inl rfl)) qy_))))) (λ_ _ _ _ _=>q4_) (λ_ _ _ _ _=>(qk1_ (qv_ (qe2_ (qih_ (qbd_ rfl B.list (qa_ (jv 0) qb_)))) (qv_ (qe2_ (qih_ (qbd_ rfl B.list (qa_ (jv 1) qb_)))) (qv_ (ju_d (jv 2)) qd7_))))))))),?_⟩
 rintro ds M Q ⟨Z,rfl,l,k⟩
 refine ⟨λi out ρ M'=>Freshs M M' ((Z.take i).map zQ) out/\∃o1 o2 o3,ρ=[o1,o2,o3],⟨.nil,_,_,_,rfl⟩,?_,?_⟩
 ·rintro i d out ρ M' hd ⟨fr,o1,o2,o3,rfl⟩
  obtain ⟨z,hz,rfl⟩:=qq_ hd
  have hi:=(List.getElem?_eq_some_iff.mp hz).1
  have lo:out.length<=1000:=by
   obtain ⟨A,h1,_⟩:=fr
   rw [<-h1.length,List.length_map,List.length_take];omega
  refine ⟨rfl,λp hp p2 hp2=>⟨by show 3<=sizeLine;decide,qi_ (by omega),?_,.sh (frL z.1),.sh (frL z.2.1),.sh (frD z.2.2),rfl⟩⟩
  rw [<-q1_ (f:=zQ) hz]
  exact fr.snoc (.tup (.cons (.newD (qdv_ λ_=>rfl) hp) (.cons (.newD (qdv_ λ_=>rfl) hp2) (.cons (.leaf rfl) .nil))))
 ·rintro out ρ M' ⟨fr,o1,o2,o3,rfl⟩
  rw [List.length_map,List.take_length] at fr
  exact λp hp=>⟨_,_,Sub.refl _,.new fr hp,k⟩

def qg5_ (S T:List (Rat×Rat)):List ZR:=(qea_ T).map λr=>(List.replicate S.length 0,r.1,r.2)
def gSR:List D->(D->Prop)->Prop:=λds P=>∃(S T:List (Rat×Rat)) (Z:List ZR),ds=[q9_ S T Z]/\S.length<=100/\T.length<=100/\P (.lst ((qg5_ S T).map zQ))
theorem qe4_ (T:List (Rat×Rat)):(qea_ T).length=2*T.length:=by
 unfold qea_
 rw [qi8_ 0 _ (by intro y hy;obtain ⟨j,hj,rfl⟩:=List.mem_mapIdx.mp hy;rfl),List.length_mapIdx]
abbrev qcy_:Stmt:=top 28
theorem sc_shim_rows:FnScope ["plan"] ["plan"] (qe_ qcy_):=⟨rfl,rfl,rfl,by decide+kernel,rfl,by decide+kernel,by decide+kernel⟩
theorem h_shim_rows (B:Bl mg) (F:Def K mg "shim_rows" qcy_ ["plan"]) (F_bound_rows:Has P w K mg base CX0 2 "bound_rows" ["shims"] (spN K gBR)) (C_ZERO:Zero4 K mg):Has P w K mg base CX0 3 "shim_rows" ["plan"] (spW K (pur gSR)):=by
 refine F.hasP sc_shim_rows (λds P h=>by obtain ⟨_,_,_,rfl,_⟩:=h;rfl) λf cdv A outer s H E hr=>?_
 have nd:=sc_shim_rows.nd
 refine ⟨_,(qf_ (qn_ (j_fz (qc7_ ["b","d","plan"] [none,none,some 0] ⟨rfl,by decide+kernel,by decide+kernel,rfl,rfl,q3_ rfl⟩ rfl (qr_ (j_h (L3.Has.toW F_bound_rows) (hr.mono (by decide)) rfl (qa_ (qh_ 0 qd_) qb_))) (λ_ _ _ _ _=>(qba_ (n:=2) rfl (qj_ (qg_ (i:=0) (show List.Nodup [("b":Str),("d":Str),("plan":Str)] by decide+kernel) rfl (Or.inl rfl)) (qj_ (qg_ (i:=1) (show List.Nodup [("b":Str),("d":Str),("plan":Str)] by decide+kernel) rfl (Or.inl rfl)) qy_)))) (λ_ _ _ _ _=>q4_) (λ_ _ _ _ _=>(q7_ (qa_ (j_fz (qc7_ ["pair"] [none] ⟨rfl,by decide+kernel,by decide+kernel,rfl,rfl,by intro i x j _ h;exact absurd h (by rcases i with _|_|_|i<;>simp)⟩ rfl (qr_ (qh_ 2 qd_)) (λ_ _ _ _ _=>(qg_ (i:=0) (show List.Nodup [("pair":Str)] by decide+kernel) rfl (Or.inl rfl))) (λ_ _ _ _ _=>q4_) (λ_ _ _ _ _=>(qbr_ C_ZERO rfl)))) (qa_ (jv 0) (qa_ (jv 1) qb_))))))))),?_⟩
 rintro ds M Q ⟨S,T,Z,rfl,lS,lT,k⟩
 have lb:=qe4_ T
 refine ⟨T,rfl,lT,λi out ρ M'=>M'=M/\out=((qea_ T).take i).map (λr=>zQ (List.replicate S.length 0,r.1,r.2))/\∃o1 o2,ρ=[o1,o2,.sh (q9_ S T Z)],⟨rfl,rfl,_,_,rfl⟩,?_,?_⟩
 ·rintro i d out ρ M' hd ⟨rfl,rfl,o1,o2,rfl⟩
  obtain ⟨r,hr',rfl⟩:=qq_ hd
  have hi:=(List.getElem?_eq_some_iff.mp hr').1
  refine ⟨rfl,λj out ρ M2=>M2=M'/\out=List.replicate j (frD 0)/\∃o,ρ=[o],⟨rfl,rfl,_,rfl⟩,?_,?_⟩
  ·rintro j d out ρ M2 hd ⟨rfl,rfl,o,rfl⟩
   have hj:=(List.getElem?_eq_some_iff.mp hd).1
   have hj:j<(S.map bQ).length:=hj
   rw [List.length_map] at hj
   exact ⟨by rw [List.length_replicate];exact qi_ (by omega),rfl,by rw [List.replicate_succ'],.sh d,rfl⟩
  rintro out2 ρ M2 ⟨rfl,h2,o,rfl⟩
  have h2:out2=List.replicate (S.map bQ).length (frD 0):=h2
  rw [List.length_map] at h2
  have e2:D.lst out2=frL (List.replicate S.length 0):=by rw [h2,frL,List.map_replicate]
  refine ⟨by show 3<=sizeLine;decide,by rw [List.length_map,List.length_take];exact qi_ (by omega),rfl,?_,.sh (frL r.1),.sh (frD r.2),rfl⟩
  rw [<-q1_ (f:=λr:BR=>zQ (List.replicate S.length 0,r.1,r.2)) hr',e2]
  rfl
 ·rintro out ρ M' ⟨rfl,rfl,o1,o2,rfl⟩
  rw [List.length_map,List.take_length]
  have e:((qea_ T).map λr=>zQ (List.replicate S.length 0,r.1,r.2))=(qg5_ S T).map zQ:=by rw [qg5_,List.map_map];rfl
  rw [e]
  exact ⟨_,Sub.refl _,k⟩
theorem qhd_ {n:Nat} {q:Rat} (h:SmR n q):SmR n (-q):=⟨by rw [Rat.neg_num];exact h.1.neg,by rw [Rat.neg_den];exact h.2⟩
theorem qno_ {n k:Nat} {q x:Rat} (h:x∈qbe_ n k q):x=0\/x=q:=by
 unfold qbe_ at h
 rcases List.mem_or_eq_of_mem_set h with h|h
 ·exact .inl (List.eq_of_mem_replicate h)
 ·exact .inr h
theorem qof_ (S T:List (Rat×Rat)):(qg5_ S T).length=2*T.length:=by rw [qg5_,List.length_map,qe4_]

def mixQ (q:Rat) (a:List Rat) (r:Rat) (b:List Rat):List Rat:=List.zipWith (λx y=>q*x+r*y) a b
def gMix:List D->(D->Prop)->Prop:=λds P=>∃(n:Nat) (q r:Rat) (a b:List Rat),ds=[frD q,frL a,frD r,frL b]/\n<=2000/\SmR n q/\SmR n r/\(∀x∈a,SmR n x)/\(∀x∈b,SmR n x)/\a.length=b.length/\a.length<=100/\P (frL (mixQ q a r b))
abbrev qgs_:Stmt:=top 29
theorem sc_mixed:FnScope ["q","one","r","other"] ["q","one","r","other"] (qe_ qgs_):=⟨rfl,rfl,rfl,by decide+kernel,rfl,by decide+kernel,by decide+kernel⟩
theorem h_mixed (B:Bl mg) (F:Def K mg "mixed" qgs_ ["q","one","r","other"]) (F_plus:qn2_ P w K mg base) (F_times:qms_ P w K mg base):Has P w K mg base CX0 4 "mixed" ["q","one","r","other"] (spW K (pur gMix)):=by
 refine F.hasP sc_mixed (λds P h=>by obtain ⟨_,_,_,_,_,rfl,_⟩:=h;rfl) λf cdv A outer s H E hr=>?_
 have nd:=sc_mixed.nd
 refine ⟨_,(qf_ (qn_ (j_fz (qc7_ ["x","y","q","r"] [none,none,some 0,some 2] ⟨rfl,by decide+kernel,by decide+kernel,rfl,rfl,q3_ rfl⟩ rfl (qgp_ rfl B.zip (qa_ (jv 1) (qa_ (jv 3) qb_))) (λ_ _ _ _ _=>(qba_ (n:=2) rfl (qj_ (qg_ (i:=0) (show List.Nodup [("x":Str),("y":Str),("q":Str),("r":Str)] by decide+kernel) rfl (Or.inl rfl)) (qj_ (qg_ (i:=1) (show List.Nodup [("x":Str),("y":Str),("q":Str),("r":Str)] by decide+kernel) rfl (Or.inl rfl)) qy_)))) (λ_ _ _ _ _=>q4_) (λ_ _ _ _ _=>(j_h F_plus (hr.mono (by decide)) rfl (qa_ (j_h F_times (hr.mono (by decide)) rfl (qa_ (jv 2) (qa_ (jv 0) qb_))) (qa_ (j_h F_times (hr.mono (by decide)) rfl (qa_ (jv 3) (qa_ (jv 1) qb_))) qb_)))))))),?_⟩
 rintro ds M Q ⟨n,q,r,a,b,rfl,hn,sq,sr,sa,sb,la,lb,k⟩
 refine ⟨λi out ρ M'=>M'=M/\out=((mixQ q a r b).take i).map frD/\∃o1 o2,ρ=[o1,o2,.sh (frD q),.sh (frD r)],⟨rfl,rfl,_,_,rfl⟩,?_,?_⟩
 ·rintro i d out ρ M' hd ⟨rfl,rfl,o1,o2,rfl⟩
  obtain ⟨x,y,hx,hy,rfl⟩:=qkx_ hd
  have hi:=(List.getElem?_eq_some_iff.mp hx).1
  have sx:=sa x (List.mem_of_getElem? hx)
  have sy:=sb y (List.mem_of_getElem? hy)
  have hm:(mixQ q a r b)[i]?=some (q*x+r*y):=by rw [mixQ,List.getElem?_zipWith,hx,hy]
  refine ⟨rfl,q,x,rfl,Mx.of sq sx (by omega),r,y,rfl,Mx.of sr sy (by omega),_,_,rfl,Mx.of (qcc_ sq sx) (qcc_ sr sy) (by omega),by rw [List.length_map,List.length_take];exact qi_ (by omega),rfl,q1_ (f:=frD) hm,.sh (frD x),.sh (frD y),rfl⟩
 ·rintro out ρ M' ⟨rfl,rfl,o1,o2,rfl⟩
  have e:(zipD (a.map frD) (b.map frD)).length=(mixQ q a r b).length:=by rw [qcf_,List.length_map,List.length_map,mixQ,List.length_zipWith]
  rw [e,List.take_length]
  exact ⟨_,Sub.refl _,k⟩
def ptQ (l h:ZR) (k:Nat):ZR:=(mixQ (-(h.2.1.getD k 0)) l.1 (l.2.1.getD k 0) h.1,mixQ (-(h.2.1.getD k 0)) l.2.1 (l.2.1.getD k 0) h.2.1, -(h.2.1.getD k 0)*l.2.2+l.2.1.getD k 0*h.2.2)
theorem q6_ {l:List Rat} {k:Nat} (h:k<l.length):l.getD k 0∈l:=by
 rw [List.getD_eq_getElem?_getD,List.getElem?_eq_getElem h]
 exact List.getElem_mem h
theorem RIx.frl {qs:List Rat} {k:Nat} {P:D->Prop} (h:k<qs.length) (p:P (frD (qs.getD k 0))):RIx (frL qs) (.int (k:Int)) P:=by
 refine RIx.get (d:=frD (qs.getD k 0)) ?_ p
 rw [List.getElem?_map,List.getElem?_eq_getElem h,List.getD_eq_getElem?_getD,List.getElem?_eq_getElem h];rfl
def gPT:List D->(D->Prop)->Prop:=λds P=>∃(l h:ZR) (k s t n:Nat),ds=[zQ l,zQ h,.int k]/\RowOk s t n l/\RowOk s t n h/\k<t/\s<=100/\t<=100/\n<=2000/\P (zQ (ptQ l h k))
abbrev qbu_:Stmt:=top 30
theorem sc_put_together:FnScope ["low","high","k","q","r"] ["low","high","k"] (qe_ qbu_):=⟨rfl,rfl,rfl,by decide+kernel,rfl,by decide+kernel,by decide+kernel⟩
theorem h_put_together (B:Bl mg) (F:Def K mg "put_together" qbu_ ["low","high","k"]) (F_opposite:Has P w K mg base CX0 1 "opposite" ["q"] (spW K (pur gOpp))) (F_mixed:Has P w K mg base CX0 4 "mixed" ["q","one","r","other"] (spW K (pur gMix))) (F_plus:qn2_ P w K mg base) (F_times:qms_ P w K mg base):Has P w K mg base CX0 5 "put_together" ["low","high","k"] (spW K (pur gPT)):=by
 refine F.hasP sc_put_together (λds P h=>by obtain ⟨_,_,_,_,_,_,rfl,_⟩:=h;rfl) λf cdv A outer s H E hr=>?_
 have nd:=sc_put_together.nd
 refine ⟨_,(qc_ (qp_ (i:=3) nd rfl (Or.inl rfl) (j_h F_opposite (hr.mono (by decide)) rfl (qa_ (j_at (qh_ 1 qd_) (jv 2)) qb_)))
  (qc_ (qp_ (i:=4) nd rfl (Or.inl rfl) (j_at (qh_ 0 qd_) (jv 2)))
  (qf_ (qn_ (q7_ (qa_ (j_h F_mixed (hr.mono (by decide)) rfl (qa_ (jv 3) (qa_ (qh_ 0 qd_) (qa_ (jv 4) (qa_ (qh_ 1 qd_) qb_))))) (qa_ (j_h F_mixed (hr.mono (by decide)) rfl (qa_ (jv 3) (qa_ (qh_ 0 qd_) (qa_ (jv 4) (qa_ (qh_ 1 qd_) qb_))))) (qa_ (j_h F_plus (hr.mono (by decide)) rfl (qa_ (j_h F_times (hr.mono (by decide)) rfl (qa_ (jv 3) (qa_ (qh_ 0 qd_) qb_))) (qa_ (j_h F_times (hr.mono (by decide)) rfl (qa_ (jv 4) (qa_ (qh_ 1 qd_) qb_))) qb_))) qb_)))))))),?_⟩
 rintro ds M Q ⟨l,h,k,s,t,n,rfl,ol,oh,hk,hs,ht,hn,q⟩
 have kl:k<l.2.1.length:=by rw [ol.t];exact hk
 have kh:k<h.2.1.length:=by rw [oh.t];exact hk
 have m1:=qhd_ (oh.b _ (q6_ kh))
 have m2:=ol.b _ (q6_ kl)
 refine RIx.frl kh ⟨_,rfl,RIx.frl kl ?_⟩
 refine ⟨n,_,_,l.1,h.1,rfl,hn,m1,m2,ol.a,oh.a,by rw [ol.s,oh.s],by rw [ol.s];exact hs,n,_,_,l.2.1,h.2.1,rfl,hn,m1,m2,ol.b,oh.b,by rw [ol.t,oh.t],by rw [ol.t];exact ht,?_⟩
 exact ⟨_,_,rfl,Mx.of m1 ol.c (by omega),_,_,rfl,Mx.of m2 oh.c (by omega),_,_,rfl,Mx.of (qcc_ m1 ol.c) (qcc_ m2 oh.c) (by omega),by show 3<=sizeLine;decide,_,Sub.refl _,q⟩

/-! ### fractions over a common bottom -/
def Wh (D n:Nat) (q:Rat):Prop:=∃k:Int,q=Rat.divInt k D/\Sm n k
theorem Wh.mono {D a b:Nat} {q:Rat} (h:Wh D a q) (k:a<=b):Wh D b q:=let ⟨x,e,s⟩:=h;⟨x,e,s.mono k⟩
theorem Wh.add {D n:Nat} {q r:Rat} (h:Wh D n q) (k:Wh D n r):Wh D (n+1) (q+r):=by
 obtain ⟨a,rfl,sa⟩:=h
 obtain ⟨b,rfl,sb⟩:=k
 refine ⟨a+b,?_,sa.add sb⟩
 rw [Rat.divInt_eq_div,Rat.divInt_eq_div,Rat.divInt_eq_div,Rat.intCast_add,Rat.div_def,Rat.div_def,Rat.div_def,Rat.add_mul]
theorem Wh.mul {D E n m:Nat} {q r:Rat} (h:Wh D n q) (k:Wh E m r):Wh (D*E) (n+m) (q*r):=by
 obtain ⟨a,rfl,sa⟩:=h
 obtain ⟨b,rfl,sb⟩:=k
 exact ⟨a*b,by rw [Rat.divInt_mul_divInt,Int.natCast_mul],sa.mul sb⟩
theorem Wh.up {D n m:Nat} {q:Rat} (c:Nat) (h:Wh D n q) (c0:c≠0) (sc:Sm m (c:Int)):Wh (D*c) (n+m) q:=by
 obtain ⟨a,rfl,sa⟩:=h
 refine ⟨a*c,?_,sa.mul sc⟩
 rw [Int.natCast_mul,Rat.divInt_mul_right (by omega)]
theorem Wh.smr {D n:Nat} {q:Rat} (h:Wh D n q) (d0:D≠0) (sD:Sm n (D:Int)):SmR n q:=by
 obtain ⟨a,rfl,sa⟩:=h
 exact qux_ (by omega) sa sD
def bAt (k:Nat) (z:ZR):Rat:=z.2.1.getD k 0
def qz_ (k:Nat) (R:List ZR):List ZR:=R.filter λz=>decide (0<bAt k z)
def qw_ (k:Nat) (R:List ZR):List ZR:=R.filter λz=>decide (bAt k z<0)
def qd3_ (k:Nat) (R:List ZR):List ZR:=R.filter λz=>decide (bAt k z=0)
def qct_ (k:Nat) (L G:List ZR):List ZR:=(L.map λl=>G.map λh=>ptQ l h k).flatten
def qi2_ (k:Nat) (R:List ZR):List ZR:=qd3_ k R++qct_ k (qz_ k R) (qw_ k R)
def outQ (k:Nat) (R:List ZR):List ZR:=onQ (qd3_ k R++qct_ k (qz_ k R) (qw_ k R))
theorem qs_ {α:Type} {p:α->Bool} {l:List α} {i:Nat} {x:α} (h:l[i]?=some x):(l.take (i+1)).filter p=(l.take i).filter p++(if p x=true then [x] else []):=by
 rw [List.take_add_one,h,Option.toList_some,List.filter_append]
 congr 1
 by_cases c:p x=true
 ·rw [if_pos c,List.filter_cons_of_pos c];rfl
 ·rw [if_neg c,List.filter_cons_of_neg c];rfl
theorem qe9_ (k:Nat):∀(L G:List ZR),(qct_ k L G).length=L.length*G.length
 |[],G=>by simp [qct_]
 |l::L,G=>by
  have:=qe9_ k L G
  unfold qct_ at this ⊢
  rw [List.map_cons,List.flatten_cons,List.length_append,List.length_map,this,List.length_cons,Nat.add_mul,Nat.one_mul,Nat.add_comm]
theorem qfo_ {k i:Nat} {L G:List ZR} {l:ZR} (h:L[i]?=some l):qct_ k (L.take (i+1)) G=qct_ k (L.take i) G++G.map (λh=>ptQ l h k):=by
 unfold qct_
 rw [List.take_add_one,h,Option.toList_some,List.map_append,List.flatten_append]
 simp
def gTO:List D->(D->Prop)->Prop:=λds P=>∃(R:List ZR) (k s t n:Nat),ds=[.lst (R.map zQ),.int k]/\R.length<=330/\(∀z∈R,RowOk s t n z)/\(∀z∈qi2_ k R,RowOk s t 4000 z)/\k<t/\s<=100/\t<=100/\n<=2000/\P (.tup [.lst ((qz_ k R).map zQ),.lst ((qw_ k R).map zQ),.lst ((outQ k R).map zQ)])
theorem qia_ (k:Nat):∀R:List ZR,(qd3_ k R).length+(qz_ k R).length+(qw_ k R).length=R.length
 |[]=>rfl
 |z::R=>by
  have ih:=qia_ k R
  unfold qd3_ qz_ qw_ at ih ⊢
  rw [List.filter_cons,List.filter_cons,List.filter_cons,List.length_cons]
  rcases (show bAt k z<0\/bAt k z=0\/0<bAt k z by grind) with h|h|h
  ·have h1:¬bAt k z=0:=by grind
   have h2:¬0<bAt k z:=by grind
   simp only [h,h1,h2,decide_true,decide_false,if_true,Bool.false_eq_true,if_false,List.length_cons];omega
  ·have h1:¬bAt k z<0:=by grind
   have h2:¬0<bAt k z:=by grind
   simp only [h1,h2,decide_true,decide_false,if_true,Bool.false_eq_true,if_false];rw [if_pos (by simpa using h),List.length_cons];omega
  ·have h1:¬bAt k z=0:=by grind
   have h2:¬bAt k z<0:=by grind
   have h3:0<bAt k z:=h
   simp only [h1,h2,h3,decide_true,decide_false,if_true,Bool.false_eq_true,if_false,List.length_cons];omega
theorem qjk_ {R:List ZR} {k c:Nat} (h:R.length<=c) (c4:4<=c):4*(qi2_ k R).length<=c*c:=by
 have e:=qia_ k R
 unfold qi2_
 rw [List.length_append,qe9_]
 generalize (qd3_ k R).length=x at*
 generalize (qz_ k R).length=a at*
 generalize (qw_ k R).length=b at*
 have h1:4*(a*b)<=(a+b)*(a+b):=by
  rcases Nat.le_total a b with h|h
  ·obtain ⟨d,rfl⟩:=Nat.exists_eq_add_of_le h
   have:(a+(a+d))*(a+(a+d))=4*(a*(a+d))+d*d:=by grind
   omega
  ·obtain ⟨d,rfl⟩:=Nat.exists_eq_add_of_le h
   have:(b+d+b)*(b+d+b)=4*((b+d)*b)+d*d:=by grind
   omega
 have hm:x+(a+b)<=c:=by omega
 generalize a+b=m at h1 hm
 obtain ⟨d,rfl⟩:=Nat.exists_eq_add_of_le (show m<=c by omega)
 have h2:(m+d)*(m+d)=m*m+d*(m+(m+d)):=by grind
 have h3:d*4<=d*(m+(m+d)):=Nat.mul_le_mul_left _ (by omega)
 omega
abbrev qc9_:Stmt:=top 31
theorem sc_taken_out:FnScope ["rows","k","lows","highs","told_on","low"] ["rows","k"] (qe_ qc9_):=⟨rfl,rfl,rfl,by decide+kernel,rfl,by decide+kernel,by decide+kernel⟩
theorem h_taken_out (B:Bl mg) (F:Def K mg "taken_out" qc9_ ["rows","k"]) (F_below:qe3_ P w K mg base) (F_put_together:Has P w K mg base CX0 5 "put_together" ["low","high","k"] (spW K (pur gPT))) (F_put_on:Has P w K mg base CX0 3 "put_on" ["rows"] (spW K (pur gOn))) (C_ZERO:Zero4 K mg):Has P w K mg base CX0 6 "taken_out" ["rows","k"] (spW K (pur gTO)):=by
 refine F.hasP sc_taken_out (λds P h=>by obtain ⟨_,_,_,_,_,rfl,_⟩:=h;rfl) λf cdv A outer s H E hr=>?_
 have nd:=sc_taken_out.nd
 refine ⟨_,(qc_ (qfd_ (k:=2) nd rfl (Or.inl rfl) ["row","k"] [none,some 1] ⟨rfl,by decide+kernel,by decide+kernel,rfl,rfl,q3_ rfl⟩ rfl (qr_ (jv 0)) (λ_ _ _ _ _=>(qg_ (i:=0) (show List.Nodup [("row":Str),("k":Str)] by decide+kernel) rfl (Or.inl rfl))) (λ_ _ _ _ _=>(qfz_ (jt (j_h F_below (hr.mono (by decide)) rfl (qa_ (qbr_ C_ZERO rfl) (qa_ (j_at (qh_ 0 qd_) (jv 1)) qb_)))))) (λ_ _ _ _ _=>(jv 0)))
  (qc_ (qfd_ (k:=3) nd rfl (Or.inl rfl) ["row","k"] [none,some 1] ⟨rfl,by decide+kernel,by decide+kernel,rfl,rfl,q3_ rfl⟩ rfl (qr_ (jv 0)) (λ_ _ _ _ _=>(qg_ (i:=0) (show List.Nodup [("row":Str),("k":Str)] by decide+kernel) rfl (Or.inl rfl))) (λ_ _ _ _ _=>(qfz_ (jt (j_h F_below (hr.mono (by decide)) rfl (qa_ (j_at (qh_ 0 qd_) (jv 1)) (qa_ (qbr_ C_ZERO rfl) qb_)))))) (λ_ _ _ _ _=>(jv 0)))
  (qc_ (qc8_ (k:=4) nd rfl (Or.inl rfl) ["row","k"] [none,some 1] ⟨rfl,by decide+kernel,by decide+kernel,rfl,rfl,q3_ rfl⟩ rfl (qr_ (jv 0)) (λ_ _ _ _ _=>(qg_ (i:=0) (show List.Nodup [("row":Str),("k":Str)] by decide+kernel) rfl (Or.inl rfl))) (λ_ _ _ _ _=>(qfz_ (qgc_ hr (j_at (qh_ 0 qd_) (jv 1)) (qbr_ C_ZERO rfl)))) (λ_ _ _ _ _=>(jv 0)))
  (qc_ (qbm_ PassesOwn.never rfl (qr_ (jv 2)) (qg_ (i:=5) nd rfl (Or.inr rfl))
  (qf_ (qqg_ 4 (qc7_ ["high","low","k"] [none,some 5,some 1] ⟨rfl,by decide+kernel,by decide+kernel,rfl,rfl,q3_ rfl⟩ rfl (qr_ (jv 3)) (λ_ _ _ _ _=>(qg_ (i:=0) (show List.Nodup [("high":Str),("low":Str),("k":Str)] by decide+kernel) rfl (Or.inl rfl))) (λ_ _ _ _ _=>q4_) (λ_ _ _ _ _=>(j_h F_put_together (hr.mono (by decide)) rfl (qa_ (jv 1) (qa_ (jv 0) (qa_ (jv 2) qb_)))))))))
  (qf_ (qn_ (q7_ (qa_ (jv 2) (qa_ (jv 3) (qa_ (j_h F_put_on (hr.mono (by decide)) rfl (qa_ (jv 4) qb_)) qb_)))))))))),?_⟩
 rintro ds M Q ⟨R,k,s,t,n,rfl,lR,ok,ok2,hk,hs,ht,hn,q⟩
 have bk:∀z∈R,k<z.2.1.length/\SmR n (bAt k z):=λz hz=>⟨by rw [(ok z hz).t];exact hk,(ok z hz).b _ (q6_ (by rw [(ok z hz).t];exact hk))⟩
  -- lows
 refine ⟨λi out ρ M'=>M'=M/\out=((R.take i).filter λz=>decide (0<bAt k z)).map zQ/\∃o,ρ=[o,.sh (.int k)],⟨rfl,rfl,_,rfl⟩,?_,?_⟩
 ·rintro i d out ρ M' hd ⟨rfl,rfl,o,rfl⟩
  obtain ⟨z,hz,rfl⟩:=qq_ hd
  obtain ⟨k1,k2⟩:=bk z (List.mem_of_getElem? hz)
  have hi:=(List.getElem?_eq_some_iff.mp hz).1
  refine RIx.frl k1 ⟨0,bAt k z,rfl,Mx.of sm0 k2 (by omega),?_⟩
  have fl:=List.length_filter_le (λz=>decide (0<bAt k z)) (R.take i)
  rw [List.length_take] at fl
  refine iteB (λc=>⟨by rw [List.length_map];exact qi_ (by omega),rfl,?_,.sh (zQ z),rfl⟩) (λc=>⟨rfl,?_,.sh (zQ z),rfl⟩)
  ·rw [qs_ hz,if_pos c,List.map_append];rfl
  ·rw [qs_ hz,if_neg (by rw [c];exact Bool.false_ne_true),List.append_nil]
 rintro out ρ M' ⟨rfl,rfl,o,rfl⟩
 rw [List.length_map,List.take_length]
  -- highs
 refine ⟨λi out ρ M2=>M2=M'/\out=((R.take i).filter λz=>decide (bAt k z<0)).map zQ/\∃o,ρ=[o,.sh (.int k)],⟨rfl,rfl,_,rfl⟩,?_,?_⟩
 ·rintro i d out ρ M2 hd ⟨rfl,rfl,o,rfl⟩
  obtain ⟨z,hz,rfl⟩:=qq_ hd
  obtain ⟨k1,k2⟩:=bk z (List.mem_of_getElem? hz)
  have hi:=(List.getElem?_eq_some_iff.mp hz).1
  refine RIx.frl k1 ⟨bAt k z,0,rfl,Mx.of k2 sm0 (by omega),?_⟩
  have fl:=List.length_filter_le (λz=>decide (bAt k z<0)) (R.take i)
  rw [List.length_take] at fl
  refine iteB (λc=>⟨by rw [List.length_map];exact qi_ (by omega),rfl,?_,.sh (zQ z),rfl⟩) (λc=>⟨rfl,?_,.sh (zQ z),rfl⟩)
  ·rw [qs_ hz,if_pos c,List.map_append];rfl
  ·rw [qs_ hz,if_neg (by rw [c];exact Bool.false_ne_true),List.append_nil]
 rintro out ρ M2 ⟨rfl,rfl,o,rfl⟩
 rw [List.length_map,List.take_length]
  -- the others
 refine ⟨λi out ρ M3=>M3=M2/\out=((R.take i).filter λz=>decide (bAt k z=0)).map zQ/\∃o,ρ=[o,.sh (.int k)],⟨rfl,rfl,_,rfl⟩,?_,?_⟩
 ·rintro i d out ρ M3 hd ⟨rfl,rfl,o,rfl⟩
  obtain ⟨z,hz,rfl⟩:=qq_ hd
  obtain ⟨k1,k2⟩:=bk z (List.mem_of_getElem? hz)
  have hi:=(List.getElem?_eq_some_iff.mp hz).1
  refine RIx.frl k1 ⟨Nat.le_trans (qcm_ _) (by decide),?_⟩
  have fl:=List.length_filter_le (λz=>decide (bAt k z=0)) (R.take i)
  rw [List.length_take] at fl
  have e0:peq (frD (bAt k z)) (frD 0)=decide (bAt k z=0):=qhy_ _ _
  show if peq (frD (bAt k z)) (frD 0)=true then _ else _
  rw [e0]
  refine iteB (λc=>⟨by rw [List.length_map];exact qi_ (by omega),rfl,?_,.sh (zQ z),rfl⟩) (λc=>⟨rfl,?_,.sh (zQ z),rfl⟩)
  ·rw [qs_ hz,if_pos c,List.map_append];rfl
  ·rw [qs_ hz,if_neg (by rw [c];exact Bool.false_ne_true),List.append_nil]
 rintro out ρ M3 ⟨rfl,rfl,o,rfl⟩
 rw [List.length_map,List.take_length]
 have lL:(qz_ k R).length<=330:=Nat.le_trans (List.length_filter_le _ _) lR
 have lG:(qw_ k R).length<=330:=Nat.le_trans (List.length_filter_le _ _) lR
 have lE:(qd3_ k R).length<=330:=Nat.le_trans (List.length_filter_le _ _) lR
 have okL:∀z∈qz_ k R,RowOk s t n z:=λz hz=>ok z (List.mem_filter.mp hz).1
 have okG:∀z∈qw_ k R,RowOk s t n z:=λz hz=>ok z (List.mem_filter.mp hz).1
 have tkG:(qw_ k R).take ((qw_ k R).map zQ).length=qw_ k R:=by rw [List.length_map,List.take_length]
 have tkL:(qz_ k R).take ((R.filter λz=>decide (0<bAt k z)).map zQ).length=qz_ k R:=by rw [List.length_map];exact List.take_length
 have l2:∀l:ZR,((qw_ k R).map (λh=>zQ (ptQ l h k))).length<=330:=λl=>by rw [List.length_map];exact lG
  -- each low with each high
 refine ⟨λi ρ M4=>M4=M3/\∃o5:Ent,ρ=[.sh (.lst (R.map zQ)),.sh (.int k),.sh (.lst ((qz_ k R).map zQ)),.sh (.lst ((qw_ k R).map zQ)),.ow ((qd3_ k R++qct_ k ((qz_ k R).take i) (qw_ k R)).map zQ),o5],⟨rfl,.un,?_⟩,?_,?_⟩
 ·have:qct_ k ((qz_ k R).take 0) (qw_ k R)=[]:=by simp [qct_]
  rw [this,List.append_nil];rfl
 ·rintro i d ρ M4 hd ⟨rfl,o5,rfl⟩
  obtain ⟨l,hl,rfl⟩:=qq_ hd
  have hl:(qz_ k R)[i]?=some l:=hl
  have hi:=(List.getElem?_eq_some_iff.mp hl).1
  have ol:=okL l (List.mem_of_getElem? hl)
  have lB:((qd3_ k R++qct_ k ((qz_ k R).take i) (qw_ k R)).map zQ).length<=330+330*330:=by
   rw [List.length_map,List.length_append,qe9_,List.length_take]
   exact Nat.add_le_add lE (Nat.mul_le_mul (by omega) lG)
  refine ⟨trivial,λj out ρ M5=>M5=M4/\out=((qw_ k R).take j).map (λh=>zQ (ptQ l h k))/\∃o,ρ=[o,.sh (zQ l),.sh (.int k)],⟨rfl,rfl,_,rfl⟩,?_,?_⟩
  ·rintro j d out ρ M5 hd ⟨rfl,rfl,o,rfl⟩
   obtain ⟨h,hh,rfl⟩:=qq_ hd
   have hj:=(List.getElem?_eq_some_iff.mp hh).1
   exact ⟨l,h,k,s,t,n,rfl,ol,okG h (List.mem_of_getElem? hh),hk,hs,ht,by omega,by rw [List.length_map,List.length_take];exact qi_ (by omega),rfl,q1_ (f:=λh=>zQ (ptQ l h k)) hh,.sh (zQ h),rfl⟩
  rintro out ρ M5 ⟨rfl,h1,o,rfl⟩
  have h1:out=((qw_ k R).take ((qw_ k R).map zQ).length).map (λh=>zQ (ptQ l h k)):=h1
  rw [tkG] at h1
  subst h1
  refine ⟨Nat.le_trans (Nat.add_le_add lB (l2 l)) (by rw [sizeLine_eq];decide),rfl,.sh (zQ l),?_⟩
  rw [qfo_ hl,<-List.append_assoc,List.map_append (l₁:=qd3_ k R++_),List.map_map]
  rfl
 rintro ρ M4 ⟨rfl,o5,rfl⟩
 have lo:=qjk_ (R:=R) (k:=k) lR (by decide)
 have lo':(qd3_ k R++qct_ k (qz_ k R) (qw_ k R)).length<=100000:=by unfold qi2_ at lo;omega
 exact ⟨qd3_ k R++qct_ k (qz_ k R) (qw_ k R),s,t,by rw [tkL],lo',hs,ht,ok2,by show 3<=sizeLine;decide,_,Sub.refl _,q⟩

structure RowW (s t D n:Nat) (z:ZR):Prop where
 s:z.1.length=s
 t:z.2.1.length=t
 a:∀q∈z.1,Wh D n q
 b:∀q∈z.2.1,Wh D n q
 c:Wh D n z.2.2
theorem RowW.ok {s t D n:Nat} {z:ZR} (h:RowW s t D n z) (d0:D≠0) (sD:Sm n (D:Int)):RowOk s t n z:=⟨h.s,h.t,λq hq=>(h.a q hq).smr d0 sD,λq hq=>(h.b q hq).smr d0 sD,h.c.smr d0 sD⟩
theorem RowW.sq {s t D n:Nat} {z:ZR} (h:RowW s t D n z) (d0:D≠0) (sD:Sm n (D:Int)):RowW s t (D*D) (2*n+1) z:=by
 have u:∀q,Wh D n q->Wh (D*D) (2*n+1) q:=λq hq=>(hq.up D d0 sD).mono (by omega)
 exact ⟨h.s,h.t,λq hq=>u q (h.a q hq),λq hq=>u q (h.b q hq),u _ h.c⟩
theorem qhu_ {D n:Nat} {q:Rat} (h:Wh D n q):Wh D n (-q):=by
 obtain ⟨a,rfl,sa⟩:=h
 exact ⟨-a,by rw [Rat.neg_divInt],sa.neg⟩
theorem qpl_ {D n:Nat} {q r x y:Rat} (hq:Wh D n q) (hr:Wh D n r) (hx:Wh D n x) (hy:Wh D n y):Wh (D*D) (2*n+1) (q*x+r*y):=((hq.mul hx).add (hr.mul hy)).mono (by omega)
theorem pt_w {s t D n k:Nat} {l h:ZR} (ol:RowW s t D n l) (oh:RowW s t D n h) (hk:k<t):RowW s t (D*D) (2*n+1) (ptQ l h k):=by
 have m1:=qhu_ (oh.b _ (q6_ (l:=h.2.1) (k:=k) (by rw [oh.t];exact hk)))
 have m2:=ol.b _ (q6_ (l:=l.2.1) (k:=k) (by rw [ol.t];exact hk))
 have mm:∀a b:List Rat,(∀x∈a,Wh D n x)->(∀x∈b,Wh D n x)->∀x∈mixQ (-(h.2.1.getD k 0)) a (l.2.1.getD k 0) b,Wh (D*D) (2*n+1) x:=by
  intro a b ha hb x hx
  obtain ⟨i,hi⟩:=List.mem_iff_getElem?.mp hx
  rw [mixQ,List.getElem?_zipWith] at hi
  cases e1:a[i]? with
  |none=>rw [e1] at hi;cases hi
  |some y=>
   cases e2:b[i]? with
   |none=>rw [e1,e2] at hi;cases hi
   |some z=>
    rw [e1,e2] at hi
    rw [<-Option.some.inj hi]
    exact qpl_ m1 m2 (ha y (List.mem_of_getElem? e1)) (hb z (List.mem_of_getElem? e2))
 refine ⟨?_,?_,mm _ _ ol.a oh.a,mm _ _ ol.b oh.b,qpl_ m1 m2 ol.c oh.c⟩
 ·show (mixQ _ _ _ _).length=s
  rw [mixQ,List.length_zipWith,ol.s,oh.s,Nat.min_self]
 ·show (mixQ _ _ _ _).length=t
  rw [mixQ,List.length_zipWith,ol.t,oh.t,Nat.min_self]
theorem quz_ {R:List ZR} {k s t D n:Nat} (d0:D≠0) (sD:Sm n (D:Int)) (ok:∀z∈R,RowW s t D n z) (hk:k<t):∀z∈qi2_ k R,RowW s t (D*D) (2*n+1) z:=by
 intro z hz
 rcases List.mem_append.mp hz with hz|hz
 ·exact (ok z (List.mem_filter.mp hz).1).sq d0 sD
 ·obtain ⟨l,hl,hz⟩:=List.mem_flatten.mp hz
  obtain ⟨x,hx,rfl⟩:=List.mem_map.mp hl
  obtain ⟨y,hy,rfl⟩:=List.mem_map.mp hz
  exact pt_w (ok x (List.mem_filter.mp hx).1) (ok y (List.mem_filter.mp hy).1) hk

/-! ### sums of products over common bottoms -/
theorem qic_ (D n:Nat):Wh D n 0:=⟨0,by rw [Rat.zero_divInt],by unfold Sm;exact Nat.pow_pos (by decide)⟩
theorem qmr_ {D E n m:Nat}:∀(qs rs:List Rat),(∀q∈qs,Wh D n q)->(∀r∈rs,Wh E m r)->Wh (D*E) (n+m+qs.length) (dot qs rs):=by
 intro qs
 induction qs with
 |nil=>intro rs _ _;exact qic_ _ _
 |cons q qs ih=>
  intro rs h k
  cases rs with
  |nil=>exact qic_ _ _
  |cons r rs=>
   rw [dot]
   have a:Wh (D*E) (n+m) (q*r):=(h q (.head _)).mul (k r (.head _))
   exact (a.mono (b:=n+m+qs.length) (by omega)).add (ih rs (λx hx=>h x (.tail _ hx)) λx hx=>k x (.tail _ hx))
structure WsOk (D E n m:Nat) (qs rs:List Rat):Prop where
 d0:D≠0
 e0:E≠0
 sD:Sm n (D:Int)
 sE:Sm m (E:Int)
 q:∀x∈qs,Wh D n x
 r:∀x∈rs,Wh E m x
 l:qs.length<=20
 b:n+m<=4300
theorem WsOk.de {D E n m:Nat} {qs rs:List Rat} (o:WsOk D E n m qs rs):D*E≠0/\Sm (n+m) ((D*E:Nat):Int):=⟨Nat.mul_ne_zero o.d0 o.e0,by rw [Int.natCast_mul];exact o.sD.mul o.sE⟩
theorem WsOk.wh {D E n m:Nat} {qs rs:List Rat} (o:WsOk D E n m qs rs):Wh (D*E) (n+m+20) (dot qs rs):=(qmr_ qs rs o.q o.r).mono (by have:=o.l;omega)
theorem WsOk.wi {D E n m:Nat} {qs rs:List Rat} (o:WsOk D E n m qs rs) (i:Nat):SmR (n+m+20) (dot (qs.take i) (rs.take i)):=by
 obtain ⟨h1,h2⟩:=o.de
 exact ((qmr_ (qs.take i) (rs.take i) (λx hx=>o.q x (List.mem_of_mem_take hx)) λx hx=>o.r x (List.mem_of_mem_take hx)).mono (by have:=o.l;rw [List.length_take];omega)).smr h1 (h2.mono (by omega))
def gWS:List D->(D->Prop)->Prop:=λds P=>∃(qs rs:List Rat) (D E n m:Nat),ds=[frL qs,frL rs]/\WsOk D E n m qs rs/\P (frD (dot qs rs))
abbrev qb5_:Stmt:=top 18
theorem sc_weighed_sum:FnScope ["factors","told","total","factor","q"] ["factors","told"] (qe_ qb5_):=⟨rfl,rfl,rfl,by decide+kernel,rfl,by decide+kernel,by decide+kernel⟩
theorem h_weighed_sum (B:Bl mg) (F:Def K mg "weighed_sum" qb5_ ["factors","told"]) (F_plus:Has P w K mg base CX0 3 "plus" ["q","r"] (spW K (pur (gOp λq r=>q+r)))) (F_times:Has P w K mg base CX0 3 "times" ["q","r"] (spW K (pur (gOp λq r=>q*r)))) (C_ZERO:Zero4 K mg):Has P w K mg base CX0 4 "weighed_sum" ["factors","told"] (spW K (pur gWS)):=by
 refine F.hasP sc_weighed_sum (λds P h=>by obtain ⟨a,b,_,_,_,_,rfl,_⟩:=h;rfl) λf cdv A outer s H E hr=>?_
 have nd:=sc_weighed_sum.nd
 refine ⟨_,(qc_ (qp_ (i:=2) nd rfl (Or.inl rfl) (qbr_ C_ZERO rfl))
  (qc_ (qbm_ PassesOwn.never rfl (qgp_ rfl B.zip (qa_ (jv 0) (qa_ (jv 1) qb_))) (qba_ (n:=2) rfl (qj_ (qg_ (i:=3) nd rfl (Or.inl rfl)) (qj_ (qg_ (i:=4) nd rfl (Or.inl rfl)) qy_)))
  (qf_ (qp_ (i:=2) nd rfl (Or.inl rfl) (j_h F_plus (hr.mono (by decide)) rfl (qa_ (jv 2) (qa_ (j_h F_times (hr.mono (by decide)) rfl (qa_ (jv 3) (qa_ (jv 4) qb_))) qb_))))))
  (qf_ (qn_ (jv 2))))),?_⟩
 rintro ds M Q ⟨qs,rs,D,E,n,m,rfl,o,q⟩
 have ob:=o.b
 obtain ⟨h1,h2⟩:=o.de
 refine ⟨λi ρ M'=>M'=M/\∃o3 o4,ρ=[.sh (frL qs),.sh (frL rs),.sh (frD (dot (qs.take i) (rs.take i))),o3,o4],⟨rfl,_,_,rfl⟩,?_,?_⟩
 ·rintro i d ρ M' hd ⟨rfl,o3,o4,rfl⟩
  obtain ⟨a,b,ha,hb,rfl⟩:=qkx_ hd
  have wa:=o.q _ (List.mem_of_getElem? ha)
  have wb:=o.r _ (List.mem_of_getElem? hb)
  refine ⟨rfl,a,b,rfl,Mx.of (wa.smr o.d0 o.sD) (wb.smr o.e0 o.sE) (by omega),_,_,rfl,Mx.of (o.wi i) ((wa.mul wb).smr h1 h2) (by omega),rfl,.sh (frD a),.sh (frD b),?_⟩
  rw [qjf_ ha hb];rfl
 ·rintro ρ M' ⟨rfl,o3,o4,rfl⟩
  refine ⟨_,Sub.refl _,?_⟩
  have e:(zipD (qs.map frD) (rs.map frD)).length=min qs.length rs.length:=by rw [qcf_,List.length_map,List.length_map]
  rw [e,qib_]
  exact q
def qk_ (z:ZR) (M C:List Rat):Rat:=dot z.1 M+dot z.2.1 C+z.2.2
structure DwOk (D E n m:Nat) (z:ZR) (M C:List Rat):Prop where
 a:WsOk D E n m z.1 M
 b:WsOk D E n m z.2.1 C
 c:Wh D n z.2.2
theorem DwOk.wh {D E n m:Nat} {z:ZR} {M C:List Rat} (o:DwOk D E n m z M C):Wh (D*E) (n+m+22) (qk_ z M C):=by
 have h:=(o.a.wh.add o.b.wh)
 have c:=(o.c.up E o.a.e0 o.a.sE).mono (b:=n+m+21) (by omega)
 exact (h.add c)
theorem DwOk.s {D E n m:Nat} {z:ZR} {M C:List Rat} (o:DwOk D E n m z M C):SmR (n+m+22) (qk_ z M C):=o.wh.smr o.a.de.1 (o.a.de.2.mono (by omega))
def gDW:List D->(D->Prop)->Prop:=λds P=>∃(z:ZR) (M C:List Rat) (D E n m:Nat),ds=[zQ z,frL M,frL C]/\DwOk D E n m z M C/\P (frD (qk_ z M C))
abbrev qbx_:Stmt:=top 19
theorem sc_demand_worth:FnScope ["demand","made","choice","both"] ["demand","made","choice"] (qe_ qbx_):=⟨rfl,rfl,rfl,by decide+kernel,rfl,by decide+kernel,by decide+kernel⟩
theorem h_demand_worth (B:Bl mg) (F:Def K mg "demand_worth" qbx_ ["demand","made","choice"]) (F_plus:qn2_ P w K mg base) (F_weighed_sum:Has P w K mg base CX0 4 "weighed_sum" ["factors","told"] (spW K (pur gWS))):Has P w K mg base CX0 5 "demand_worth" ["demand","made","choice"] (spW K (pur gDW)):=by
 refine F.hasP sc_demand_worth (λds P h=>by obtain ⟨_,_,_,_,_,_,_,rfl,_⟩:=h;rfl) λf cdv A outer s H E hr=>?_
 have nd:=sc_demand_worth.nd
 refine ⟨_,(qc_ (qp_ (i:=3) nd rfl (Or.inl rfl) (j_h F_plus (hr.mono (by decide)) rfl (qa_ (j_h F_weighed_sum (hr.mono (by decide)) rfl (qa_ (qh_ 0 qd_) (qa_ (jv 1) qb_))) (qa_ (j_h F_weighed_sum (hr.mono (by decide)) rfl (qa_ (qh_ 0 qd_) (qa_ (jv 2) qb_))) qb_))))
  (qf_ (qn_ (j_h F_plus (hr.mono (by decide)) rfl (qa_ (jv 3) (qa_ (qh_ 0 qd_) qb_)))))),?_⟩
 rintro ds M0 Q ⟨z,M,C,D,E,n,m,rfl,o,q⟩
 have ob:=o.a.b
 obtain ⟨h1,h2⟩:=o.a.de
 have sa:=o.a.wh.smr h1 (h2.mono (by omega))
 have sb:=o.b.wh.smr h1 (h2.mono (by omega))
 have sab:=(o.a.wh.add o.b.wh).smr h1 (h2.mono (by omega))
 refine ⟨z.1,M,D,E,n,m,rfl,o.a,z.2.1,C,D,E,n,m,rfl,o.b,_,_,rfl,Mx.of sa sb (by omega),?_⟩
 exact ⟨_,_,rfl,Mx.of sab (o.c.smr o.a.d0 o.a.sD) (by omega),_,Sub.refl _,q⟩
def qsf_:List D->(D->Prop)->Prop:=λds P=>∃q r:Rat,ds=[frD q,frD r]/\r≠0/\Mx q r/\P (frD (q / r))
abbrev qji_:Stmt:=top 12
theorem sc_over:FnScope ["q","r"] ["q","r"] (qe_ qji_):=⟨rfl,rfl,rfl,by decide+kernel,rfl,by decide+kernel,by decide+kernel⟩
theorem h_over (B:Bl mg) (F:Def K mg "over" qji_ ["q","r"]) (F_fraction:qp1_ P w K mg base):Has P w K mg base CX0 3 "over" ["q","r"] (spW K (pur qsf_)):=by
 refine F.hasP sc_over (λds P h=>by obtain ⟨a,b,rfl,_⟩:=h;rfl) λf cdv A outer s H E hr=>?_
 have nd:=sc_over.nd
 refine ⟨_,(qf_ (qn_ (j_h F_fraction (hr.mono (by decide)) rfl (qa_ (qbq_ (qh_ 0 qd_) (qh_ 1 qd_)) (qa_ (qbq_ (qh_ 0 qd_) (qh_ 1 qd_)) qb_))))),?_⟩
 rintro ds M Q ⟨q,r,rfl,r0,m,k⟩
 have hb:(q.den:Int)*r.num≠0:=Int.mul_ne_zero (qid_ q) (λe=>r0 (Rat.num_eq_zero.mp e))
 obtain ⟨n1,n2,l,a,b⟩:=m
 exact ⟨.inr ⟨n1,n2,by omega,a.1,b.2⟩,.inr ⟨n1,n2,by omega,a.2,b.1⟩,_,_,rfl,hb,(a.2.mul b.1).mono (by omega),_,Sub.refl _,by rw [qvt_ q r (λe=>r0 (Rat.num_eq_zero.mp e))];exact k⟩
structure LLOk (D E n m k:Nat) (z:ZR) (M C:List Rat):Prop where
 w:DwOk D E n m z M C
 kl:k<z.2.1.length
 b:bAt k z≠0
def llQ (k:Nat) (M C:List Rat) (z:ZR):Rat:= -(qk_ z M C) / bAt k z
def gLL:List D->(D->Prop)->Prop:=λds P=>∃(z:ZR) (k:Nat) (M C:List Rat) (D E n m:Nat),ds=[zQ z,.int k,frL M,frL C]/\LLOk D E n m k z M C/\P (frD (llQ k M C z))
abbrev qc0_:Stmt:=top 32
theorem sc_least_let:FnScope ["low","k","made","others"] ["low","k","made","others"] (qe_ qc0_):=⟨rfl,rfl,rfl,by decide+kernel,rfl,by decide+kernel,by decide+kernel⟩
theorem h_least_let (B:Bl mg) (F:Def K mg "least_let" qc0_ ["low","k","made","others"]) (F_over:Has P w K mg base CX0 3 "over" ["q","r"] (spW K (pur qsf_))) (F_opposite:Has P w K mg base CX0 1 "opposite" ["q"] (spW K (pur gOpp))) (F_demand_worth:Has P w K mg base CX0 5 "demand_worth" ["demand","made","choice"] (spW K (pur gDW))):Has P w K mg base CX0 6 "least_let" ["low","k","made","others"] (spW K (pur gLL)):=by
 refine F.hasP sc_least_let (λds P h=>by obtain ⟨_,_,_,_,_,_,_,_,rfl,_⟩:=h;rfl) λf cdv A outer s H E hr=>?_
 have nd:=sc_least_let.nd
 refine ⟨_,(qf_ (qn_ (j_h F_over (hr.mono (by decide)) rfl (qa_ (j_h F_opposite (hr.mono (by decide)) rfl (qa_ (j_h F_demand_worth (hr.mono (by decide)) rfl (qa_ (jv 0) (qa_ (jv 2) (qa_ (jv 3) qb_)))) qb_)) (qa_ (j_at (qh_ 0 qd_) (jv 1)) qb_))))),?_⟩
 rintro ds M0 Q ⟨z,k,M,C,D,E,n,m,rfl,o,q⟩
 have ob:=o.w.a.b
 have sb:SmR n (bAt k z):=(o.w.b.q _ (q6_ o.kl)).smr o.w.a.d0 o.w.a.sD
 refine ⟨z,M,C,D,E,n,m,rfl,o.w,_,rfl,RIx.frl o.kl ?_⟩
 exact ⟨_,_,rfl,o.b,Mx.of (qhd_ o.w.s) sb (by omega),_,Sub.refl _,q⟩
def grQ (q:Rat) (qs:List Rat):Rat:=qs.foldl (λg q=>if g<q then q else g) q
def gGr:List D->(D->Prop)->Prop:=λds P=>∃(q:Rat) (qs:List Rat) (n:Nat),ds=[frL (q::qs)]/\(∀x∈q::qs,SmR n x)/\n<=4400/\P (frD (grQ q (q::qs)))
theorem qpc_ (n:Nat):∀(qs:List Rat) (q:Rat),SmR n q->(∀x∈qs,SmR n x)->SmR n (grQ q qs)
 |[],q,h,_=>h
 |x::qs,q,h,k=>by
  unfold grQ
  rw [List.foldl_cons]
  refine qpc_ n qs _ ?_ λy hy=>k y (.tail _ hy)
  split
  ·exact k x (.head _)
  ·exact h
abbrev qb6_:Stmt:=top 33
theorem sc_greatest_of:FnScope ["fractions","greatest","q"] ["fractions"] (qe_ qb6_):=⟨rfl,rfl,rfl,by decide+kernel,rfl,by decide+kernel,by decide+kernel⟩
theorem h_greatest_of (B:Bl mg) (F:Def K mg "greatest_of" qb6_ ["fractions"]) (F_below:qe3_ P w K mg base):Has P w K mg base CX0 2 "greatest_of" ["fractions"] (spW K (pur gGr)):=by
 refine F.hasP sc_greatest_of (λds P h=>by obtain ⟨_,_,_,rfl,_⟩:=h;rfl) λf cdv A outer s H E hr=>?_
 have nd:=sc_greatest_of.nd
 refine ⟨_,(qc_ (qp_ (i:=1) nd rfl (Or.inl rfl) (qh_ 0 qd_))
  (qc_ (qbm_ PassesOwn.never rfl (qr_ (jv 0)) (qg_ (i:=2) nd rfl (Or.inl rfl))
  (qf_ (qcd_ (jt (j_h F_below (hr.mono (by decide)) rfl (qa_ (jv 1) (qa_ (jv 2) qb_)))) (qf_ (qp_ (i:=1) nd rfl (Or.inl rfl) (jv 2))) qx_)))
  (qf_ (qn_ (jv 1))))),?_⟩
 rintro ds M Q ⟨q,qs,n,rfl,sq,hn,k⟩
 refine RIx.get (k:=0) (d:=frD q) rfl ?_
 refine ⟨λi ρ M'=>M'=M/\∃o2,ρ=[.sh (frL (q::qs)),.sh (frD (grQ q ((q::qs).take i))),o2],⟨rfl,_,rfl⟩,?_,?_⟩
 ·rintro i d ρ M' hd ⟨rfl,o2,rfl⟩
  obtain ⟨x,hx,rfl⟩:=qq_ hd
  have sx:=sq x (List.mem_of_getElem? hx)
  have sg:=qpc_ n ((q::qs).take i) q (sq q (.head _)) λy hy=>sq y (List.mem_of_mem_take hy)
  have e:grQ q ((q::qs).take (i+1))=if grQ q ((q::qs).take i)<x then x else grQ q ((q::qs).take i):=qdu_ hx
  refine ⟨_,x,rfl,Mx.of sg sx (by omega),?_⟩
  refine iteB (λc=>?_) (λc=>?_)
  ·refine ⟨rfl,.sh (frD x),?_⟩
   rw [e,if_pos (by simpa using c)];rfl
  ·refine ⟨rfl,.sh (frD x),?_⟩
   rw [e,if_neg (by simpa using c)];rfl
 ·rintro ρ M' ⟨rfl,o2,rfl⟩
  rw [List.length_map,List.take_length]
  exact ⟨_,Sub.refl _,k⟩

theorem qta_:∀(qs:List Rat) (q:Rat),grQ q qs=q\/grQ q qs∈qs
 |[],q=> .inl rfl
 |x::qs,q=>by
  unfold grQ
  rw [List.foldl_cons]
  rcases qta_ qs (if q<x then x else q) with h|h
  ·unfold grQ at h
   rw [h]
   split
   ·exact .inr (.head _)
   ·exact .inl rfl
  ·exact .inr (.tail _ h)
def qik_:List Rat->Rat
 |[]=>0
 |q::qs=>grQ q (q::qs)
theorem qin_ {l:List Rat} (h:l≠[]):qik_ l∈l:=by
 cases l with
 |nil=>exact (h rfl).elim
 |cons q qs=>
  rcases qta_ (q::qs) q with e|e
  ·show grQ q (q::qs)∈_
   rw [e];exact .head _
  ·exact e
theorem qol_ {R:List ZR} {y:ZR} (h:y∈R) (i:idle y=false):y∈onQ R:=by
 unfold onQ
 have keep:∀(R acc:List ZR),y∈acc->y∈R.foldl onR acc:=by
  intro R
  induction R with
  |nil=>intro acc h;exact h
  |cons z R ih=>
   intro acc h
   rw [List.foldl_cons]
   refine ih _ ?_
   unfold onR
   split
   ·exact h
   ·split
    ·exact h
    ·exact List.mem_append_left _ h
 have go:∀(R acc:List ZR),y∈R->y∈R.foldl onR acc:=by
  intro R
  induction R with
  |nil=>intro acc h;cases h
  |cons z R ih=>
   intro acc h
   rw [List.foldl_cons]
   rcases List.mem_cons.mp h with rfl|h
   ·refine keep R _ ?_
    unfold onR
    rw [i,if_neg Bool.false_ne_true]
    split
    ·assumption
    ·exact List.mem_append_right _ (.head _)
   ·exact ih _ h
 exact go R [] h
theorem qmq_ {n k j:Nat} {q:Rat} (h:k<n):(qbe_ n k q).getD j 0=if j=k then q else 0:=by
 unfold qbe_
 rw [List.getD_eq_getElem?_getD,List.getElem?_set]
 by_cases e:k=j
 ·subst e
  rw [if_pos rfl,if_pos rfl,List.length_replicate,if_pos h];rfl
 ·rw [if_neg e,if_neg (λz=>e z.symm),List.getElem?_replicate]
  split<;>rfl
theorem qs2_ {D E n m k:Nat} {z:ZR} {M C:List Rat} (o:LLOk D E n m k z M C):∃B:Nat,B≠0/\Sm n (B:Int)/\Wh (E*B) (n+m+22) (llQ k M C z):=by
 obtain ⟨K,hK,sK⟩:=o.w.wh
 obtain ⟨b,hb,sb⟩:=o.w.b.q _ (q6_ o.kl)
 have hb:bAt k z=Rat.divInt b D:=hb
 have d0:(D:Int)≠0:=by have:=o.w.a.d0;omega
 have e0:(E:Int)≠0:=by have:=o.w.a.e0;omega
 have b0:b≠0:=λe=>o.b (by rw [hb,e,Rat.zero_divInt])
 refine ⟨b.natAbs,by omega,by unfold Sm at sb ⊢;omega,?_⟩
 refine ⟨-(K*b.sign),?_,?_⟩
 ·have c1:(D:Rat)≠0:=by have:=o.w.a.d0;exact_mod_cast this
  have c2:(E:Rat)≠0:=by have:=o.w.a.e0;exact_mod_cast this
  have c3:(b:Rat)≠0:=by exact_mod_cast b0
  show -(qk_ z M C) / bAt k z=_
  rw [hK,hb,Rat.divInt_eq_div,Rat.divInt_eq_div,Rat.divInt_eq_div]
  rcases Int.lt_or_lt_of_ne b0 with h|h
  ·have e1:b.sign= -1:=Int.sign_eq_neg_one_of_neg h
   have e2:((E*b.natAbs:Nat):Int)=(E:Int)*(-b):=by rw [Int.natCast_mul];congr 1;omega
   rw [e1,e2]
   simp only [Int.natCast_mul,Rat.intCast_mul,Rat.intCast_neg,Rat.intCast_natCast] at*
   grind
  ·have e1:b.sign=1:=Int.sign_eq_one_of_pos h
   have e2:((E*b.natAbs:Nat):Int)=(E:Int)*b:=by rw [Int.natCast_mul];congr 1;omega
   rw [e1,e2]
   simp only [Int.natCast_mul,Rat.intCast_mul,Rat.intCast_neg,Rat.intCast_natCast] at*
   grind
 ·unfold Sm at sK ⊢
  rw [Int.natAbs_neg,Int.natAbs_mul,Int.natAbs_sign_of_ne_zero b0,Nat.mul_one]
  exact sK


theorem qi3_ (q r:Rat):∀(a b x:List Rat),a.length=b.length->dot (mixQ q a r b) x=q*dot a x+r*dot b x
 |[],[],x,_=>by simp [mixQ,dot];grind
 |[],_::_,_,h=>by simp at h
 |_::_,[],_,h=>by simp at h
 |u::a,v::b,[],_=>by simp [mixQ,dot];grind
 |u::a,v::b,y::x,h=>by
  have ih:=qi3_ q r a b x (by simpa using h)
  unfold mixQ at ih ⊢
  rw [List.zipWith_cons_cons,dot,dot,dot,ih]
  grind
theorem qdi_:∀(b x:List Rat),(∀j,b.getD j 0=0)->dot b x=0
 |[],x,_=>by simp [dot]
 |v::b,[],_=>by simp [dot]
 |v::b,y::x,h=>by
  have h0:=h 0
  have ih:=qdi_ b x λj=>by have:=h (j+1);rwa [List.getD_cons_succ] at this
  rw [List.getD_cons_zero] at h0
  rw [dot,ih,h0]
  grind
def q2_ (R:List ZR) (M x:List Rat):Prop:=∀z∈R,0<=qk_ z M x
theorem qj1_ {l h:ZR} {k:Nat} {M x:List Rat} (e1:l.1.length=h.1.length) (e2:l.2.1.length=h.2.1.length):qk_ (ptQ l h k) M x= -(bAt k h)*qk_ l M x+bAt k l*qk_ h M x:=by
 unfold qk_ ptQ bAt
 show dot (mixQ _ _ _ _) M+dot (mixQ _ _ _ _) x+_=_
 rw [qi3_ _ _ _ _ _ e1,qi3_ _ _ _ _ _ e2]
 grind
theorem qkp_ {z:ZR} {M x:List Rat} (h:idle z=true):0<=qk_ z M x:=by
 unfold idle at h
 rw [Bool.and_eq_true,List.all_eq_true] at h
 obtain ⟨h1,h2⟩:=h
 have g:∀(l:List Rat),(∀q∈l,q=0)->∀j,l.getD j 0=0:=λl hl j=>by
  rw [List.getD_eq_getElem?_getD]
  cases e:l[j]? with
  |none=>rfl
  |some v=>exact hl v (List.mem_of_getElem? e)
 unfold qk_
 rw [qdi_ z.1 M (g _ λq hq=>by simpa using h1 q (List.mem_append_left _ hq)),qdi_ z.2.1 x (g _ λq hq=>by simpa using h1 q (List.mem_append_right _ hq))]
 have:¬z.2.2<0:=by simpa using h2
 grind
theorem solves_on {R:List ZR} {M x:List Rat}:q2_ (onQ R) M x↔q2_ R M x:=by
 constructor
 ·intro h z hz
  by_cases c:idle z=true
  ·exact qkp_ c
  ·exact h z (qol_ hz (by simpa using c))
 ·exact λh z hz=>h z (qh6_ hz)
theorem qtq_:∀(qs:List Rat) (q:Rat),q<=grQ q qs/\∀x∈qs,x<=grQ q qs
 |[],q=>⟨Rat.le_refl,λx hx=>by cases hx⟩
 |x::qs,q=>by
  have ⟨h1,h2⟩:=qtq_ qs (if q<x then x else q)
  unfold grQ at h1 h2 ⊢
  rw [List.foldl_cons]
  refine ⟨?_,λy hy=>?_⟩
  ·split at h1<;>grind
  ·rcases List.mem_cons.mp hy with rfl|hy
   ·split at h1<;>grind
   ·exact h2 y hy
theorem qrg_ {l:List Rat} {x:Rat} (h:x∈l):x<=qik_ l:=by
 cases l with
 |nil=>cases h
 |cons q qs=>exact (qtq_ (q::qs) q).2 x h
theorem qt2_ {a b:Rat} (ha:0<a) (h:0<=a*b):0<=b:=by
 rcases (show b<0\/0<=b by grind) with c|c
 ·have:=Rat.mul_pos ha (show 0< -b by grind)
  grind
 ·exact c
theorem qtw_ {z:ZR} {k:Nat} {M p:List Rat} {y:Rat} (b:0<bAt k z):llQ k M p z<=y↔0<=qk_ z M p+bAt k z*y:=by
 unfold llQ
 have e:bAt k z*(-(qk_ z M p) / bAt k z)= -(qk_ z M p):=by rw [Rat.mul_comm];exact Rat.div_mul_cancel (by grind)
 generalize -(qk_ z M p) / bAt k z=q at*
 have e2:qk_ z M p+bAt k z*y=bAt k z*(y - q):=by grind
 rw [e2]
 constructor
 ·intro h;exact Rat.mul_nonneg (by grind) (by grind)
 ·intro h;have:=qt2_ b h;grind

/-! ### a walk over reversed(x) -/
def Itv (K:PySem.W.Frag) (a:Addr) (n:Nat):It:=⟨λi H=>i<n/\∃xs,SqL K H a xs/\xs.length=n,λi H x H'=>H'=H/\∀xs,SqL K H a xs->xs[n - 1 - i]?=some x,λi _=>n<=i⟩
theorem qoy_ {P:Program} {w:World} {K:PySem.W.Frag} {tg:Expr} (a it:Addr) (n:Nat):Turn P w K tg (Itv K a n) [it] it (λi h=>i<=n/\h.IsRevIter it a ((n:Int) - 1 - (i:Nat))) where
 mem:=by simp
 obj:=λi h st b hb=>by
  have e:b=it:=by simpa using hb
  subst e
  obtain ⟨_,o,e,c,d⟩:=st
  exact ⟨o,e,λv z=>by rw [d] at z;cases z⟩
 keep:=λi h h' st k=>by
  obtain ⟨hi,o,e,cd⟩:=st
  exact ⟨hi,o,k it (by simp) o e,cd⟩
 item:=by
  intro X hP hw hK hc i pins s σ H E I hf st hg
  subst hP hw hK
  obtain ⟨hi,xs,hq,hx⟩:=hg
  obtain ⟨_,st⟩:=st
  obtain ⟨its,rv,p,hz⟩:=I.list hq
  have hl:=rv.length
  have hj:n - 1 - i<xs.length:=by omega
  obtain ⟨u,hu,ru⟩:=rv.get (List.getElem?_eq_getElem hj)
  obtain ⟨f0,f1,f2,f3,f4,f5⟩:=hf it (by simp)
  have e1:(n:Int) - 1 - (i:Nat)=((n - 1 - i:Nat):Int):=by omega
  rw [e1] at st
  refine wpAny_pyNext_rev_item st p.isList (x:=u) (by simpa using hu) λh' st' sb=>?_
  have I1:Inv X pins σ H {s with heap:=h'}:=I.turned (t':=s.toks) (λb o hb e=>(sb.2 b hb).trans e) f0 f1 f3 f4 f5
  obtain ⟨o,e,c,d⟩:=id st'
  refine ⟨u,rfl,qnq_ (s:={s with heap:=h'}) e c d (by decide) ⟨_,H,I1,ru,⟨rfl,λys hy=>by rw [I.list_inj hy hq];exact List.getElem?_eq_getElem hj⟩,⟨by omega,?_⟩,λb hb=>(hf b hb).1⟩⟩
  have e2:(n:Int) - 1 - ((i+1:Nat):Int)=((n - 1 - i:Nat):Int) - 1:=by omega
  rw [e2]
  exact st'
 done:=by
  intro X hP hw hK hc i pins s σ H E I hf st hg
  subst hP hw hK
  obtain ⟨hi,st⟩:=st
  have hg:n<=i:=hg
  have e1:(n:Int) - 1 - (i:Nat)= -1:=by omega
  rw [e1] at st
  obtain ⟨f0,f1,f2,f3,f4,f5⟩:=hf it (by simp)
  exact wpAny_pyNext_rev_end (I.ok.hd hc) st λh' eb=>⟨rfl,I.turned (t':=s.toks) (λb o hb e=>eb b o hb e) f0 f1 f3 f4 f5⟩
 self:=λ_ _ _ _ _ st h=>wpAny_pyIter_revIter st.2 h
section
variable {X:Cx} {a tg:Expr} {ta:TA} {fl:WA} {p pos:Pos}
def iRev (K:PySem.W.Frag) (ta:TA):TI:=λσ H R=>ta σ H λvs H1=>∃l xs,vs=[.ref l]/\SqL K H1 l xs/\R (Itv K l xs.length) H1
theorem qtn_ (hg:Gl X "reversed") (hm:X.mg "reversed"=none) (ha:PA X [a] ta) (hs:starEach [a] X.env=[(false,eval a X.env)]:=by rfl):PI X tg (.Call (.Name "reversed" p) [a] [] pos) (iRev X.K ta):=by
 intro pins s σ H R I h
 refine Call_ (qde_ I hg hm L3.boot_reversed (PyProof.Rows.callWith_type1 (thn (ha pos pins s σ H _ I h) λus s1 ⟨vs,H1,I1,r1,q1⟩=>?_) hs rfl))
 obtain ⟨l,xs,rfl,hq,q⟩:=q1
 obtain ⟨u,rfl,ru⟩:=r1.one
 cases ru
 obtain ⟨its,rv,pl,hz2⟩:=I1.list hq
 have ll:=rv.length
 refine call_reversed_list pl.isList ?_
 have i0:(s1.heap.push (revObj l ((its.toArray.size:Int) - 1))).IsRevIter s1.heap.objs.size l ((xs.length:Int) - 1 - ((0:Nat):Int)):=⟨_,Heap.get?_push_size _ rfl,rfl,by simp [revObj,ll]⟩
 refine wpAny_pyIter_revIter (s:={s1 with heap:=s1.heap.push (revObj l ((its.toArray.size:Int) - 1))}) i0 ?_
 refine ⟨s1.heap.objs.size,[s1.heap.objs.size],_,_,H1,rfl,I1.kept (t':=s1.toks) λb o e=>Heap.get?_push_of_some _ e,qoy_ l _ xs.length,⟨Nat.zero_le _,i0⟩,λb hb=>?_,q⟩
 have e:b=s1.heap.objs.size:=by simpa using hb
 subst e
 exact I1.fpOk (Nat.le_refl _) (I1.hok.fresh (Nat.le_refl _))
def qwn_ (f:WA):WI:=λρ M P=>f ρ M λds ρ1 M1=>match ds with
 |[.lst xs]=>P xs.reverse ρ1 M1
 |_=>False
theorem qte_ (hg:Gl X "reversed") (hm:X.mg "reversed"=none) (ha:JA X [a] fl) (hs:starEach [a] X.env=[(false,eval a X.env)]:=by rfl):JI X tg (.Call (.Name "reversed" p) [a] [] pos) (qwn_ fl):=
 ⟨imI (qtn_ hg hm ha.h hs) λσ H R hh=>ex5 hh λZ F ρ M P ag hf k=>⟨Z,F,ρ,M,_,ag,hf,λvs H1 F1 ds ρ1 M1 s1 ag1 r1 h1=>by
  split at h1
  ·rename_i ds
   obtain ⟨v,rfl,rv⟩:=rps1 r1
   rw [Rp] at rv
   obtain ⟨q,vs,rfl,g1,g2⟩:=rv
   have l:=g2.length
   refine ⟨q,vs,rfl,.inl (ql_ ag1.m.sm g1),k _ H1 F1 ds.reverse ρ1 M1 s1 ag1 ⟨λi F' H hi s s'=>?_,λF' H s s'=>?_,λi d F' H x H' hd s s' y=>?_⟩ h1⟩
   ·rw [List.length_reverse] at hi
    exact ⟨by omega,vs,.inl (ql_ s' (ql_ s g1)),rfl⟩
   ·show vs.length<=_
    rw [List.length_reverse];omega
   ·obtain ⟨rfl,y⟩:=y
    have hi:=(List.getElem?_eq_some_iff.mp hd).1
    rw [List.length_reverse] at hi
    rw [List.getElem?_reverse hi] at hd
    obtain ⟨w,h2,h3⟩:=g2.get hd
    have:=y vs (.inl (ql_ s' (ql_ s g1)))
    rw [l,this] at h2
    cases h2
    exact ⟨F',.rf,h3.same s⟩
  ·exact h1.elim⟩⟩
end

def endQ (q:Rat) (x:Rat×Rat):Rat:=if q<0 then x.2 else x.1
def gWE:List D->(D->Prop)->Prop:=λds P=>∃(q:Rat) (x:Rat×Rat),ds=[frD q,bQ x]/\SmR 8000 q/\P (frD (endQ q x))
abbrev qc6_:Stmt:=top 35
theorem sc_worst_end:FnScope ["q","pair"] ["q","pair"] (qe_ qc6_):=⟨rfl,rfl,rfl,by decide+kernel,rfl,by decide+kernel,by decide+kernel⟩
theorem h_worst_end (B:Bl mg) (F:Def K mg "worst_end" qc6_ ["q","pair"]) (F_below:qe3_ P w K mg base) (C_ZERO:Zero4 K mg):Has P w K mg base CX0 2 "worst_end" ["q","pair"] (spW K (pur gWE)):=by
 refine F.hasP sc_worst_end (λds P h=>by obtain ⟨_,_,rfl,_⟩:=h;rfl) λf cdv A outer s H E hr=>?_
 have nd:=sc_worst_end.nd
 refine ⟨_,(qf_ (qn_ (qvb_ (jt (j_h F_below (hr.mono (by decide)) rfl (qa_ (jv 0) (qa_ (qbr_ C_ZERO rfl) qb_)))) (qh_ 1 qd_) (qh_ 1 qd_)))),?_⟩
 rintro ds M Q ⟨q,x,rfl,sq,k⟩
 unfold endQ at k
 refine ⟨q,0,rfl,Mx.of sq sm0,?_⟩
 refine iteB (λc=>?_) (λc=>?_)
 ·rw [if_pos (of_decide_eq_true c)] at k
  exact ⟨_,Sub.refl _,k⟩
 ·rw [if_neg (of_decide_eq_false c)] at k
  exact ⟨_,Sub.refl _,k⟩

/-! ### turns taken out,and what rows then mean -/
abbrev Tn:=Bool×Nat
def tnQ (t:Tn):D:= .tup [.str (if t.1=true then "shim" else "size"),.int (t.2:Nat)]
def aAt (k:Nat) (z:ZR):Rat:=z.1.getD k 0
def spQ (k:Nat) (q:Rat) (z:ZR):ZR:=(z.1.set k 0,z.2.1,z.2.2+aAt k z*q)
def ownR (S T:List (Rat×Rat)) (k:Nat):List ZR:=[(List.replicate S.length 0,qbe_ T.length k 1, -(T.getD k (0,0)).1),(List.replicate S.length 0,qbe_ T.length k (-1),(T.getD k (0,0)).2)]
def szR (S:List (Rat×Rat)) (k:Nat) (R:List ZR):List ZR:=R.map λz=>spQ k (endQ (aAt k z) (S.getD k (0,0))) z
def qfq_ (S T:List (Rat×Rat)) (R:List ZR) (t:Tn):List ZR:=if t.1=true then outQ t.2 (R++ownR S T t.2) else onQ (szR S t.2 R)
def qbn_ (S T:List (Rat×Rat)) (Z:List ZR) (O:List Tn):List ZR:=O.foldr (λt R=>qfq_ S T R t) Z
theorem qf8_ (q:Rat):∀(k:Nat) (a x:List Rat),a.length=x.length->k<a.length->dot a (x.set k q)=dot (a.set k 0) x+a.getD k 0*q
 |_,[],_,_,h=>by simp at h
 |_,_::_,[],h,_=>by simp at h
 |0,u::a,y::x,_,_=>by
  simp only [List.set_cons_zero,dot,List.getD_cons_zero];grind
 |k+1,u::a,y::x,h,hk=>by
  have ih:=qf8_ q k a x (by simpa using h) (by simpa using hk)
  simp only [List.set_cons_succ,dot,List.getD_cons_succ]
  rw [ih];grind
theorem qg0_:∀(k:Nat) (x:List Rat),x.getD k 0=0->x.set k 0=x
 |_,[],_=>by simp
 |0,y::x,h=>by rw [List.getD_cons_zero] at h;rw [List.set_cons_zero,h]
 |k+1,y::x,h=>by rw [List.getD_cons_succ] at h;rw [List.set_cons_succ,qg0_ k x h]
def Sz (s t:Nat) (R:List ZR):Prop:=∀z∈R,z.1.length=s/\z.2.1.length=t
theorem qe6_ {z:ZR} {k:Nat} {q:Rat} {M C:List Rat} (h:z.1.length=M.length) (hk:k<z.1.length):qk_ (spQ k q z) M C=qk_ z (M.set k q) C:=by
 unfold qk_ spQ aAt
 rw [qf8_ q k z.1 M h hk]
 grind
theorem qg3_ {z:ZR} {k:Nat} {q:Rat} {M C:List Rat} (h:z.1.length=M.length) (hk:k<z.1.length):qk_ z (M.set k q) C=qk_ (spQ k 0 z) M C+aAt k z*q:=by
 rw [<-qe6_ h hk]
 unfold qk_ spQ
 grind
theorem qky_ {z:ZR} {k:Nat} {q:Rat} {M C:List Rat} (h:z.2.1.length=C.length) (hk:k<z.2.1.length) (h0:C.getD k 0=0):qk_ z M (C.set k q)=qk_ z M C+bAt k z*q:=by
 unfold qk_ bAt
 have e:=qf8_ 0 k z.2.1 C h hk
 rw [qg0_ k C h0] at e
 rw [qf8_ q k z.2.1 C h hk]
 grind
theorem qlr_ {S:List (Rat×Rat)} {R:List ZR} {k:Nat} {M C:List Rat} {lo hi:Rat} {s t:Nat} (hz:Sz s t R) (hM:M.length=s) (hk:k<s) (hS:S.getD k (0,0)=(lo,hi)) (le:lo<=hi):q2_ (onQ (szR S k R)) M C↔∀q,lo<=q->q<=hi->q2_ R (M.set k q) C:=by
 rw [solves_on]
 constructor
 ·intro h q h1 h2 z zR
  obtain ⟨l1,l2⟩:=hz z zR
  have w:=h _ (List.mem_map.mpr ⟨z,zR,rfl⟩)
  rw [qe6_ (by rw [l1,hM]) (by omega),hS,qg3_ (by rw [l1,hM]) (by omega)] at w
  rw [qg3_ (by rw [l1,hM]) (by omega)]
  unfold endQ at w
  split at w
  ·rename_i c
   have:=Rat.mul_nonneg (show 0<= -(aAt k z) by grind) (show 0<=hi - q by grind)
   grind
  ·rename_i c
   have:=Rat.mul_nonneg (show 0<=aAt k z by grind) (show 0<=q - lo by grind)
   grind
 ·intro h z hz'
  obtain ⟨z,zR,rfl⟩:=List.mem_map.mp hz'
  obtain ⟨l1,l2⟩:=hz z zR
  rw [qe6_ (by rw [l1,hM]) (by omega),hS]
  refine h _ ?_ ?_ z zR
  ·unfold endQ;split<;>grind
  ·unfold endQ;split<;>grind
theorem qjt_ {n k:Nat} {q:Rat} {C:List Rat} (hk:k<n) (hC:C.length=n):dot (qbe_ n k q) C=q*C.getD k 0:=by
 have e:=qf8_ (C.getD k 0) k (qbe_ n k q) (C.set k 0) (by simp [qbe_,hC]) (by simp [qbe_];exact hk)
 have z:dot ((qbe_ n k q).set k 0) (C.set k 0)=0:=by
  refine qdi_ _ _ λj=>?_
  unfold qbe_
  rw [List.set_set,List.getD_eq_getElem?_getD,List.getElem?_set]
  split
  ·split<;>rfl
  ·rw [List.getElem?_replicate];split<;>rfl
 rw [z,List.set_set] at e
 have c:C.set k (C.getD k 0)=C:=by
  refine List.ext_getElem? λj=>?_
  rw [List.getElem?_set]
  split
  ·rename_i h
   subst h
   rw [if_pos (by omega),List.getD_eq_getElem?_getD,List.getElem?_eq_getElem (by omega)];rfl
  ·rfl
 rw [c,qmq_ hk,if_pos rfl] at e
 grind
theorem qo6_ (S T:List (Rat×Rat)) (k:Nat):Sz S.length T.length (ownR S T k):=by
 intro z hz
 simp only [ownR,List.mem_cons,List.not_mem_nil,or_false] at hz
 rcases hz with rfl|rfl<;>exact ⟨List.length_replicate,by simp [qbe_]⟩
theorem qiw_ {S T:List (Rat×Rat)} {k:Nat} {M C:List Rat} (hk:k<T.length) (hC:C.length=T.length):q2_ (ownR S T k) M C↔(T.getD k (0,0)).1<=C.getD k 0/\C.getD k 0<=(T.getD k (0,0)).2:=by
 have z0:dot (List.replicate S.length (0:Rat)) M=0:=qdi_ _ _ λj=>by rw [List.getD_eq_getElem?_getD,List.getElem?_replicate];split<;>rfl
 unfold q2_ ownR
 simp only [List.mem_cons,List.not_mem_nil,or_false,forall_eq_or_imp,forall_eq,qk_]
 rw [z0,qjt_ hk hC,qjt_ hk hC]
 constructor
 ·rintro ⟨h1,h2⟩;exact ⟨by grind,by grind⟩
 ·rintro ⟨h1,h2⟩;exact ⟨by grind,by grind⟩
theorem qgu_ {C:List Rat} {k:Nat} {q:Rat} (h:k<C.length):(C.set k q).getD k 0=q:=by
 rw [List.getD_eq_getElem?_getD,List.getElem?_set,if_pos rfl,if_pos h];rfl
theorem qpw_ {R:List ZR} {k s t:Nat} {M C:List Rat} (hz:Sz s t R) (hC:C.length=t) (hk:k<t) (h0:C.getD k 0=0) (ne:qz_ k R≠[]):
  (q2_ (outQ k R) M C->q2_ R M (C.set k (qik_ ((qz_ k R).map (llQ k M C)))))/\∀q,q2_ R M (C.set k q)->q2_ (outQ k R) M C/\qik_ ((qz_ k R).map (llQ k M C))<=q:=by
 have ne':(qz_ k R).map (llQ k M C)≠[]:=λe=>ne (List.map_eq_nil_iff.mp e)
 have wb:∀z∈R,∀q,qk_ z M (C.set k q)=qk_ z M C+bAt k z*q:=λz zR q=>qky_ (by rw [(hz z zR).2,hC]) (by rw [(hz z zR).2];exact hk) h0
 constructor
 ·intro h z zR
  have h:=solves_on.mp h
  rw [wb z zR]
  rcases (show bAt k z<0\/bAt k z=0\/0<bAt k z by grind) with b|b|b
  ·obtain ⟨u,hu,eu⟩:=List.mem_map.mp (qin_ ne')
   rw [<-eu]
   obtain ⟨ur,ub⟩:=List.mem_filter.mp hu
   have ub:0<bAt k u:=by simpa using ub
   have hp:=h (ptQ u z k) (List.mem_append_right _ (List.mem_flatten.mpr ⟨_,List.mem_map.mpr ⟨u,hu,rfl⟩,List.mem_map.mpr ⟨z,List.mem_filter.mpr ⟨zR,by simpa using b⟩,rfl⟩⟩))
   rw [qj1_ (by rw [(hz u ur).1,(hz z zR).1]) (by rw [(hz u ur).2,(hz z zR).2])] at hp
   unfold llQ
   have e:bAt k u*(-(qk_ u M C) / bAt k u)= -(qk_ u M C):=by rw [Rat.mul_comm];exact Rat.div_mul_cancel (by grind)
   generalize -(qk_ u M C) / bAt k u=y at*
   have:0<=bAt k u*(qk_ z M C+bAt k z*y):=by
    have:bAt k u*(qk_ z M C+bAt k z*y)=bAt k u*qk_ z M C+bAt k z*(bAt k u*y):=by grind
    rw [this,e]
    grind
   exact qt2_ ub this
  ·rw [b]
   have:=h z (List.mem_append_left _ (List.mem_filter.mpr ⟨zR,by simpa using b⟩))
   grind
  ·exact (qtw_ b).mp (qrg_ (List.mem_map.mpr ⟨z,List.mem_filter.mpr ⟨zR,by simpa using b⟩,rfl⟩))
 ·intro q h
  refine ⟨solves_on.mpr λz hz'=>?_,?_⟩
  ·rcases List.mem_append.mp hz' with hz'|hz'
   ·obtain ⟨zr,zb⟩:=List.mem_filter.mp hz'
    have e:bAt k z=0:=by simpa using zb
    have:=h z zr
    rw [wb z zr,e] at this
    grind
   ·obtain ⟨l,hl,hz'⟩:=List.mem_flatten.mp hz'
    obtain ⟨u,hu,rfl⟩:=List.mem_map.mp hl
    obtain ⟨v,hv,rfl⟩:=List.mem_map.mp hz'
    obtain ⟨ur,ub⟩:=List.mem_filter.mp hu
    obtain ⟨vr,vb⟩:=List.mem_filter.mp hv
    have ub:0<bAt k u:=by simpa using ub
    have vb:bAt k v<0:=by simpa using vb
    have h1:=h u ur
    have h2:=h v vr
    rw [wb u ur] at h1
    rw [wb v vr] at h2
    rw [qj1_ (by rw [(hz u ur).1,(hz v vr).1]) (by rw [(hz u ur).2,(hz v vr).2])]
    have m1:0<= -(bAt k v)*(qk_ u M C+bAt k u*q):=Rat.mul_nonneg (by grind) h1
    have m2:0<=bAt k u*(qk_ v M C+bAt k v*q):=Rat.mul_nonneg (by grind) h2
    grind
  ·obtain ⟨u,hu,eu⟩:=List.mem_map.mp (qin_ ne')
   obtain ⟨ur,ub⟩:=List.mem_filter.mp hu
   rw [<-eu,qtw_ (by simpa using ub)]
   have:=h u ur
   rwa [wb u ur] at this
theorem qo2_ {s t:Nat} {A B:List ZR} (h:Sz s t A) (k:Sz s t B):Sz s t (A++B):=λz hz=>(List.mem_append.mp hz).elim (h z) (k z)
theorem qsd_ {s t k:Nat} {R:List ZR} (h:Sz s t R):Sz s t (outQ k R):=by
 intro z hz
 rcases List.mem_append.mp (qh6_ hz) with hz|hz
 ·exact h z (List.mem_filter.mp hz).1
 ·obtain ⟨l,hl,hz⟩:=List.mem_flatten.mp hz
  obtain ⟨u,hu,rfl⟩:=List.mem_map.mp hl
  obtain ⟨v,hv,rfl⟩:=List.mem_map.mp hz
  obtain ⟨u1,u2⟩:=h u (List.mem_filter.mp hu).1
  obtain ⟨v1,v2⟩:=h v (List.mem_filter.mp hv).1
  constructor
  ·show (mixQ _ _ _ _).length=s
   rw [mixQ,List.length_zipWith,u1,v1,Nat.min_self]
  ·show (mixQ _ _ _ _).length=t
   rw [mixQ,List.length_zipWith,u2,v2,Nat.min_self]
theorem qrd_ {S T:List (Rat×Rat)} {R:List ZR} (t:Tn) (h:Sz S.length T.length R):Sz S.length T.length (qfq_ S T R t):=by
 unfold qfq_
 split
 ·exact qsd_ (qo2_ h (qo6_ S T _))
 ·intro z hz
  obtain ⟨y,hy,rfl⟩:=List.mem_map.mp (qh6_ hz)
  obtain ⟨h1,h2⟩:=h y hy
  exact ⟨by simp [spQ,h1],h2⟩
theorem qlv_ {S T:List (Rat×Rat)} {Z:List ZR} (h:Sz S.length T.length Z):∀O,Sz S.length T.length (qbn_ S T Z O)
 |[]=>h
 |t::O=>qrd_ t (qlv_ h O)
theorem qim_ {S T:List (Rat×Rat)} {R:List ZR} {k:Nat} (hk:k<T.length):qz_ k (R++ownR S T k)≠[]:=by
 intro e
 have m:(List.replicate S.length 0,qbe_ T.length k 1, -(T.getD k (0,0)).1)∈qz_ k (R++ownR S T k):=by
  refine List.mem_filter.mpr ⟨List.mem_append_right _ (.head _),?_⟩
  have:bAt k (List.replicate S.length 0,qbe_ T.length k 1, -(T.getD k (0,0)).1)=1:=by
   unfold bAt
   rw [qmq_ hk,if_pos rfl]
  rw [this];decide+kernel
 rw [e] at m
 cases m
theorem solves_app {A B:List ZR} {M C:List Rat}:q2_ (A++B) M C↔q2_ A M C/\q2_ B M C:=
 ⟨λh=>⟨λz hz=>h z (List.mem_append_left _ hz),λz hz=>h z (List.mem_append_right _ hz)⟩,λ⟨h,k⟩ z hz=>(List.mem_append.mp hz).elim (h z) (k z)⟩
def qcv_ (S T:List (Rat×Rat)) (R:List ZR) (k:Nat) (M C:List Rat):Rat:=qik_ ((qz_ k (R++ownR S T k)).map (llQ k M C))
theorem qlx_ {S T:List (Rat×Rat)} {R:List ZR} {k:Nat} {M C:List Rat} {lo hi:Rat} (hz:Sz S.length T.length R) (hC:C.length=T.length) (hk:k<T.length) (h0:C.getD k 0=0) (hT:T.getD k (0,0)=(lo,hi)):
  (q2_ (outQ k (R++ownR S T k)) M C->q2_ (R++ownR S T k) M (C.set k (qcv_ S T R k M C))/\lo<=qcv_ S T R k M C/\qcv_ S T R k M C<=hi/\q2_ R M (C.set k (qcv_ S T R k M C)))/\∀q,lo<=q->q<=hi->q2_ R M (C.set k q)->q2_ (outQ k (R++ownR S T k)) M C:=by
 have o:=qpw_ (M:=M) (qo2_ hz (qo6_ S T k)) hC hk h0 (qim_ hk)
 constructor
 ·intro h
  have h1:=o.1 h
  obtain ⟨h2,h3⟩:=solves_app.mp h1
  have h4:=(qiw_ hk (by rw [List.length_set,hC])).mp h3
  rw [qgu_ (by omega),hT] at h4
  exact ⟨h1,h4.1,h4.2,h2⟩
 ·intro q h1 h2 h3
  refine (o.2 q (solves_app.mpr ⟨h3,(qiw_ hk (by rw [List.length_set,hC])).mpr ?_⟩)).1
  rw [qgu_ (by omega),hT]
  exact ⟨h1,h2⟩

/-! ### rows of an order -/
def botO:Nat->Nat
 |0=>6
 |i+1=>botO i*botO i*6
def bitO:Nat->Nat
 |0=>6
 |i+1=>2*bitO i+7
theorem qka_:∀i,botO i≠0/\Sm (bitO i) (botO i:Int)
 |0=>⟨by decide,by unfold Sm;decide⟩
 |i+1=>by
  obtain ⟨h1,h2⟩:=qka_ i
  refine ⟨Nat.mul_ne_zero (Nat.mul_ne_zero h1 h1) (by decide),?_⟩
  rw [botO,Int.natCast_mul,Int.natCast_mul]
  exact ((h2.mul h2).mul (show Sm 3 ((6:Nat):Int) by unfold Sm;decide)).mono (by rw [bitO];omega)
theorem Wh.st {D n:Nat} {q:Rat} (h:Wh D n q) (d0:D≠0) (sD:Sm n (D:Int)):Wh (D*D*6) (2*n+6) q:=((h.up D d0 sD).up 6 (m:=3) (by decide) (by unfold Sm;decide)).mono (by omega)
structure PlO (S T:List (Rat×Rat)) (Z:List ZR):Prop where
 s:S.length<=3
 t:T.length<=2
 z:Z.length<=12
 z2:T.length=2->Z.length<=4
 bs:∀x∈S,Wh 6 6 x.1/\Wh 6 6 x.2/\x.1<=x.2
 bt:∀x∈T,Wh 6 6 x.1/\Wh 6 6 x.2/\x.1<=x.2
 r:∀z∈Z,RowW S.length T.length 6 6 z
def shN (O:List Tn):Nat:=(O.filter λt=>t.1).length
structure OrdO (S T:List (Rat×Rat)) (O:List Tn):Prop where
 l:O.length<=5
 n:shN O<=T.length
 k:∀t∈O,t.2<if t.1=true then T.length else S.length
theorem OrdO.tl {S T:List (Rat×Rat)} {O:List Tn} {t:Tn} (h:OrdO S T (t::O)):OrdO S T O:=by
 refine ⟨by have:=h.l;rw [List.length_cons] at this;omega,Nat.le_trans ?_ h.n,λx hx=>h.k x (.tail _ hx)⟩
 unfold shN
 rw [List.filter_cons]
 split<;>simp
theorem OrdO.drop {S T:List (Rat×Rat)}:∀{O:List Tn} (i:Nat),OrdO S T O->OrdO S T (O.drop i)
 |[],i,h=>by simpa using h
 |_::_,0,h=>h
 |_::O,i+1,h=>by rw [List.drop_succ_cons];exact OrdO.drop i h.tl
def cntO (t:Nat):Nat->Nat
 |0=>if t=2 then 4 else 12
 |j+1=>(cntO t j+2)*(cntO t j+2) / 4
theorem qlw_ {t j:Nat} (h:j<=t) (ht:t<=2):cntO t j<=49/\(j<t->cntO t j<=12):=by
 have:t=0\/t=1\/t=2:=by omega
 rcases this with rfl|rfl|rfl
 ·have:j=0:=by omega
  subst this;decide
 ·have:j=0\/j=1:=by omega
  rcases this with rfl|rfl<;>decide
 ·have:j=0\/j=1\/j=2:=by omega
  rcases this with rfl|rfl|rfl<;>decide
theorem qf1_ {S T:List (Rat×Rat)} {Z:List ZR} (p:PlO S T Z):∀O,(qbn_ S T Z O).length<=cntO T.length (shN O)
 |[]=>by
  show Z.length<=if T.length=2 then 4 else 12
  split
  ·rename_i h;exact p.z2 h
  ·exact p.z
 |t::O=>by
  have ih:=qf1_ p O
  show (qfq_ S T (qbn_ S T Z O) t).length<=_
  unfold qfq_ shN
  rw [List.filter_cons]
  split
  ·rename_i c
   rw [List.length_cons,cntO]
   have a:=qf4_ (qi2_ t.2 (qbn_ S T Z O++ownR S T t.2))
   have b:=qjk_ (R:=qbn_ S T Z O++ownR S T t.2) (k:=t.2) (c:=cntO T.length (shN O)+2) (by rw [List.length_append];show _+2<=_;omega) (by
    have:4<=cntO T.length 0/\∀j,2<=cntO T.length j:=by
     refine ⟨by rw [cntO];split<;>decide,λj=>?_⟩
     induction j with
     |zero=>rw [cntO];split<;>decide
     |succ j ih=>
      rw [cntO]
      have:=Nat.mul_le_mul (show 4<=cntO T.length j+2 by omega) (show 4<=cntO T.length j+2 by omega)
      omega
    have:=this.2 (shN O);omega)
   have a:(outQ t.2 (qbn_ S T Z O++ownR S T t.2)).length<=(qi2_ t.2 (qbn_ S T Z O++ownR S T t.2)).length:=a
   unfold shN at b
   omega
  ·have a:=qf4_ (szR S t.2 (qbn_ S T Z O))
   have e:(szR S t.2 (qbn_ S T Z O)).length=(qbn_ S T Z O).length:=by unfold szR;rw [List.length_map]
   unfold shN at ih
   omega
theorem qho_ {S:List (Rat×Rat)} {k:Nat} (h:k<S.length):S.getD k (0,0)∈S:=by
 rw [List.getD_eq_getElem?_getD,List.getElem?_eq_getElem h]
 exact List.getElem_mem h
theorem qlk_ {S T:List (Rat×Rat)} {k D n:Nat} (d0:D≠0) (sD:Sm n (D:Int)) (b:∀x∈T,Wh D n x.1/\Wh D n x.2) (hk:k<T.length):∀z∈ownR S T k,RowW S.length T.length D n z:=by
 intro z hz
 obtain ⟨b1,b2⟩:=b _ (qho_ hk)
 have w1:Wh D n 1:=⟨D,by rw [Rat.divInt_self' (by omega)],sD⟩
 have u:∀q:Rat,Wh D n q->∀x∈qbe_ T.length k q,Wh D n x:=λq hq x hx=>by
  rcases qno_ hx with rfl|rfl
  ·exact qic_ _ _
  ·exact hq
 have ul:∀q:Rat,(qbe_ T.length k q).length=T.length:=λq=>by simp [qbe_]
 have z0:∀x∈List.replicate S.length (0:Rat),Wh D n x:=λx hx=>by rw [List.eq_of_mem_replicate hx];exact qic_ _ _
 simp only [ownR,List.mem_cons,List.not_mem_nil,or_false] at hz
 rcases hz with rfl|rfl
 ·exact ⟨List.length_replicate,ul 1,z0,u 1 w1,qhu_ b1⟩
 ·exact ⟨List.length_replicate,ul (-1),z0,u (-1) (qhu_ w1),b2⟩
theorem RowW.st {s t D n:Nat} {z:ZR} (h:RowW s t (D*D) (2*n+1) z):RowW s t (D*D*6) (2*n+7) z:=by
 have u:∀q,Wh (D*D) (2*n+1) q->Wh (D*D*6) (2*n+7) q:=λq hq=>(hq.up 6 (m:=3) (by decide) (by unfold Sm;decide)).mono (by omega)
 exact ⟨h.s,h.t,λq hq=>u q (h.a q hq),λq hq=>u q (h.b q hq),u _ h.c⟩
theorem qkd_ {S:List (Rat×Rat)} {k:Nat} {q:Rat} (b:∀x∈S,Wh 6 6 x.1/\Wh 6 6 x.2) (hk:k<S.length):Wh 6 6 (endQ q (S.getD k (0,0))):=by
 obtain ⟨h1,h2⟩:=b _ (qho_ hk)
 unfold endQ
 split
 ·exact h2
 ·exact h1
theorem sp_w {s t k D n:Nat} {z:ZR} {e:Rat} (d0:D≠0) (sD:Sm n (D:Int)) (r:RowW s t D n z) (hk:k<s) (we:Wh 6 6 e):RowW s t (D*D*6) (2*n+7) (spQ k e z):=by
 have st:∀q,Wh D n q->Wh (D*D*6) (2*n+7) q:=λq h=>(h.st d0 sD).mono (by omega)
 refine ⟨by simp [spQ,r.s],r.t,λq hq=>?_,λq hq=>st q (r.b q hq),?_⟩
 ·rcases List.mem_or_eq_of_mem_set hq with h|h
  ·exact st q (r.a q h)
  ·rw [h];exact qic_ _ _
 ·have a:Wh D n (aAt k z):=r.a _ (q6_ (by rw [r.s];exact hk))
  have m:=(a.mul we).up D d0 sD
  rw [Nat.mul_right_comm] at m
  exact ((r.c.st d0 sD).add (m.mono (b:=2*n+6) (by omega))).mono (by omega)
theorem qs7_ {S T:List (Rat×Rat)} {R:List ZR} {t:Tn} {D n:Nat} (d0:D≠0) (sD:Sm n (D:Int)) (bs:∀x∈S,Wh 6 6 x.1/\Wh 6 6 x.2) (bt:∀x∈T,Wh D n x.1/\Wh D n x.2) (r:∀z∈R,RowW S.length T.length D n z) (hk:t.2<if t.1=true then T.length else S.length):∀z∈qfq_ S T R t,RowW S.length T.length (D*D*6) (2*n+7) z:=by
 intro z hz
 unfold qfq_ at hz
 split at hz
 ·rename_i c
  rw [if_pos c] at hk
  exact (quz_ d0 sD (λy hy=>(List.mem_append.mp hy).elim (r y) (qlk_ d0 sD bt hk y)) hk z (qh6_ hz)).st
 ·rename_i c
  rw [if_neg c] at hk
  obtain ⟨y,hy,rfl⟩:=List.mem_map.mp (qh6_ hz)
  exact sp_w d0 sD (r y hy) hk (qkd_ bs hk)
theorem qnk_ {T:List (Rat×Rat)} (b:∀x∈T,Wh 6 6 x.1/\Wh 6 6 x.2):∀i,∀x∈T,Wh (botO i) (bitO i) x.1/\Wh (botO i) (bitO i) x.2
 |0,x,hx=>b x hx
 |i+1,x,hx=>by
  obtain ⟨h1,h2⟩:=qnk_ b i x hx
  obtain ⟨d0,sD⟩:=qka_ i
  exact ⟨(h1.st d0 sD).mono (by rw [bitO];omega),(h2.st d0 sD).mono (by rw [bitO];omega)⟩
theorem qhh_ {S T:List (Rat×Rat)} {Z:List ZR} (p:PlO S T Z):∀O,OrdO S T O->∀z∈qbn_ S T Z O,RowW S.length T.length (botO O.length) (bitO O.length) z
 |[],_,z,hz=>p.r z hz
 |t::O,h,z,hz=>by
  obtain ⟨d0,sD⟩:=qka_ O.length
  exact qs7_ d0 sD (λx hx=>⟨(p.bs x hx).1,(p.bs x hx).2.1⟩) (qnk_ (λx hx=>⟨(p.bt x hx).1,(p.bt x hx).2.1⟩) _) (qhh_ p O h.tl) (h.k t (.head _)) z hz
theorem qis_ {i:Nat} (h:i<=5):bitO i<=409/\(i<=4->bitO i<=201):=by
 rcases i with _|_|_|_|_|_|i
 all_goals first|omega|decide
/-! ### own_rows,size_put,turn_taken_out,rows_at,who_wins -/
theorem qmy_ (n:Nat):∀(l:List (Rat×Rat)) (j k:Nat),k<l.length->((((l.mapIdx λi x=>qls_ n (j+i) x).flatten).drop (2*k)).take 2)=qls_ n (j+k) (l.getD k (0,0))
 |[],_,_,h=>by simp at h
 |x::l,j,0,_=>by rw [List.mapIdx_cons,List.flatten_cons];rfl
 |x::l,j,k+1,h=>by
  have ih:=qmy_ n l (j+1) k (by simpa using h)
  have e2:j+(k+1)=j+1+k:=by omega
  rw [List.mapIdx_cons,List.flatten_cons,List.getD_cons_succ,e2,<-ih]
  show ((List.flatten _).drop (2*k)).take 2=_
  congr 4
  funext i x
  congr 1
  omega
theorem own_of {S T:List (Rat×Rat)} {k:Nat} (hk:k<T.length):((qg5_ S T).drop (2*k)).take 2=ownR S T k:=by
 unfold qg5_ qea_
 have g:=qmy_ T.length T 0 k hk
 simp only [Nat.zero_add] at g
 rw [<-List.map_drop,<-List.map_take,g]
 rfl
theorem qrh_ {α:Type} {xs:List α} {a b:Nat} (hb:b<=xs.length):L3.cutD xs (some (a:Int)) (some (b:Int))=(xs.drop a).take (b - a):=by
 unfold L3.cutD HT.sIx
 dsimp only
 rw [if_neg (by omega),if_neg (by omega)]
 have e1:min (b:Int).toNat xs.length=b:=by omega
 rw [e1]
 by_cases c:a<=xs.length
 ·have e2:min (a:Int).toNat xs.length=a:=by omega
  rw [e2]
 ·have e2:min (a:Int).toNat xs.length=xs.length:=by omega
  rw [e2,List.drop_of_length_le (Nat.le_refl _),List.drop_of_length_le (by omega)]
  simp
def gOwn:List D->(D->Prop)->Prop:=λds P=>∃(S T:List (Rat×Rat)) (Z:List ZR) (k:Nat),ds=[q9_ S T Z,.int k]/\S.length<=100/\T.length<=100/\k<T.length/\P (.lst ((ownR S T k).map zQ))
abbrev qdp_:Stmt:=top 37
theorem sc_own_rows:FnScope ["plan","k"] ["plan","k"] (qe_ qdp_):=⟨rfl,rfl,rfl,by decide+kernel,rfl,by decide+kernel,by decide+kernel⟩
theorem h_own_rows (B:Bl mg) (F:Def K mg "own_rows" qdp_ ["plan","k"]) (F_shim_rows:Has P w K mg base CX0 3 "shim_rows" ["plan"] (spW K (pur gSR))):Has P w K mg base CX0 4 "own_rows" ["plan","k"] (spW K (pur gOwn)):=by
 refine F.hasP sc_own_rows (λds P h=>by obtain ⟨_,_,_,_,rfl,_⟩:=h;rfl) λf cdv A outer s H E hr=>?_
 have nd:=sc_own_rows.nd
 refine ⟨_,(qf_ (qn_ (j_fz (qoz_ (j_h F_shim_rows (hr.mono (by decide)) rfl (qa_ (jv 0) qb_)) (qfj_ (qbq_ qd_ (jv 1))) (qfj_ (qcp_ (qbq_ qd_ (jv 1)) qd_)))))),?_⟩
 rintro ds M Q ⟨S,T,Z,k,rfl,lS,lT,hk,q⟩
 refine ⟨S,T,Z,rfl,lS,lT,?_⟩
 have c:L3.cutD ((qg5_ S T).map zQ) (some (2*(k:Int))) (some (2*(k:Int)+2))=(ownR S T k).map zQ:=by
  have e1:2*(k:Int)=((2*k:Nat):Int):=by omega
  have e2:((2*k:Nat):Int)+2=((2*k+2:Nat):Int):=by omega
  rw [L3.cut_map,e1,e2,qrh_ (by rw [qof_];omega),<-own_of hk]
  congr 2
  omega
 refine ⟨.inl (.inl ⟨by decide,by decide⟩),.inl (.inl ⟨by decide,by decide⟩),?_⟩
 have q2:Q (.lst (L3.cutD ((qg5_ S T).map zQ) (some (2*(k:Int))) (some (2*(k:Int)+2)))) M:=by rw [c];exact q
 exact ⟨_,Sub.refl _,q2⟩
def gSP:List D->(D->Prop)->Prop:=λds P=>∃(z:ZR) (k:Nat) (q:Rat),ds=[zQ z,.int k,frD q]/\k<z.1.length/\Mx (aAt k z) q/\Mx z.2.2 (aAt k z*q)/\P (zQ (spQ k q z))
abbrev qdq_:Stmt:=top 38
theorem sc_size_put:FnScope ["row","k","q","a"] ["row","k","q"] (qe_ qdq_):=⟨rfl,rfl,rfl,by decide+kernel,rfl,by decide+kernel,by decide+kernel⟩
theorem h_size_put (B:Bl mg) (F:Def K mg "size_put" qdq_ ["row","k","q"]) (F_plus:qn2_ P w K mg base) (F_times:qms_ P w K mg base) (C_ZERO:Zero4 K mg):Has P w K mg base CX0 4 "size_put" ["row","k","q"] (spW K (pur gSP)):=by
 refine F.hasP sc_size_put (λds P h=>by obtain ⟨_,_,_,rfl,_⟩:=h;rfl) λf cdv A outer s H E hr=>?_
 have nd:=sc_size_put.nd
 refine ⟨_,(qc_ (qg2_ (i:=3) nd rfl (Or.inl rfl) (qbd_ rfl B.list (qa_ (qh_ 0 qd_) qb_)))
  (qc_ (qen_ 3 (qbr_ C_ZERO rfl) (jv 1))
  (qf_ (qn_ (q7_ (qa_ (jv 3) (qa_ (qh_ 0 qd_) (qa_ (j_h F_plus (hr.mono (by decide)) rfl (qa_ (qh_ 0 qd_) (qa_ (j_h F_times (hr.mono (by decide)) rfl (qa_ (j_at (qh_ 0 qd_) (jv 1)) (qa_ (jv 2) qb_))) qb_))) qb_)))))))),?_⟩
 rintro ds M Q ⟨z,k,q,rfl,hk,m1,m2,kq⟩
 refine ⟨trivial,?_⟩
 have e:ixN (z.1.map frD).length (k:Int)=some k:=qht_ (by rw [List.length_map];exact hk)
 show match ixN (z.1.map frD).length (k:Int) with|some n=>_|none=>False
 rw [e]
 refine RIx.frl hk ?_
 refine ⟨_,_,rfl,m1,_,_,rfl,m2,by show 3<=sizeLine;decide,_,Sub.refl _,?_⟩
 have e2:(z.1.map frD).set k (frD 0)=(z.1.set k 0).map frD:=by rw [List.map_set]
 rw [e2]
 exact kq
structure TtOk (S T:List (Rat×Rat)) (R:List ZR) (t:Tn) (D n:Nat):Prop where
 s:S.length<=100
 lt:T.length<=100
 d0:D≠0
 sD:Sm n (D:Int)
 hn:n<=201
 r:∀z∈R,RowW S.length T.length D n z
 l:R.length<=300
 bs:∀x∈S,Wh 6 6 x.1/\Wh 6 6 x.2
 bt:∀x∈T,Wh D n x.1/\Wh D n x.2
 k:t.2<if t.1=true then T.length else S.length
def gTT:List D->(D->Prop)->Prop:=λds P=>∃(S T:List (Rat×Rat)) (Z R:List ZR) (t:Tn) (D n:Nat),ds=[q9_ S T Z,.lst (R.map zQ),tnQ t]/\TtOk S T R t D n/\P (.lst ((qfq_ S T R t).map zQ))
theorem sm6 {q:Rat} (h:Wh 6 6 q):SmR 6 q:=h.smr (by decide) (by unfold Sm;decide)
theorem qkr_ {S:List (Rat×Rat)} {k:Nat} (h:k<S.length):(S.map bQ)[k]?=some (bQ (S.getD k (0,0))):=by
 rw [List.getElem?_map,List.getElem?_eq_getElem h,List.getD_eq_getElem?_getD,List.getElem?_eq_getElem h];rfl
abbrev qbg_:Stmt:=top 39
theorem sc_turn_taken_out:FnScope ["plan","rows","turn","k"] ["plan","rows","turn"] (qe_ qbg_):=⟨rfl,rfl,rfl,by decide+kernel,rfl,by decide+kernel,by decide+kernel⟩
theorem h_turn_taken_out (B:Bl mg) (F:Def K mg "turn_taken_out" qbg_ ["plan","rows","turn"]) (F_taken_out:Has P w K mg base CX0 6 "taken_out" ["rows","k"] (spW K (pur gTO))) (F_own_rows:Has P w K mg base CX0 4 "own_rows" ["plan","k"] (spW K (pur gOwn))) (F_put_on:Has P w K mg base CX0 3 "put_on" ["rows"] (spW K (pur gOn))) (F_size_put:Has P w K mg base CX0 4 "size_put" ["row","k","q"] (spW K (pur gSP))) (F_worst_end:Has P w K mg base CX0 2 "worst_end" ["q","pair"] (spW K (pur gWE))):Has P w K mg base CX0 7 "turn_taken_out" ["plan","rows","turn"] (spW K (pur gTT)):=by
 refine F.hasP sc_turn_taken_out (λds P h=>by obtain ⟨_,_,_,_,_,_,_,rfl,_⟩:=h;rfl) λf cdv A outer s H E hr=>?_
 have nd:=sc_turn_taken_out.nd
 refine ⟨_,(qc_ (qp_ (i:=3) nd rfl (Or.inr rfl) (qh_ 2 qd_))
  (qc_ (qcd_ (qgc_ hr (qh_ 2 qd_) qdf_) (qf_ (qn_ (j_at (j_h F_taken_out (hr.mono (by decide)) rfl (qa_ (j_fz (qdk_ (jv 1) (j_h F_own_rows (hr.mono (by decide)) rfl (qa_ (jv 0) (qa_ (jv 3) qb_))))) (qa_ (jv 3) qb_))) qd_))) qx_)
  (qf_ (qn_ (j_h F_put_on (hr.mono (by decide)) rfl (qa_ (j_fz (qc7_ ["row","k","plan"] [none,some 3,some 0] ⟨rfl,by decide+kernel,by decide+kernel,rfl,rfl,q3_ rfl⟩ rfl (qr_ (jv 1)) (λ_ _ _ _ _=>(qg_ (i:=0) (show List.Nodup [("row":Str),("k":Str),("plan":Str)] by decide+kernel) rfl (Or.inl rfl))) (λ_ _ _ _ _=>q4_) (λ_ _ _ _ _=>(j_h F_size_put (hr.mono (by decide)) rfl (qa_ (jv 0) (qa_ (jv 1) (qa_ (j_h F_worst_end (hr.mono (by decide)) rfl (qa_ (j_at (qh_ 0 qd_) (jv 1)) (qa_ (j_at (qh_ 2 qd_) (jv 1)) qb_))) qb_))))))) qb_)))))),?_⟩
 rintro ds M Q ⟨S,T,Z,R,⟨b,k⟩,D,n,rfl,ok,q⟩
 have lR:=ok.l
 have hn:=ok.hn
 have hk:=ok.k
 refine ⟨Nat.zero_le _,?_⟩
 cases b with
 |true=>
  have hk:k<T.length:=hk
  have ow:=qlk_ (S:=S) ok.d0 ok.sD ok.bt hk
  have rr:∀z∈R++ownR S T k,RowW S.length T.length D n z:=λz hz=>(List.mem_append.mp hz).elim (ok.r z) (ow z)
  have l2:(ownR S T k).length=2:=rfl
  have dd:D*D≠0:=Nat.mul_ne_zero ok.d0 ok.d0
  have sd:Sm (2*n+1) ((D*D:Nat):Int):=by rw [Int.natCast_mul];exact (ok.sD.mul ok.sD).mono (by omega)
  refine ⟨S,T,Z,k,rfl,ok.s,ok.lt,hk,?_⟩
  refine ⟨by rw [List.length_map,List.length_map,l2];exact Nat.le_of_lt (qi_ (by omega)),R++ownR S T k,k,S.length,T.length,n,by rw [List.map_append],by rw [List.length_append,l2];omega,λz hz=>(rr z hz).ok ok.d0 ok.sD,λz hz=>((quz_ ok.d0 ok.sD rr hk z hz).ok dd sd).mono (by omega),hk,ok.s,ok.lt,by omega,_,Sub.refl _,q⟩
 |false=>
  have hk:k<S.length:=hk
  have d6:D*D*6≠0:=Nat.mul_ne_zero (Nat.mul_ne_zero ok.d0 ok.d0) (by decide)
  have s6:Sm (2*n+7) ((D*D*6:Nat):Int):=by
   rw [Int.natCast_mul,Int.natCast_mul]
   exact ((ok.sD.mul ok.sD).mul (show Sm 3 ((6:Nat):Int) by unfold Sm;decide)).mono (by omega)
  refine ⟨λi out ρ M'=>M'=M/\out=((szR S k R).take i).map zQ/\∃o,ρ=[o,.sh (.int k),.sh (q9_ S T Z)],⟨rfl,rfl,_,rfl⟩,?_,?_⟩
  ·rintro i d out ρ M' hd ⟨rfl,rfl,o,rfl⟩
   obtain ⟨z,hz,rfl⟩:=qq_ hd
   have hi:=(List.getElem?_eq_some_iff.mp hz).1
   have rz:=ok.r z (List.mem_of_getElem? hz)
   have kz:k<z.1.length:=by rw [rz.s];exact hk
   have sa:SmR n (aAt k z):=(rz.a _ (q6_ kz)).smr ok.d0 ok.sD
   have we:=qkd_ (q:=aAt k z) ok.bs hk
   refine RIx.frl kz (RIx.get (qkr_ hk) ⟨_,_,rfl,sa.mono (by omega),?_⟩)
   have he:(szR S k R)[i]?=some (spQ k (endQ (aAt k z) (S.getD k (0,0))) z):=by unfold szR;rw [List.getElem?_map,hz];rfl
   refine ⟨z,k,_,rfl,kz,Mx.of sa (sm6 we) (by omega),Mx.of (rz.c.smr ok.d0 ok.sD) (qcc_ sa (sm6 we)) (by omega),by rw [List.length_map,List.length_take];exact qi_ (by omega),rfl,q1_ (f:=zQ) he,.sh (zQ z),rfl⟩
  ·rintro out ρ M' ⟨rfl,rfl,o,rfl⟩
   have e:(R.map zQ).length=(szR S k R).length:=by unfold szR;rw [List.length_map,List.length_map]
   rw [e,List.take_length]
   refine ⟨szR S k R,S.length,T.length,rfl,by rw [<-e,List.length_map];omega,ok.s,ok.lt,λz hz=>?_,_,Sub.refl _,q⟩
   obtain ⟨y,hy,rfl⟩:=List.mem_map.mp hz
   exact ((sp_w ok.d0 ok.sD (ok.r y hy) hk (qkd_ ok.bs hk)).ok d6 s6).mono (by omega)
def gRA:List D->(D->Prop)->Prop:=λds P=>∃(S T:List (Rat×Rat)) (Z:List ZR) (O:List Tn) (p:Nat),ds=[q9_ S T Z,.lst (O.map tnQ),.int p]/\PlO S T Z/\OrdO S T (O.drop p)/\P (.lst ((qbn_ S T Z (O.drop p)).map zQ))
theorem qjm_ {S T:List (Rat×Rat)} {Z:List ZR} {O:List Tn} {t:Tn} (p:PlO S T Z) (o:OrdO S T (t::O)):TtOk S T (qbn_ S T Z O) t (botO O.length) (bitO O.length):=by
 obtain ⟨d0,sD⟩:=qka_ O.length
 have l:=o.l
 rw [List.length_cons] at l
 have cl:=qlw_ o.tl.n p.t
 exact ⟨by have:=p.s;omega,by have:=p.t;omega,d0,sD,(qis_ (i:=O.length) (by omega)).2 (by omega),qhh_ p O o.tl,Nat.le_trans (qf1_ p O) (by omega),λx hx=>⟨(p.bs x hx).1,(p.bs x hx).2.1⟩,qnk_ (λx hx=>⟨(p.bt x hx).1,(p.bt x hx).2.1⟩) _,o.k t (.head _)⟩
abbrev qeo_:Stmt:=top 40
theorem sc_rows_at:FnScope ["plan","order","place","rows","turn"] ["plan","order","place"] (qe_ qeo_):=⟨rfl,rfl,rfl,by decide+kernel,rfl,by decide+kernel,by decide+kernel⟩
theorem h_rows_at (B:Bl2 mg) (F:Def K mg "rows_at" qeo_ ["plan","order","place"]) (F_copied_rows:Has P w K mg base CX0 1 "copied_rows" ["rows"] (spN K gCR)) (F_turn_taken_out:Has P w K mg base CX0 7 "turn_taken_out" ["plan","rows","turn"] (spW K (pur gTT))):Has P w K mg base CX0 8 "rows_at" ["plan","order","place"] (spW K (pur gRA)):=by
 refine F.hasP sc_rows_at (λds P h=>by obtain ⟨_,_,_,_,_,rfl,_⟩:=h;rfl) λf cdv A outer s H E hr=>?_
 have nd:=sc_rows_at.nd
 refine ⟨_,(qc_ (qp_ (i:=3) nd rfl (Or.inl rfl) (j_h (L3.Has.toW F_copied_rows) (hr.mono (by decide)) rfl (qa_ (qh_ 0 qd_) qb_)))
  (qc_ (qbm_ PassesOwn.never rfl (qte_ rfl B.reversed (qa_ (j_fz (qoz_ (jv 1) (qfj_ (jv 2)) qie_)) qb_)) (qg_ (i:=4) nd rfl (Or.inl rfl))
  (qf_ (qp_ (i:=3) nd rfl (Or.inl rfl) (j_h F_turn_taken_out (hr.mono (by decide)) rfl (qa_ (jv 0) (qa_ (jv 3) (qa_ (jv 4) qb_)))))))
  (qf_ (qn_ (jv 3))))),?_⟩
 rintro ds M Q ⟨S,T,Z,O,p,rfl,pl,od,q⟩
 refine ⟨Z,rfl,by have:=pl.z;omega,?_⟩
 have c:(L3.cutD (O.map tnQ) (some (p:Int)) none).reverse=((O.drop p).map tnQ).reverse:=by rw [L3.cut_from (by omega),List.map_drop];rfl
 have l5:=od.l
 refine ⟨λi ρ M'=>M'=M/\∃o4:Ent,ρ=[.sh (q9_ S T Z),.sh (.lst (O.map tnQ)),.sh (.int p),.sh (.lst ((qbn_ S T Z ((O.drop p).drop ((O.drop p).length - i))).map zQ)),o4],⟨rfl,.un,?_⟩,?_,?_⟩
 ·have:(O.drop p).drop ((O.drop p).length - 0)=[]:=by rw [Nat.sub_zero,List.drop_length]
  rw [this];rfl
 ·rintro i d ρ M' hd ⟨rfl,o4,rfl⟩
  have hd:(L3.cutD (O.map tnQ) (some (p:Int)) none).reverse[i]?=some d:=hd
  rw [c] at hd
  generalize O.drop p=O' at*
  have hi:=(List.getElem?_eq_some_iff.mp hd).1
  rw [List.length_reverse,List.length_map] at hi
  rw [List.getElem?_reverse (by rw [List.length_map];exact hi),List.length_map] at hd
  obtain ⟨t,ht,rfl⟩:=qq_ hd
  have e:O'.drop (O'.length - (i+1))=t::O'.drop (O'.length - i):=by
   have h1:O'.length - (i+1)=O'.length - 1 - i:=by omega
   have h2:O'.length - i=O'.length - 1 - i+1:=by omega
   rw [h1,h2,List.drop_eq_getElem_cons (by omega)]
   congr 1
   exact (List.getElem?_eq_some_iff.mp ht).2
  have od2:OrdO S T (t::O'.drop (O'.length - i)):=by rw [<-e];exact od.drop _
  refine ⟨S,T,Z,_,t,_,_,rfl,qjm_ pl od2,rfl,.sh (tnQ t),?_⟩
  rw [e];rfl
 ·rintro ρ M' ⟨rfl,o4,rfl⟩
  have el:(L3.cutD (O.map tnQ) (some (p:Int)) none).reverse.length=(O.drop p).length:=by rw [c,List.length_reverse,List.length_map]
  rw [el,Nat.sub_self,List.drop_zero]
  exact ⟨_,Sub.refl _,q⟩

/-! ### readings in which anything may be refused:the def's first frame held fast -/
def lfX (K:PySem.W.Frag) (Z0 F0:Hp) (f:WE):TE:=λσ H Q=>∃F ρ M P,Same F0 F/\Ag K Z0 F M H ρ σ/\f ρ M P/\∀v H' F' d ρ' M',Same F F'->Ag K Z0 F' M' H' ρ' σ->Rp K F' d v->P d ρ' M'->Q v H'
def lfAX (K:PySem.W.Frag) (Z0 F0:Hp) (f:WA):TA:=λσ H Q=>∃F ρ M P,Same F0 F/\Ag K Z0 F M H ρ σ/\f ρ M P/\∀vs H' F' ds ρ' M',Same F F'->Ag K Z0 F' M' H' ρ' σ->Rps K F' ds vs->P ds ρ' M'->Q vs H'
def lfSX (K:PySem.W.Frag) (Z0 F0:Hp) (f:WS):TS:=λD' σ H=>∃F ρ M E,Same F0 F/\Ag K Z0 F M H ρ σ/\f E ρ M/\EndsOk K Z0 F E D'
structure XE (X:Cx) (Z0 F0:Hp) (e:Expr) (f:WE):Prop where
 h:PE X e (lfX X.K Z0 F0 f)
structure XA (X:Cx) (Z0 F0:Hp) (es:List Expr) (f:WA):Prop where
 h:PA X es (lfAX X.K Z0 F0 f)
structure XS (X:Cx) (Z0 F0:Hp) (st:Stmt) (f:WS):Prop where
 h:PS X st (lfSX X.K Z0 F0 f)
structure XSs (X:Cx) (Z0 F0:Hp) (st:List Stmt) (f:WS):Prop where
 h:PSs X st (lfSX X.K Z0 F0 f)
section
variable {X:Cx} {Z0 F0:Hp} {e c:Expr} {es:List Expr} {st:Stmt} {sts sa sb:List Stmt} {fe:WE} {fl:WA} {ft:WT} {fs gs:WS} {pos pos' np mp cpos p:Pos} {x f:Str} {i k:Nat} {ps:List Str}
theorem qlm_ {X:Cx} {e:Expr} {G:WT} (h:JT X.nox e G):JT X e G:=⟨h.h.nox⟩
theorem qeg_ {X:Cx} {s:Stmt} {G:WS} (h:JS X.nox s G):JS X s G:=⟨λpins s σ H D I hw=>wpAny_mono (h.h pins s σ H D (I.wish _) hw) (λ_ _ q=>q.unwish) λ_ _ z=>False.elim z⟩
theorem qgx_ {X:Cx} {ss:List Stmt} {G:WS} (h:JSs X.nox ss G):JSs X ss G:=⟨h.h.nox⟩
theorem qpb_ {X:Cx} {es:List Expr} {G:WA} (h:JA X.nox es G):JA X es G:=⟨λpos pins s σ H Q I hw=>wpAny_mono (h.h pos pins s σ H Q (I.wish _) hw) (λ_ _ ⟨v,H',I',r,q⟩=>⟨v,H',I'.unwish,r,q⟩) λ_ _ z=>False.elim z⟩
theorem qt9_ (h:JA X es fl):XA X Z0 F0 es fl:=⟨imA h.h λσ H Q ⟨F,ρ,M,P,_,ag,hf,k⟩=>⟨Z0,F,ρ,M,P,ag,hf,k⟩⟩
theorem qhe_ (h:JS X st fs):XS X Z0 F0 st fs:=⟨imS h.h λD' σ H ⟨F,ρ,M,E,_,ag,hf,k⟩=>⟨Z0,F,ρ,M,E,ag,hf,k⟩⟩
theorem qjc_ (h:JSs X sts fs):XSs X Z0 F0 sts fs:=⟨imSs h.h λD' σ H ⟨F,ρ,M,E,_,ag,hf,k⟩=>⟨Z0,F,ρ,M,E,ag,hf,k⟩⟩
theorem qo3_ (h:XE X Z0 F0 e fe):XS X Z0 F0 (.Return (some e) pos) (wRet fe):=⟨imS (ql1_ h.h) λD' σ H ⟨F,ρ,M,E,s0,ag,hf,k⟩=>⟨F,ρ,M,_,s0,ag,hf,λv H' F' d ρ' M' s' ag' r h=>k.rt v H' F' (.d d) M' s' ag'.m (by rw [RU];exact r) h⟩⟩
theorem qfy_ (h:XS X Z0 F0 st fs):XSs X Z0 F0 [st] fs:=⟨qiz_ h.h⟩
theorem qbk_ (h:XS X Z0 F0 st fs) (h2:XSs X Z0 F0 sts gs):XSs X Z0 F0 (st::sts) (wSeq fs gs):=⟨imSs (qjy_ h.h h2.h) λD' σ H ⟨F,ρ,M,E,s0,ag,hf,k⟩=>
 ⟨F,ρ,M,_,s0,ag,hf,⟨λσ' H' F' ρ' M' s' ag' h=>⟨F',ρ',M',E,s0.trans s',ag',h,k.mono s'⟩,k.bk,k.ct,k.rt⟩⟩⟩
theorem qp3_ (hc:JT X c ft) (ha:XSs X Z0 F0 sa fs) (hb:XSs X Z0 F0 sb gs):XS X Z0 F0 (.If c sa sb pos) (wIf ft fs gs):=⟨imS (qtm_ hc.h ha.h hb.h) λD' σ H ⟨F,ρ,M,E,s0,ag,hf,k⟩=>⟨Z0,F,ρ,M,_,ag,hf,λb H' F' ρ' M' s' ag' h=>by
 cases b with
 |true=>rw [if_pos rfl] at h ⊢;exact ⟨F',ρ',M',E,s0.trans s',ag',h,k.mono s'⟩
 |false=>rw [if_neg Bool.false_ne_true] at h ⊢;exact ⟨F',ρ',M',E,s0.trans s',ag',h,k.mono s'⟩⟩⟩
def qu7_ (XR:Mm->Prop):WS:=λ_ _ M=>XR M
theorem qg9_ {XR:Mm->Prop} {C:Addr} {R:XK} {msg:Str} {j:Nat} (hx:∀H' F' M',Same F0 F'->AgM X.K Z0 F' M' H'->XR M'->∀a,H' a=none->R (.ref C) (some a) H') (ar:Arr X λ_=>R) (hg:Gl X x) (hm:X.mg x=some (.ref C)) (q:PySem.W.excIn X.K C qlj_ "ValueError.__new__"=true) (hc:X.calm=true:=by rfl) (hdb:(x==("__debug__":Str))=false:=by decide):
  XS X Z0 F0 (.Raise (some (.Call (.Name x np) [.Constant (.str msg) j mp] [] cpos)) none pos) (qu7_ XR):=⟨imS (qn0_ hg hm q ar (qc5_ qpi_ qfp_) (hc:=hc) (hdb:=hdb)) λD' σ H ⟨F,ρ,M,E,s0,ag,hf,k⟩=>⟨by show 1<=sizeLine;decide,λa ha=>hx H F M s0 ag.m hf a ha⟩⟩
def wFnX (XR:Mm->Prop) (g:List D->(Option D->Prop)->Prop) (fl:WA):WE:=λρ M P=>fl ρ M λds ρ1 M1=>g ds λo=>match o with
 |some d=>P d ρ1 M1
 |none=>XR M1
theorem xe_h {XR:Mm->Prop} {C:Addr} {R:XK} {g:List D->(Option D->Prop)->Prop} (F:Has X.prog X.w X.K X.mg X.base (CX1 X.prog X.w) k f ps (spE X.K C g)) (hx:∀H' F' M',Same F0 F'->AgM X.K Z0 F' M' H'->XR M'->∀a,H' a=none->R (.ref C) (some a) H') (ar:Arr X λ_=>R) (hr:Room k X.A) (hg:Gl X f) (ha:XA X Z0 F0 (e::es) fl)
  (hdb:(f==("__debug__":Str))=false:=by decide) (he:starEach (e::es) X.env=(false,eval e X.env)::starEach es X.env:=by rfl) (hpl:(backTo pos (starEach es X.env)).any (·.1)=false:=by rfl):XE X Z0 F0 (.Call (.Name f p) (e::es) [] pos) (wFnX XR g fl):=
 ⟨imE (qug_ F hr hg ar ha.h hdb he hpl) λσ H Q ⟨F,ρ,M,P,s0,ag,hf,k⟩=>⟨F,ρ,M,_,s0,ag,hf,λvs H1 F1 ds ρ1 M1 s1 ag1 r1 h1=>
  ⟨_,F1,M1,ds,_,ag1.m.inner,r1,h1,λv H' F' d s' m' r p=>k v H' F' d ρ1 M1 (s1.trans s') (ag1.back s' m') r p,λa H' F' s' m' ha p=>hx H' F' M1 (s0.trans (s1.trans s')) (ag1.back s' m').m p a ha⟩⟩⟩
end
theorem qqd_ {P:Program} {w:World} {K:PySem.W.Frag} {mg:Str->Option Value} {base:Heap} {k:Nat} {x:Str} {st:Stmt} {N ps:List Str} {C:Addr} {g:List D->(Option D->Prop)->Prop} (F:Def K mg x st ps) (sc:FnScope N ps (qe_ st)) (len:∀ds P,g ds P->ds.length=ps.length)
  (hbody:∀(f:Addr) (cdv:Value) (A:Around) (outer:List Env) (s:Shared) (H:Hp) (E:XK) (Z F0:Hp) (M:Mm) (ds:List D) (Q:Option D->Prop),Room k (A.deeper (envOfC x (qe_ st) s.heap.objs.size f cdv))->g ds Q->
   (∀H' F' M',Same F0 F'->AgM K Z F' M' H'->(Sub M M'/\Q none)->∀a,H' a=none->E (.ref C) (some a) H')->
   ∃G,XSs (cxOf (CX1 P w) P w K mg base N x (qe_ st) f cdv A outer s H E) Z F0 (q8_ st) G/\G ⟨λ_ M'=>Sub M M'/\Q (some .non),rtD λd M'=>Sub M M'/\Q (some d),λ_ _=>False,λ_ _=>False⟩ (qdm_ N ds) M):Has P w K mg base (CX1 P w) (k+1) x ps (spE K C g):=by
 refine F.hasX sc (λvs H Q E h=>?_) λf cdv A outer s H vs Q E hr h=>?_
 ·obtain ⟨Z,F',M,ds,P,m,r,hg,_⟩:=h
  rw [<-r.length]
  exact len ds P hg
 ·obtain ⟨Z,F',M,ds,P',m,r,hg,kq,ke⟩:=h
  obtain ⟨G,hG,hh⟩:=hbody f cdv A outer s H E Z F' M ds P' hr hg λH' F2 M' s2 m2 h2 a ha=>ke a H' F2 s2 (m2.sub h2.1) ha h2.2
  refine ⟨_,hG.h,F',qdm_ N ds,M,_,Same.refl _,qg8_ N m r,hh,⟨λσ' H' F2 ρ' M' s' ag' q=>kq .non H' F2 .non s' (ag'.m.sub q.1) (by rw [Rp]) q.2,λ_ _ _ _ _ _ _ q=>q.elim,λ_ _ _ _ _ _ _ q=>q.elim,λv H' F2 u M' s' m' r' q=>?_⟩⟩
  obtain ⟨d,r',hs,q⟩:=qju_ (M:=M') (q:=λd M'=>Sub M M'/\P' (some d)) q r'
  exact kq v H' F2 d s' (m'.sub hs) r' q

theorem qq0_ (xs:List Rat):noLs (xs.map frD)=true:=qdv_ λ_=>rfl

/-! ### an own tree in a name,held for good from here on -/
def qdh_ (M:Mm) (A:List Addr):Mm:=λq=>if q∈A then none else M q
def wFzU (i:Nat) (f:WS):WS:=λE ρ M=>match uOf ρ[i]? with
 |some u=>∃d A,Own M d u A/\f E (ρ.set i (.sh d)) (qdh_ M A)
 |none=>False
theorem qsq_ {Z F H:Hp} {M:Mm} {ρ:Rho} {σ:L2.St} {i:Nat} {u:U} {d:D} {A:List Addr} (ag:Ag K Z F M H ρ σ) (hu:uOf ρ[i]?=some u) (ow:Own M d u A):Ag K Z (frz A H F) (qdh_ M A) H (ρ.set i (.sh d)) σ:=by
 have th:=ow.there
 have sF:=qb9_ ag.m th
 have hv:∃v,σ[i]?=some (some v)/\RU K F u v:=by
  cases q:ρ[i]? with
  |none=>rw [q] at hu;cases hu
  |some en=>
   rw [q] at hu
   have hen:=ag.en i en q
   cases en with
   |ut w=>cases hu;obtain ⟨v,h1,h2⟩:=hen;exact ⟨v,qdd_ h1,h2⟩
   |rf p=>cases hu;exact ⟨.ref p,qdd_ hen,by rw [RU]⟩
   |un=>cases hu
   |sh d=>cases hu
   |ow ds=>cases hu
 obtain ⟨v,hv1,hv2⟩:=hv
 have m1:AgM K Z (frz A H F) (qdh_ M A) H:=by
  refine ⟨qd6_ ag.m,λq o e=>?_,λq o e=>?_⟩
  ·obtain ⟨z1,z2,z3⟩:=ag.m.zz q o e
   have nq:q∉A:=λhq=>by obtain ⟨_,y⟩:=th q hq;rw [z3] at y;cases y
   exact ⟨z1,by rw [qb0_ nq];exact z2,by unfold qdh_;rw [if_neg nq];exact z3⟩
  ·have nq:q∉A:=λhq=>by unfold qdh_ at e;rw [if_pos hq] at e;cases e
   have e:M q=some o:=by unfold qdh_ at e;rw [if_neg nq] at e;exact e
   obtain ⟨z1,z2⟩:=ag.m.mo q o e
   exact ⟨by rw [qb0_ nq];exact z1,z2.same sF rfl⟩
 have a1:Ag K Z (frz A H F) (qdh_ M A) H ρ σ:=by
  refine ⟨m1,ag.len,λj en h=>?_,ag.di⟩
  have:=ag.en j en h
  cases en with
  |un=>trivial
  |sh d=>obtain ⟨v,h1,h2⟩:=this;exact ⟨v,h1,Rp.same sF h2⟩
  |rf p=>exact this
  |ut u=>obtain ⟨v,h1,h2⟩:=this;exact ⟨v,h1,RU.same sF h2⟩
  |ow ds'=>
   obtain ⟨p,vs,h1,h2,h3,h4,h6,h5⟩:=this
   have nq:p∉A:=λhq=>by obtain ⟨_,y⟩:=th p hq;rw [h4] at y;cases y
   exact ⟨p,vs,h1,h2,by rw [qb0_ nq];exact h3,by unfold qdh_;rw [if_neg nq];exact h4,h6,Rps.same sF h5⟩
 have a3:=a1.set (i:=i) (ow.rp ag.m sF (λq hq=>qfi_ hq) hv2)
 rw [qfw_ hv1] at a3
 exact a3
theorem quw_ {X:Cx} {st:Stmt} {fs:WS} (i:Nat) (h:JS X st fs):JS X st (wFzU i fs):=⟨imS h.h λD' σ H hh=>ex5 hh λZ F ρ M E ag hf k=>by
 unfold wFzU at hf
 split at hf
 ·rename_i u hu
  obtain ⟨d,A,ow,hf⟩:=hf
  exact ⟨Z,_,_,_,E,qsq_ ag hu ow,hf,k.mono (qb9_ ag.m ow.there)⟩
 ·exact hf.elim⟩
theorem qf7_ {M:Mm} {p:Addr} {o:MO} (h:M p=none):qdh_ (mset M p o) [p]=M:=by
 funext q
 unfold qdh_
 by_cases z:q=p
 ·subst z;rw [if_pos (by simp)];exact h.symm
 ·rw [if_neg (by simpa using z),qu_ z]
theorem qcb_ {M:Mm} {p:Addr} {o o':MO}:mset (mset M p o) p o'=mset M p o':=by
 funext q
 by_cases z:q=p
 ·subst z;rw [qm_,qm_]
 ·rw [qu_ z,qu_ z,qu_ z]
/-! ### what is told new -/
def ownL (ys:List Rat):MO:= .own ((ys.map frD).map U.d)
theorem qfe_ {M:Mm} {p:Addr} {ys:List Rat} (h:M p=some (ownL ys)):Own M (frL ys) (.adr p) [p]:= .mkflat (qq0_ ys) h
/-! ### what is told so far,as sizes and shims -/
def putV (mc:List Rat×List Rat) (x:Tn×Rat):List Rat×List Rat:=if x.1.1=true then (mc.1,mc.2.set x.1.2 x.2) else (mc.1.set x.1.2 x.2,mc.2)
def mcQ (s t:Nat) (O:List Tn) (V:List Rat):List Rat×List Rat:=(O.zip V).foldl putV (List.replicate s 0,List.replicate t 0)
theorem qos_ (mc:List Rat×List Rat) (x:Tn×Rat):(putV mc x).1.length=mc.1.length/\(putV mc x).2.length=mc.2.length:=by
 unfold putV
 split<;>simp
theorem qfv_ (s t:Nat) (O:List Tn) (V:List Rat):(mcQ s t O V).1.length=s/\(mcQ s t O V).2.length=t:=by
 have:∀(l:List (Tn×Rat)) (mc:List Rat×List Rat),(l.foldl putV mc).1.length=mc.1.length/\(l.foldl putV mc).2.length=mc.2.length:=by
  intro l
  induction l with
  |nil=>intro mc;exact ⟨rfl,rfl⟩
  |cons x l ih=>
   intro mc
   obtain ⟨h1,h2⟩:=ih (putV mc x)
   obtain ⟨g1,g2⟩:=qos_ mc x
   exact ⟨h1.trans g1,h2.trans g2⟩
 have:=this (O.zip V) (List.replicate s 0,List.replicate t 0)
 simpa [mcQ] using this
theorem qou_ {mc:List Rat×List Rat} {x:Tn×Rat} {p:Rat->Prop} (h:(∀q∈mc.1,p q)/\∀q∈mc.2,p q) (hx:p x.2):(∀q∈(putV mc x).1,p q)/\∀q∈(putV mc x).2,p q:=by
 have g:∀(l:List Rat) (k:Nat),(∀q∈l,p q)->∀q∈l.set k x.2,p q:=λl k hl q hq=>by
  rcases List.mem_or_eq_of_mem_set hq with h|h
  ·exact hl q h
  ·rw [h];exact hx
 unfold putV
 split
 ·exact ⟨h.1,g _ _ h.2⟩
 ·exact ⟨g _ _ h.1,h.2⟩
theorem qmi_ {s t:Nat} {O:List Tn} {V:List Rat} {p:Rat->Prop} (h0:p 0) (h:∀q∈V,p q):(∀q∈(mcQ s t O V).1,p q)/\∀q∈(mcQ s t O V).2,p q:=by
 have:∀(l:List (Tn×Rat)) (mc:List Rat×List Rat),(∀x∈l,p x.2)->((∀q∈mc.1,p q)/\∀q∈mc.2,p q)->(∀q∈(l.foldl putV mc).1,p q)/\∀q∈(l.foldl putV mc).2,p q:=by
  intro l
  induction l with
  |nil=>intro mc _ h;exact h
  |cons x l ih=>intro mc hl h;exact ih _ (λy hy=>hl y (.tail _ hy)) (qou_ h (hl x (.head _)))
 refine this _ _ (λx hx=>h _ (List.of_mem_zip hx).2) ⟨λq hq=>?_,λq hq=>?_⟩
 ·rw [List.eq_of_mem_replicate hq];exact h0
 ·rw [List.eq_of_mem_replicate hq];exact h0
def gMC:List D->(D->Prop)->Prop:=λds P=>∃(S T:List (Rat×Rat)) (Z:List ZR) (O:List Tn) (V:List Rat),ds=[q9_ S T Z,.lst (O.map tnQ),frL V]/\S.length<=100/\T.length<=100/\(∀t∈O,t.2<if t.1=true then T.length else S.length)/\P (.tup [frL (mcQ S.length T.length O V).1,frL (mcQ S.length T.length O V).2])
theorem qpj_ {O:List Tn} {V:List Rat} {i:Nat} {d:D} (h:(zipD (O.map tnQ) (V.map frD))[i]?=some d):∃x,(O.zip V)[i]?=some x/\x.1∈O/\d= .tup [tnQ x.1,frD x.2]:=by
 obtain ⟨x,y,h1,h2,rfl⟩:=qef_ h
 obtain ⟨t,e1,rfl⟩:=qq_ h1
 obtain ⟨q,e2,rfl⟩:=qq_ h2
 exact ⟨(t,q),List.getElem?_zip_eq_some.mpr ⟨e1,e2⟩,List.mem_of_getElem? e1,rfl⟩
abbrev qbc_:Stmt:=top 41
theorem sc_made_and_chosen:FnScope ["plan","order","so_far","made","choice","turn","q"] ["plan","order","so_far"] (qe_ qbc_):=⟨rfl,rfl,rfl,by decide+kernel,rfl,by decide+kernel,by decide+kernel⟩
theorem h_made_and_chosen (B:Bl mg) (F:Def K mg "made_and_chosen" qbc_ ["plan","order","so_far"]) (C_ZERO:Zero4 K mg):Has P w K mg base CX0 1 "made_and_chosen" ["plan","order","so_far"] (spW K (pur gMC)):=by
 refine F.hasP sc_made_and_chosen (λds P h=>by obtain ⟨_,_,_,_,_,rfl,_⟩:=h;rfl) λf cdv A outer s H E hr=>?_
 have nd:=sc_made_and_chosen.nd
 refine ⟨_,(qc_ (qc8_ (k:=3) nd rfl (Or.inl rfl) ["pair"] [none] ⟨rfl,by decide+kernel,by decide+kernel,rfl,rfl,by intro i x j _ h;exact absurd h (by rcases i with _|_|_|i<;>simp)⟩ rfl (qr_ (qh_ 0 qd_)) (λ_ _ _ _ _=>(qg_ (i:=0) (show List.Nodup [("pair":Str)] by decide+kernel) rfl (Or.inl rfl))) (λ_ _ _ _ _=>q4_) (λ_ _ _ _ _=>(qbr_ C_ZERO rfl)))
  (qc_ (qc8_ (k:=4) nd rfl (Or.inl rfl) ["pair"] [none] ⟨rfl,by decide+kernel,by decide+kernel,rfl,rfl,by intro i x j _ h;exact absurd h (by rcases i with _|_|_|i<;>simp)⟩ rfl (qr_ (qh_ 0 qd_)) (λ_ _ _ _ _=>(qg_ (i:=0) (show List.Nodup [("pair":Str)] by decide+kernel) rfl (Or.inl rfl))) (λ_ _ _ _ _=>q4_) (λ_ _ _ _ _=>(qbr_ C_ZERO rfl)))
  (qc_ (qbm_ PassesOwn.never rfl (qgp_ rfl B.zip (qa_ (jv 1) (qa_ (jv 2) qb_))) (qba_ (n:=2) rfl (qj_ (qg_ (i:=5) nd rfl (Or.inl rfl)) (qj_ (qg_ (i:=6) nd rfl (Or.inl rfl)) qy_)))
  (qf_ (qcd_ (qgc_ hr (qh_ 5 qd_) qdf_) (qf_ (qen_ 3 (jv 6) (qh_ 5 qd_))) (qf_ (qen_ 4 (jv 6) (qh_ 5 qd_))))))
  (qf_ (qn_ (q7_ (qa_ (jv 3) (qa_ (jv 4) qb_)))))))),?_⟩
 rintro ds M Q ⟨S,T,Z,O,V,rfl,lS,lT,hO,q⟩
 refine ⟨λj out ρ M2=>M2=M/\out=List.replicate j (frD 0)/\∃o,ρ=[o],⟨rfl,rfl,_,rfl⟩,?_,?_⟩
 ·rintro j d out ρ M2 hd ⟨rfl,rfl,o,rfl⟩
  have hj:=(List.getElem?_eq_some_iff.mp hd).1
  have hj:j<(S.map bQ).length:=hj
  rw [List.length_map] at hj
  exact ⟨by rw [List.length_replicate];exact qi_ (by omega),rfl,by rw [List.replicate_succ'],.sh d,rfl⟩
 rintro out1 ρ M2 ⟨rfl,h1,o,rfl⟩
 have h1:out1=List.replicate (S.map bQ).length (frD 0):=h1
 rw [List.length_map] at h1
 refine ⟨λj out ρ M3=>M3=M2/\out=List.replicate j (frD 0)/\∃o,ρ=[o],⟨rfl,rfl,_,rfl⟩,?_,?_⟩
 ·rintro j d out ρ M3 hd ⟨rfl,rfl,o,rfl⟩
  have hj:=(List.getElem?_eq_some_iff.mp hd).1
  have hj:j<(T.map bQ).length:=hj
  rw [List.length_map] at hj
  exact ⟨by rw [List.length_replicate];exact qi_ (by omega),rfl,by rw [List.replicate_succ'],.sh d,rfl⟩
 rintro out2 ρ M3 ⟨rfl,h2,o,rfl⟩
 have h2:out2=List.replicate (T.map bQ).length (frD 0):=h2
 rw [List.length_map] at h2
 subst h1 h2
 refine ⟨λi ρ M'=>M'=M3/\∃o5 o6:Ent,ρ=[.sh (q9_ S T Z),.sh (.lst (O.map tnQ)),.sh (frL V),.ow ((((O.zip V).take i).foldl putV (List.replicate S.length 0,List.replicate T.length 0)).1.map frD),.ow ((((O.zip V).take i).foldl putV (List.replicate S.length 0,List.replicate T.length 0)).2.map frD),o5,o6],⟨rfl,.un,.un,?_⟩,?_,?_⟩
 ·rw [List.take_zero,List.foldl_nil,List.map_replicate,List.map_replicate];rfl
 ·rintro i d ρ M' hd ⟨rfl,o5,o6,rfl⟩
  obtain ⟨⟨⟨b,k⟩,v⟩,hx,xO,rfl⟩:=qpj_ hd
  have hk:=hO _ xO
  have e:((O.zip V).take (i+1)).foldl putV (List.replicate S.length 0,List.replicate T.length 0)=putV (((O.zip V).take i).foldl putV (List.replicate S.length 0,List.replicate T.length 0)) ((b,k),v):=qdu_ hx
  have l:(((O.zip V).take i).foldl putV (List.replicate S.length 0,List.replicate T.length 0)).1.length=S.length/\(((O.zip V).take i).foldl putV (List.replicate S.length 0,List.replicate T.length 0)).2.length=T.length:=by
   have:=qfv_ S.length T.length (O.take i) (V.take i)
   unfold mcQ at this
   rw [List.zip_eq_zipWith,<-List.take_zipWith,<-List.zip_eq_zipWith] at this
   exact this
  generalize ((O.zip V).take i).foldl putV (List.replicate S.length 0,List.replicate T.length 0)=mc at l e
  refine ⟨rfl,Nat.zero_le _,?_⟩
  cases b with
  |true=>
   have hk:k<T.length:=hk
   have ei:ixN (mc.2.map frD).length (k:Int)=some k:=qht_ (by rw [List.length_map,l.2];exact hk)
   show if peq (D.str "shim") (D.str "size")=true then _ else _
   refine iteN (by decide+kernel) ?_
   refine ⟨trivial,?_⟩
   show match ixN (mc.2.map frD).length (k:Int) with|some n=>_|none=>False
   rw [ei]
   refine ⟨rfl,.sh (tnQ (true,k)),.sh (frD v),?_⟩
   rw [e]
   show _=[_,_,_,Ent.ow (mc.1.map frD),Ent.ow ((mc.2.set k v).map frD),_,_]
   rw [List.map_set];rfl
  |false=>
   have hk:k<S.length:=hk
   have ei:ixN (mc.1.map frD).length (k:Int)=some k:=qht_ (by rw [List.length_map,l.1];exact hk)
   show if peq (D.str "size") (D.str "size")=true then _ else _
   refine iteB (λ_=>?_) (λh=>absurd h (by decide+kernel))
   refine ⟨trivial,?_⟩
   show match ixN (mc.1.map frD).length (k:Int) with|some n=>_|none=>False
   rw [ei]
   refine ⟨rfl,.sh (tnQ (false,k)),.sh (frD v),?_⟩
   rw [e]
   show _=[_,_,_,Ent.ow ((mc.1.set k v).map frD),Ent.ow (mc.2.map frD),_,_]
   rw [List.map_set];rfl
 ·rintro ρ M' ⟨rfl,o5,o6,rfl⟩
  have e:(zipD (O.map tnQ) (V.map frD)).length=(O.zip V).length:=by rw [qcf_,List.length_map,List.length_map,List.length_zip]
  rw [e,List.take_length]
  exact ⟨by show 2<=sizeLine;decide,_,Sub.refl _,q⟩
/-! ### makers_worth,choosers_worth,next_worth -/
structure WrOk (S T:List (Rat×Rat)) (R:List ZR) (M C:List Rat) (D E n m:Nat):Prop where
 s:S.length<=10
 lt:T.length<=10
 l:R.length<=100
 d0:D≠0
 sD:Sm n (D:Int)
 e0:E≠0
 sE:Sm m (E:Int)
 hn:n<=201
 hm:m<=1300
 r:∀z∈R,RowW S.length T.length D n z
 bs:∀x∈S,Wh 6 6 x.1/\Wh 6 6 x.2
 bt:∀x∈T,Wh D n x.1/\Wh D n x.2
 wM:∀q∈M,Wh E m q
 wC:∀q∈C,Wh E m q
theorem qkm_ {s t D E n m:Nat} {z:ZR} {M C:List Rat} (d0:D≠0) (sD:Sm n (D:Int)) (e0:E≠0) (sE:Sm m (E:Int)) (r:RowW s t D n z) (wM:∀q∈M,Wh E m q) (wC:∀q∈C,Wh E m q) (hs:s<=20) (ht:t<=20) (hb:n+m<=4300):DwOk D E n m z M C:=⟨⟨d0,e0,sD,sE,r.a,wM,by rw [r.s];exact hs,hb⟩,⟨d0,e0,sD,sE,r.b,wC,by rw [r.t];exact ht,hb⟩,r.c⟩
def qf0_ (S:List (Rat×Rat)) (k:Nat) (M C:List Rat) (z:ZR):Bool:=decide (qk_ (spQ k (endQ (aAt k z) (S.getD k (0,0))) z) M C<0)
def mkQ (S:List (Rat×Rat)) (R:List ZR) (k:Nat) (M C:List Rat):Option Rat:=(R.find? (qf0_ S k M C)).map λz=>endQ (aAt k z) (S.getD k (0,0))
def mcD (M C:List Rat):D:= .tup [frL M,frL C]
def gMW:List D->(Option D->Prop)->Prop:=λds P=>∃(S T:List (Rat×Rat)) (Z R:List ZR) (k:Nat) (M C:List Rat) (D E n m:Nat),ds=[q9_ S T Z,.lst (R.map zQ),.int k,mcD M C]/\WrOk S T R M C D E n m/\k<S.length/\P ((mkQ S R k M C).map frD)
abbrev qbv_:Stmt:=top 42
theorem sc_makers_worth:FnScope ["plan","rows","k","told","row","end"] ["plan","rows","k","told"] (qe_ qbv_):=⟨rfl,rfl,rfl,by decide+kernel,rfl,by decide+kernel,by decide+kernel⟩
theorem h_makers_worth (B:Bl mg) (F:Def K mg "makers_worth" qbv_ ["plan","rows","k","told"]) (XC:ExC K mg "NoChoice") (F_worst_end:Has P w K mg base CX0 2 "worst_end" ["q","pair"] (spW K (pur gWE))) (F_below:qe3_ P w K mg base) (F_demand_worth:Has P w K mg base CX0 5 "demand_worth" ["demand","made","choice"] (spW K (pur gDW))) (F_size_put:Has P w K mg base CX0 4 "size_put" ["row","k","q"] (spW K (pur gSP))) (C_ZERO:Zero4 K mg):Has P w K mg base (CX1 P w) 6 "makers_worth" ["plan","rows","k","told"] (spE K (cOf mg "NoChoice") gMW):=by
 refine qqd_ F sc_makers_worth (λds P h=>by obtain ⟨_,_,_,_,_,_,_,_,_,_,_,rfl,_⟩:=h;rfl) λf cdv A outer s H E Z0 F0 M0 ds Q hr h hx=>?_
 have nd:=sc_makers_worth.nd
 refine ⟨_,(qbk_ (qhe_ (qeg_ (qbm_ PassesOwn.never rfl (qr_ (jv 1)) (qg_ (i:=4) nd rfl (Or.inl rfl))
  (qc_ (qp_ (i:=5) nd rfl (Or.inl rfl) (j_h F_worst_end (hr.mono (by decide)) rfl (qa_ (j_at (qh_ 4 qd_) (jv 2)) (qa_ (j_at (qh_ 0 qd_) (jv 2)) qb_))))
  (qf_ (qcd_ (jt (j_h F_below (hr.mono (by decide)) rfl (qa_ (j_h F_demand_worth (hr.mono (by decide)) rfl (qa_ (j_h F_size_put (hr.mono (by decide)) rfl (qa_ (jv 4) (qa_ (jv 2) (qa_ (jv 5) qb_)))) (qa_ (qh_ 3 qd_) (qa_ (qh_ 3 qd_) qb_)))) (qa_ (qbr_ C_ZERO rfl) qb_)))) (qf_ (qn_ (jv 5))) qx_))))))
  (qfy_ (qg9_ hx qh8_ rfl XC.m XC.q))),?_⟩
 obtain ⟨S,T,Z,R,k,M,C,D,E,n,m,rfl,ok,hk,q⟩:=h
 have lR:=ok.l
 have hn:=ok.hn
 have hm:=ok.hm
 have lS:=ok.s
 have lT:=ok.lt
 have d6:D*D*6≠0:=Nat.mul_ne_zero (Nat.mul_ne_zero ok.d0 ok.d0) (by decide)
 have s6:Sm (2*n+7) ((D*D*6:Nat):Int):=by
  rw [Int.natCast_mul,Int.natCast_mul]
  exact ((ok.sD.mul ok.sD).mul (show Sm 3 ((6:Nat):Int) by unfold Sm;decide)).mono (by omega)
 refine ⟨λi ρ M'=>M'=M0/\(∀z∈R.take i,qf0_ S k M C z=false)/\∃o4 o5:Ent,ρ=[.sh (q9_ S T Z),.sh (.lst (R.map zQ)),.sh (.int k),.sh (mcD M C),o4,o5],⟨rfl,by simp,_,_,rfl⟩,?_,?_⟩
 ·rintro i d ρ M' hd ⟨rfl,hno,o4,o5,rfl⟩
  obtain ⟨z,hz,rfl⟩:=qq_ hd
  have rz:=ok.r z (List.mem_of_getElem? hz)
  have kz:k<z.1.length:=by rw [rz.s];exact hk
  have sa:SmR n (aAt k z):=(rz.a _ (q6_ kz)).smr ok.d0 ok.sD
  have we:=qkd_ (q:=aAt k z) ok.bs hk
  have rp:=sp_w ok.d0 ok.sD rz hk we
  have dw:=qkm_ (M:=M) (C:=C) d6 s6 ok.e0 ok.sE rp ok.wM ok.wC (by omega) (by omega) (by omega)
  refine RIx.frl kz (RIx.get (qkr_ hk) ⟨_,_,rfl,sa.mono (by omega),?_⟩)
  refine ⟨z,k,_,rfl,kz,Mx.of sa (sm6 we) (by omega),Mx.of (rz.c.smr ok.d0 ok.sD) (qcc_ sa (sm6 we)) (by omega),?_⟩
  refine ⟨_,M,C,_,_,_,_,rfl,dw,_,0,rfl,Mx.of dw.s sm0 (by omega),?_⟩
  show if qf0_ S k M C z=true then _ else _
  refine iteB (λc=>?_) (λc=>?_)
  ·have e:mkQ S R k M C=some (endQ (aAt k z) (S.getD k (0,0))):=by
    unfold mkQ
    have:R.find? (qf0_ S k M C)=some z:=by
     refine List.find?_eq_some_iff_getElem.mpr ⟨c,i,(List.getElem?_eq_some_iff.mp hz).1,(List.getElem?_eq_some_iff.mp hz).2,λj hj=>?_⟩
     have hi:=(List.getElem?_eq_some_iff.mp hz).1
     have:=hno R[j] (List.mem_take_iff_getElem.mpr ⟨j,by omega,rfl⟩)
     rw [this];rfl
    rw [this];rfl
   rw [e] at q
   exact ⟨Sub.refl _,q⟩
  ·refine ⟨rfl,λy hy=>?_,.sh (zQ z),.sh _,rfl⟩
   rw [List.take_add_one,hz,Option.toList_some] at hy
   rcases List.mem_append.mp hy with hy|hy
   ·exact hno y hy
   ·rw [List.mem_singleton.mp hy];exact c
 ·rintro ρ M' ⟨rfl,hno,o4,o5,rfl⟩
  rw [List.length_map,List.take_length] at hno
  have e:mkQ S R k M C=none:=by
   unfold mkQ
   have:R.find? (qf0_ S k M C)=none:=List.find?_eq_none.mpr λz hz=>by rw [hno z hz];decide
   rw [this];rfl
  rw [e] at q
  exact ⟨Sub.refl _,q⟩
def qmo_ (S T:List (Rat×Rat)) (R:List ZR) (k:Nat) (M C:List Rat):Bool:=(R++ownR S T k).any λz=>decide (qk_ z M (C.set k (qcv_ S T R k M C))<0)
def chsQ (S T:List (Rat×Rat)) (R:List ZR) (k:Nat) (M C:List Rat):Option Rat:=if qmo_ S T R k M C then none else some (qcv_ S T R k M C)
def gCW:List D->(Option D->Prop)->Prop:=λds P=>∃(S T:List (Rat×Rat)) (Z R:List ZR) (k:Nat) (M C:List Rat) (D E n m:Nat),ds=[q9_ S T Z,.lst (R.map zQ),.int k,mcD M C]/\WrOk S T R M C D E n m/\k<T.length/\C.length=T.length/\P ((chsQ S T R k M C).map frD)
theorem qmu_ {S T:List (Rat×Rat)} {R:List ZR} {k D E n m:Nat} {M C:List Rat} (ok:WrOk S T R M C D E n m) (hk:k<T.length):∃B:Nat,B≠0/\Sm n (B:Int)/\Wh (E*B) (n+m+22) (qcv_ S T R k M C):=by
 have hm:=ok.hm
 have hn:=ok.hn
 have ne:=qim_ (S:=S) (R:=R) hk
 have mm:=qin_ (l:=(qz_ k (R++ownR S T k)).map (llQ k M C)) λe=>ne (List.map_eq_nil_iff.mp e)
 obtain ⟨z,hz,e⟩:=List.mem_map.mp mm
 obtain ⟨zr,zb⟩:=List.mem_filter.mp hz
 have rz:RowW S.length T.length D n z:=(List.mem_append.mp zr).elim (ok.r z) (qlk_ ok.d0 ok.sD ok.bt hk z)
 have lo:LLOk D E n m k z M C:=⟨qkm_ ok.d0 ok.sD ok.e0 ok.sE rz ok.wM ok.wC (by have:=ok.s;omega) (by have:=ok.lt;omega) (by omega),by rw [rz.t];exact hk,λe=>by rw [e] at zb;exact absurd zb (by decide+kernel)⟩
 obtain ⟨B,b0,sB,wB⟩:=qs2_ lo
 unfold qcv_
 rw [<-e]
 exact ⟨B,b0,sB,wB⟩
abbrev qbh_:Stmt:=top 43
theorem sc_choosers_worth:FnScope ["plan","rows","k","told","asked","lows","least","choice"] ["plan","rows","k","told"] (qe_ qbh_):=⟨rfl,rfl,rfl,by decide+kernel,rfl,by decide+kernel,by decide+kernel⟩
theorem h_choosers_worth (B:Bl mg) (F:Def K mg "choosers_worth" qbh_ ["plan","rows","k","told"]) (XC:ExC K mg "NoChoice") (F_own_rows:Has P w K mg base CX0 4 "own_rows" ["plan","k"] (spW K (pur gOwn))) (F_below:qe3_ P w K mg base) (F_greatest_of:Has P w K mg base CX0 2 "greatest_of" ["fractions"] (spW K (pur gGr))) (F_least_let:Has P w K mg base CX0 6 "least_let" ["low","k","made","others"] (spW K (pur gLL))) (F_demand_worth:Has P w K mg base CX0 5 "demand_worth" ["demand","made","choice"] (spW K (pur gDW))) (C_ZERO:Zero4 K mg):Has P w K mg base (CX1 P w) 7 "choosers_worth" ["plan","rows","k","told"] (spE K (cOf mg "NoChoice") gCW):=by
 refine qqd_ F sc_choosers_worth (λds P h=>by obtain ⟨_,_,_,_,_,_,_,_,_,_,_,rfl,_⟩:=h;rfl) λf cdv A outer s H E Z0 F0 M0 ds Q hr h hx=>?_
 have nd:=sc_choosers_worth.nd
 refine ⟨_,(qbk_ (qhe_ (qeg_ (qp_ (i:=4) nd rfl (Or.inl rfl) (j_fz (qdk_ (jv 1) (j_h F_own_rows (hr.mono (by decide)) rfl (qa_ (jv 0) (qa_ (jv 2) qb_))))))))
  (qbk_ (qhe_ (qeg_ (qfd_ (k:=5) nd rfl (Or.inl rfl) ["row","k"] [none,some 2] ⟨rfl,by decide+kernel,by decide+kernel,rfl,rfl,q3_ rfl⟩ rfl (qr_ (jv 4)) (λ_ _ _ _ _=>(qg_ (i:=0) (show List.Nodup [("row":Str),("k":Str)] by decide+kernel) rfl (Or.inl rfl))) (λ_ _ _ _ _=>(qfz_ (jt (j_h F_below (hr.mono (by decide)) rfl (qa_ (qbr_ C_ZERO rfl) (qa_ (j_at (qh_ 0 qd_) (jv 1)) qb_)))))) (λ_ _ _ _ _=>(jv 0)))))
  (qbk_ (qhe_ (qeg_ (qp_ (i:=6) nd rfl (Or.inl rfl) (j_h F_greatest_of (hr.mono (by decide)) rfl (qa_ (j_fz (qc7_ ["row","k","told"] [none,some 2,some 3] ⟨rfl,by decide+kernel,by decide+kernel,rfl,rfl,q3_ rfl⟩ rfl (qr_ (jv 5)) (λ_ _ _ _ _=>(qg_ (i:=0) (show List.Nodup [("row":Str),("k":Str),("told":Str)] by decide+kernel) rfl (Or.inl rfl))) (λ_ _ _ _ _=>q4_) (λ_ _ _ _ _=>(j_h F_least_let (hr.mono (by decide)) rfl (qa_ (jv 0) (qa_ (jv 1) (qa_ (qh_ 2 qd_) (qa_ (qh_ 2 qd_) qb_)))))))) qb_)))))
  (qbk_ (qhe_ (qeg_ (qfg_ (i:=7) nd rfl (Or.inr rfl) (qe2_ (qih_ (qbd_ rfl B.list (qa_ (qh_ 3 qd_) qb_)))))))
  (qbk_ (qhe_ (qeg_ (qmj_ 7 (ju_d (jv 6)) (jv 2))))
  (qbk_ (qp3_ (qlm_ (qs8_ 7 (jt (qti_ rfl B.any rfl (qa_ (j_fz (qc7_ ["row","choice","told"] [none,some 7,some 3] ⟨rfl,by decide+kernel,by decide+kernel,rfl,rfl,q3_ rfl⟩ rfl (qr_ (jv 4)) (λ_ _ _ _ _=>(qg_ (i:=0) (show List.Nodup [("row":Str),("choice":Str),("told":Str)] by decide+kernel) rfl (Or.inl rfl))) (λ_ _ _ _ _=>q4_) (λ_ _ _ _ _=>(j_h F_below (hr.mono (by decide)) rfl (qa_ (j_h F_demand_worth (hr.mono (by decide)) rfl (qa_ (jv 0) (qa_ (qh_ 2 qd_) (qa_ (jv 1) qb_)))) (qa_ (qbr_ C_ZERO rfl) qb_)))))) qb_))))) (qfy_ (qg9_ hx qh8_ rfl XC.m XC.q)) (qjc_ (qgx_ qx_)))
  (qjc_ (qgx_ (qf_ (qn_ (jv 6))))))))))),?_⟩
 obtain ⟨S,T,Z,R,k,M,C,D,E,n,m,rfl,ok,hk,lC,q⟩:=h
 have lR:=ok.l
 have hn:=ok.hn
 have hm:=ok.hm
 have lS:=ok.s
 have lT:=ok.lt
 have l2:(ownR S T k).length=2:=rfl
 have rr:∀z∈R++ownR S T k,RowW S.length T.length D n z:=λz hz=>(List.mem_append.mp hz).elim (ok.r z) (qlk_ ok.d0 ok.sD ok.bt hk z)
 have ne:=qim_ (S:=S) (R:=R) hk
 obtain ⟨B0,b0,sB,wB⟩:=qmu_ ok hk
 have lA:(R++ownR S T k).length<=102:=by rw [List.length_append,l2];omega
 unfold chsQ qmo_ at q
 refine ⟨S,T,Z,k,rfl,by omega,by omega,hk,by rw [List.length_map,List.length_map,l2];exact Nat.le_of_lt (qi_ (by omega)),?_⟩
 rw [<-List.map_append]
 unfold qcv_ at wB q
 generalize R++ownR S T k=A at rr ne wB lA q
 have bk:∀z∈A,k<z.2.1.length/\SmR n (bAt k z):=λz hz=>⟨by rw [(rr z hz).t];exact hk,((rr z hz).b _ (q6_ (by rw [(rr z hz).t];exact hk))).smr ok.d0 ok.sD⟩
  -- lows
 refine ⟨λi out ρ M'=>M'=M0/\out=((A.take i).filter λz=>decide (0<bAt k z)).map zQ/\∃o,ρ=[o,.sh (.int k)],⟨rfl,rfl,_,rfl⟩,?_,?_⟩
 ·rintro i d out ρ M' hd ⟨rfl,rfl,o,rfl⟩
  obtain ⟨z,hz,rfl⟩:=qq_ hd
  obtain ⟨k1,k2⟩:=bk z (List.mem_of_getElem? hz)
  have hi:=(List.getElem?_eq_some_iff.mp hz).1
  refine RIx.frl k1 ⟨0,bAt k z,rfl,Mx.of sm0 k2 (by omega),?_⟩
  have fl:=List.length_filter_le (λz=>decide (0<bAt k z)) (A.take i)
  rw [List.length_take] at fl
  refine iteB (λc=>⟨by rw [List.length_map];exact qi_ (by omega),rfl,?_,.sh (zQ z),rfl⟩) (λc=>⟨rfl,?_,.sh (zQ z),rfl⟩)
  ·rw [qs_ hz,if_pos c,List.map_append];rfl
  ·rw [qs_ hz,if_neg (by rw [c];exact Bool.false_ne_true),List.append_nil]
 rintro out ρ M' ⟨rfl,h1,o,rfl⟩
 have h1:out=((A.take (A.map zQ).length).filter λz=>decide (0<bAt k z)).map zQ:=h1
 rw [List.length_map,List.take_length] at h1
 have h1:out=(qz_ k A).map zQ:=h1
 subst h1
 have ln:(qz_ k A).length<=102:=Nat.le_trans (List.length_filter_le _ _) lA
 have lo:∀z∈qz_ k A,LLOk D E n m k z M C:=λz hz=>by
  obtain ⟨zr,zb⟩:=List.mem_filter.mp hz
  exact ⟨qkm_ ok.d0 ok.sD ok.e0 ok.sE (rr z zr) ok.wM ok.wC (by omega) (by omega) (by omega),by rw [(rr z zr).t];exact hk,λe=>by rw [e] at zb;exact absurd zb (by decide+kernel)⟩
  -- what they let
 refine ⟨λi out ρ M2=>M2=M'/\out=((qz_ k A).take i).map (λz=>frD (llQ k M C z))/\∃o,ρ=[o,.sh (.int k),.sh (mcD M C)],⟨rfl,rfl,_,rfl⟩,?_,?_⟩
 ·rintro j d out ρ M2 hd ⟨rfl,rfl,o,rfl⟩
  obtain ⟨z,hz,rfl⟩:=qq_ hd
  have hj:=(List.getElem?_eq_some_iff.mp hz).1
  exact ⟨z,k,M,C,_,_,_,_,rfl,lo z (List.mem_of_getElem? hz),by rw [List.length_map,List.length_take];exact qi_ (by omega),rfl,q1_ (f:=λz=>frD (llQ k M C z)) hz,.sh (zQ z),rfl⟩
 rintro out ρ M2 ⟨rfl,h1,o,rfl⟩
 have h1:out=((qz_ k A).take ((qz_ k A).map zQ).length).map (λz=>frD (llQ k M C z)):=h1
 rw [List.length_map,List.take_length] at h1
 have e1:((qz_ k A).map (λz=>frD (llQ k M C z)))=((qz_ k A).map (llQ k M C)).map frD:=by rw [List.map_map];rfl
 rw [e1] at h1
 subst h1
 have ss:∀x∈(qz_ k A).map (llQ k M C),SmR (n+m+22) x:=λx hx=>by
  obtain ⟨z,hz,rfl⟩:=List.mem_map.mp hx
  obtain ⟨B,B1,sB1,wB1⟩:=qs2_ (lo z hz)
  refine wB1.smr (Nat.mul_ne_zero ok.e0 B1) ?_
  rw [Int.natCast_mul]
  exact (ok.sE.mul sB1).mono (by omega)
 have ne':(qz_ k A).map (llQ k M C)≠[]:=λe=>ne (List.map_eq_nil_iff.mp e)
 obtain ⟨q1,qs,el⟩:=List.exists_cons_of_ne_nil ne'
 have eb:grQ q1 (q1::qs)=qik_ ((qz_ k A).map (llQ k M C)):=by rw [el];rfl
 refine ⟨q1,qs,_,by rw [el],by rw [<-el];exact ss,by omega,?_⟩
 rw [eb]
 generalize hL:qik_ ((qz_ k A).map (llQ k M C))=L at wB q
 intro p hp
 have ei:ixN ((C.map frD).map U.d).length (k:Int)=some k:=qht_ (by rw [List.length_map,List.length_map,lC];exact hk)
 refine ⟨_,k,qm_,ei,?_⟩
 have es:((C.map frD).map U.d).set k (.d (frD L))=((C.set k L).map frD).map U.d:=by rw [List.map_set,List.map_set]
 rw [qcb_,es]
 have E1:E*B0≠0:=Nat.mul_ne_zero ok.e0 b0
 have SE1:Sm (n+m+22) ((E*B0:Nat):Int):=by rw [Int.natCast_mul];exact (ok.sE.mul sB).mono (by omega)
 have up:∀q,Wh E m q->Wh (E*B0) (n+m+22) q:=λq h=>(h.up B0 b0 sB).mono (by omega)
 have wC2:∀q∈C.set k L,Wh (E*B0) (n+m+22) q:=λq hq=>by
  rcases List.mem_or_eq_of_mem_set hq with h|h
  ·exact up q (ok.wC q h)
  ·rw [h];exact wB
 refine ⟨frL (C.set k L),[p],qfe_ qm_,λi out ρ M3=>M3=(λ_=>none)/\out=((A.take i).map λz=>decide (qk_ z M (C.set k L)<0)).map L3.D.bl/\∃o,ρ=[o,.sh (frL (C.set k L)),.sh (mcD M C)],⟨rfl,rfl,_,rfl⟩,?_,?_⟩
 ·rintro i d out ρ M3 hd ⟨rfl,rfl,o,rfl⟩
  obtain ⟨z,hz,rfl⟩:=qq_ hd
  have hi:=(List.getElem?_eq_some_iff.mp hz).1
  have dw:=qkm_ (M:=M) (C:=C.set k L) ok.d0 ok.sD E1 SE1 (rr z (List.mem_of_getElem? hz)) (λq hq=>up q (ok.wM q hq)) wC2 (by omega) (by omega) (by omega)
  refine ⟨z,M,C.set k L,_,_,_,_,rfl,dw,_,0,rfl,Mx.of dw.s sm0 (by omega),by rw [List.length_map,List.length_map,List.length_take];exact qi_ (by omega),rfl,?_,.sh (zQ z),rfl⟩
  rw [List.take_add_one,hz,Option.toList_some,List.map_append,List.map_append];rfl
 rintro out ρ M3 ⟨rfl,h1,o,rfl⟩
 have h1:out=((A.take (A.map zQ).length).map λz=>decide (qk_ z M (C.set k L)<0)).map L3.D.bl:=h1
 rw [List.length_map,List.take_length] at h1
 subst h1
 show match bls ((A.map λz=>decide (qk_ z M (C.set k L)<0)).map L3.D.bl) with|some bs=>_|none=>False
 rw [qgr_]
 have ea:(A.map λz=>decide (qk_ z M (C.set k L)<0)).any id=A.any λz=>decide (qk_ z M (C.set k L)<0):=by rw [List.any_map];rfl
 show if (A.map λz=>decide (qk_ z M (C.set k L)<0)).any id=true then _ else _
 rw [ea]
 refine iteB (λc=>?_) (λc=>?_)
 ·rw [c,if_pos rfl] at q
  exact ⟨(Sub.refl M2).mset hp,q⟩
 ·rw [c,if_neg Bool.false_ne_true] at q
  exact ⟨(Sub.refl M2).mset hp,q⟩
def qd4_ (S T:List (Rat×Rat)) (Z:List ZR) (O:List Tn) (V:List Rat):Option Rat:=match O[V.length]? with
 |none=>none
 |some t=>if t.1=true then chsQ S T (qbn_ S T Z (O.drop (V.length+1))) t.2 (mcQ S.length T.length O V).1 (mcQ S.length T.length O V).2 else mkQ S (qbn_ S T Z (O.drop (V.length+1))) t.2 (mcQ S.length T.length O V).1 (mcQ S.length T.length O V).2
def Vals69 (m:Nat) (V:List Rat):Prop:=∃E:Nat,E≠0/\Sm m (E:Int)/\∀q∈V,Wh E m q
def gNW:List D->(Option D->Prop)->Prop:=λds P=>∃(S T:List (Rat×Rat)) (Z:List ZR) (O:List Tn) (V:List Rat),ds=[q9_ S T Z,.lst (O.map tnQ),frL V]/\PlO S T Z/\OrdO S T O/\Vals69 1300 V/\P ((qd4_ S T Z O V).map frD)
theorem qur_ {S T:List (Rat×Rat)} {Z:List ZR} {O:List Tn} {V:List Rat} {E m:Nat} (pl:PlO S T Z) (od:OrdO S T O) (hp:V.length<O.length) (e0:E≠0) (sE:Sm m (E:Int)) (hm:m<=1300) (wV:∀q∈V,Wh E m q):WrOk S T (qbn_ S T Z (O.drop (V.length+1))) (mcQ S.length T.length O V).1 (mcQ S.length T.length O V).2 (botO (O.drop (V.length+1)).length) E (bitO (O.drop (V.length+1)).length) m:=by
 have l:=od.l
 have lS:=pl.s
 have lT:=pl.t
 have od2:=od.drop (V.length+1)
 have l2:(O.drop (V.length+1)).length<=4:=by rw [List.length_drop];omega
 obtain ⟨d0,sD⟩:=qka_ (O.drop (V.length+1)).length
 have cl:=(qlw_ od2.n pl.t).1
 have w:=qmi_ (s:=S.length) (t:=T.length) (O:=O) (p:=λq=>Wh E m q) (qic_ _ _) wV
 exact ⟨by omega,by omega,Nat.le_trans (qf1_ pl _) (by omega),d0,sD,e0,sE,(qis_ (i:=(O.drop (V.length+1)).length) (by omega)).2 l2,hm,qhh_ pl _ od2,λx hx=>⟨(pl.bs x hx).1,(pl.bs x hx).2.1⟩,qnk_ (λx hx=>⟨(pl.bt x hx).1,(pl.bt x hx).2.1⟩) _,w.1,w.2⟩
abbrev qcj_:Stmt:=top 44
theorem sc_next_worth:FnScope ["plan","order","so_far","place","rows","told"] ["plan","order","so_far"] (qe_ qcj_):=⟨rfl,rfl,rfl,by decide+kernel,rfl,by decide+kernel,by decide+kernel⟩
theorem h_next_worth (B:Bl mg) (F:Def K mg "next_worth" qcj_ ["plan","order","so_far"]) (XC:ExC K mg "NoChoice") (F_rows_at:Has P w K mg base CX0 8 "rows_at" ["plan","order","place"] (spW K (pur gRA))) (F_made_and_chosen:Has P w K mg base CX0 1 "made_and_chosen" ["plan","order","so_far"] (spW K (pur gMC))) (F_makers_worth:Has P w K mg base (CX1 P w) 6 "makers_worth" ["plan","rows","k","told"] (spE K (cOf mg "NoChoice") gMW)) (F_choosers_worth:Has P w K mg base (CX1 P w) 7 "choosers_worth" ["plan","rows","k","told"] (spE K (cOf mg "NoChoice") gCW)):Has P w K mg base (CX1 P w) 9 "next_worth" ["plan","order","so_far"] (spE K (cOf mg "NoChoice") gNW):=by
  refine qqd_ F sc_next_worth (fun ds P h=>by obtain ⟨_,_,_,_,_,rfl,_⟩:=h;rfl) fun f cdv A outer s H E Z0 F0 M0 ds Q hr h hx=>?_
  have nd:=sc_next_worth.nd
  refine ⟨_,(qbk_ (qhe_ (qeg_ (qp_ (i:=3) nd rfl (Or.inl rfl) (qcu_ 2 rfl B.len))))
    (qbk_ (qp3_ (qlm_ (qu5_ (jv 3) (qcu_ 1 rfl B.len))) (qfy_ (qg9_ hx qh8_ rfl XC.m XC.q)) (qjc_ (qgx_ qx_)))
    (qbk_ (qhe_ (qeg_ (qp_ (i:=4) nd rfl (Or.inl rfl) (j_h F_rows_at (hr.mono (by decide)) rfl (qa_ (jv 0) (qa_ (jv 1) (qa_ (qcp_ (jv 3) qd_) qb_)))))))
    (qbk_ (qhe_ (qeg_ (qp_ (i:=5) nd rfl (Or.inl rfl) (j_h F_made_and_chosen (hr.mono (by decide)) rfl (qa_ (jv 0) (qa_ (jv 1) (qa_ (jv 2) qb_)))))))
    (qbk_ (qp3_ (qlm_ (qgc_ hr (j_at (qh_ 1 (jv 3)) qd_) qdf_)) (qfy_ (qo3_ (xe_h F_makers_worth hx qh8_ (hr.mono (by decide)) rfl (qt9_ (qpb_ (qa_ (jv 0) (qa_ (jv 4) (qa_ (j_at (qh_ 1 (jv 3)) qd_) (qa_ (jv 5) qb_))))))))) (qjc_ (qgx_ qx_)))
    (qfy_ (qo3_ (xe_h F_choosers_worth hx qh8_ (hr.mono (by decide)) rfl (qt9_ (qpb_ (qa_ (jv 0) (qa_ (jv 4) (qa_ (j_at (qh_ 1 (jv 3)) qd_) (qa_ (jv 5) qb_)))))))))))))),?_⟩
  obtain ⟨S,T,Z,O,V,rfl,pl,od,⟨E,e0,sE,wV⟩,q⟩:=h
  have lS:=pl.s
  have lT:=pl.t
  show if decide (((O.map tnQ).length:Int)≤((V.map frD).length:Int))=true then _ else _
  rw [List.length_map,List.length_map]
  refine iteB (fun c=>?_) (fun c=>?_)
  · have c : O.length ≤ V.length := by have : (O.length : Int) ≤ (V.length : Int) := by simpa using c
                                       omega
    have e:qd4_ S T Z O V=none:=by unfold qd4_;rw [List.getElem?_eq_none c]
    rw [e] at q
    exact ⟨Sub.refl _,q⟩
  have c : V.length < O.length := by have : ¬ (O.length : Int) ≤ (V.length : Int) := by simpa using c
                                     omega
  have wr:=qur_ pl od c e0 sE (by decide) wV
  have mc:=qfv_ S.length T.length O V
  obtain ⟨⟨b,k⟩,ht⟩:∃t,O[V.length]?=some t:=⟨_,List.getElem?_eq_getElem c⟩
  have hk:=od.k _ (List.mem_of_getElem? ht)
  have ha:(O.map tnQ)[V.length]?=some (tnQ (b,k)):=by rw [List.getElem?_map,ht];rfl
  have et:qd4_ S T Z O V=if b=true then chsQ S T (qbn_ S T Z (O.drop (V.length+1))) k (mcQ S.length T.length O V).1 (mcQ S.length T.length O V).2 else mkQ S (qbn_ S T Z (O.drop (V.length+1))) k (mcQ S.length T.length O V).1 (mcQ S.length T.length O V).2:=by unfold qd4_;rw [ht]
  rw [et] at q
  refine ⟨S,T,Z,O,V.length+1,rfl,pl,od.drop _,?_⟩
  refine ⟨S,T,Z,O,V,rfl,by omega,by omega,od.k,?_⟩
  refine RIx.get ha ⟨Nat.zero_le _,?_⟩
  cases b with
  | true =>
    rw [if_pos rfl] at q
    show if peq (D.str "shim") (D.str "size")=true then _ else _
    refine iteN (by decide+kernel) ?_
    refine RIx.get ha ⟨S,T,Z,_,k,_,_,_,_,_,_,rfl,wr,hk,mc.2,?_⟩
    cases e:chsQ S T (qbn_ S T Z (O.drop (V.length+1))) k (mcQ S.length T.length O V).1 (mcQ S.length T.length O V).2 with
    |none=>rw [e] at q;exact ⟨Sub.refl _,q⟩
    |some x=>rw [e] at q;exact ⟨Sub.refl _,q⟩
  | false =>
    rw [if_neg Bool.false_ne_true] at q
    show if peq (D.str "size") (D.str "size")=true then _ else _
    refine iteY (by decide+kernel) ?_
    refine RIx.get ha ⟨S,T,Z,_,k,_,_,_,_,_,_,rfl,wr,hk,?_⟩
    cases e:mkQ S (qbn_ S T Z (O.drop (V.length+1))) k (mcQ S.length T.length O V).1 (mcQ S.length T.length O V).2 with
    |none=>rw [e] at q;exact ⟨Sub.refl _,q⟩
    |some x=>rw [e] at q;exact ⟨Sub.refl _,q⟩

/-! ### k67's draws -/
def qq9_:List D->(D->Prop)->Prop:=λds P=>∃k:Int,ds=[.int k]/\0<=k/\∀c:Int,P (.int c)
abbrev qb1_:Stmt:=top 46
theorem sc_law_cell_at:FnScope ["script","k"] ["script","k"] (qe_ qb1_):=⟨rfl,rfl,rfl,by decide+kernel,rfl,by decide+kernel,by decide+kernel⟩
theorem h__law_cell_at (B:Bl mg) (F:Def K mg "_law_cell_at" qb1_ ["script","k"]):Has P w K mg base CX0 1 "_law_cell_at" ["script","k"] (spD K (Scr K) qq9_):=by
 refine F.hasD sc_law_cell_at (λds P h=>by obtain ⟨_,rfl,_⟩:=h;rfl) λf cdv A outer s H E hr=>?_
 have nd:=sc_law_cell_at.nd
 refine ⟨_,(qc_ (qcd_ (qlp_ (jv 1) (qt0_ 0 rfl B.len)) (qf_ (qn_ (qvu_ 0 (jv 1)))) qx_)
  (qf_ (qn_ qd_))),?_⟩
 rintro p ds M Q ⟨ns,hS⟩ ⟨k,rfl,k0,q⟩
 refine ⟨ns,hS,?_⟩
 show if decide (k<(ns.length:Int))=true then _ else _
 refine iteB (λc=>?_) (λc=>⟨Sub.refl _,q 0⟩)
 have c':k<(ns.length:Int):=by simpa using c
 have hk:k.toNat<ns.length:=by omega
 have e:atI ns k=some ns[k.toNat]:=by
  unfold atI ixN
  rw [if_pos (by omega),if_pos (by omega)]
  exact List.getElem?_eq_getElem hk
 exact ⟨ns,_,hS,e,Sub.refl _,q _⟩
theorem qbl_ (x:Int) {n:Int} (h:0<n):0<=x.fmod n/\x.fmod n<n:=by
 rw [Int.fmod_eq_emod_of_nonneg _ (by omega)]
 exact ⟨Int.emod_nonneg _ (by omega),Int.emod_lt_of_pos _ h⟩
theorem cdS {i j:Int} (h:0<j) (s:Sm 100 j):qi5_ i j:=⟨by omega,s.mono (by decide)⟩
def gMx7:List D->(D->Prop)->Prop:=λds P=>∃c k:Int,ds=[.int c,.int k]/\0<=k/\k<=1000/\∀r:Int,P (.int r)
abbrev qc4_:Stmt:=top 47
theorem sc_law_mixed:FnScope ["cell","k","number"] ["cell","k"] (qe_ qc4_):=⟨rfl,rfl,rfl,by decide+kernel,rfl,by decide+kernel,by decide+kernel⟩
theorem h__law_mixed (B:Bl mg) (F:Def K mg "_law_mixed" qc4_ ["cell","k"]):Has P w K mg base CX0 1 "_law_mixed" ["cell","k"] (spW K (pur gMx7)):=by
 refine F.hasP sc_law_mixed (λds P h=>by obtain ⟨_,_,rfl,_⟩:=h;rfl) λf cdv A outer s H E hr=>?_
 have nd:=sc_law_mixed.nd
 refine ⟨_,(qc_ (qcd_ (qu5_ (jv 0) (qwc_ qd_ qd_)) (qf_ (qn_ (jv 0))) qx_)
  (qc_ (qp_ (i:=2) nd rfl (Or.inl rfl) (qdj_ (qcp_ (qcp_ (qcp_ (qbq_ (jv 0) qd_) (qbq_ (qbq_ qd_ (jv 1)) (jv 1))) (qbq_ qd_ (jv 1))) qd_) qd_))
  (qc_ (qp_ (i:=2) nd rfl (Or.inl rfl) (qdj_ (qbq_ (jv 2) (jv 2)) qd_))
  (qf_ (qn_ (qcp_ (qcp_ (qbq_ (qbq_ (jv 2) (jv 2)) (jv 2)) (qbq_ qd_ (jv 2))) (jv 1))))))),?_⟩
 rintro ds M Q ⟨c,k,rfl,k0,k1,q⟩
 refine ⟨⟨by decide,by decide,by decide⟩,?_⟩
 refine iteB (λ_=>⟨_,Sub.refl _,q _⟩) (λ_=>?_)
 have P1:=qbl_ (c*48271+7919*k*k+104729*k+17) (n:=2147483647) (by decide)
 refine ⟨.inl (.inr ⟨by decide,by decide⟩),.inl (.inl ⟨by decide,by decide⟩),.inl (.inr ⟨by omega,by omega⟩),.inl (.inl ⟨by decide,by decide⟩),(by decide:(2147483647:Int)≠0),?_⟩
 refine ⟨.inl (.inl ⟨by omega,by omega⟩),(by decide:(2147483629:Int)≠0),?_⟩
 have P2:=qbl_ ((c*48271+7919*k*k+104729*k+17).fmod 2147483647*(c*48271+7919*k*k+104729*k+17).fmod 2147483647) (n:=2147483629) (by decide)
 exact ⟨.inl (.inl ⟨by omega,by omega⟩),.inl (.inr ⟨by omega,by omega⟩),.inl (.inl ⟨by decide,by decide⟩),_,Sub.refl _,q _⟩

/-! ### the law's numbers,plans,orders -/
def gFrP:List D->(D->Prop)->Prop:=λds P=>∃a b:Int,ds=[.int a,.int b]/\0<b/\Sm 9000 b/\P (frD (Rat.divInt a b))
theorem qnd_ (y x:Nat):((y:Int)).fmod (x:Int)=((y % x:Nat):Int):=by
 rw [Int.fmod_eq_emod_of_nonneg _ (by omega),Int.natCast_emod]
abbrev qbw_:Stmt:=top 48
theorem sc_law_fraction:FnScope ["top","bottom","one","other"] ["top","bottom"] (qe_ qbw_):=⟨rfl,rfl,rfl,by decide+kernel,rfl,by decide+kernel,by decide+kernel⟩
theorem h__law_fraction (B:Bl2 mg) (F:Def K mg "_law_fraction" qbw_ ["top","bottom"]):Has P w K mg base CX0 1 "_law_fraction" ["top","bottom"] (spW K (pur gFrP)):=by
 refine F.hasP sc_law_fraction (λds P h=>by obtain ⟨_,_,rfl,_⟩:=h;rfl) λf cdv A outer s H E hr=>?_
 have nd:=sc_law_fraction.nd
 refine ⟨_,(qc_ (qp_ (i:=2) nd rfl (Or.inl rfl) (quj_ rfl B.max rfl (qa_ (jv 0) (qa_ (qks_ qd_ (jv 0)) qb_))))
  (qc_ (qp_ (i:=3) nd rfl (Or.inl rfl) (jv 1))
  (qc_ (qjg_ PassesOwn.never (qrs_ (jv 2) qd_) (qf_ (qsl_ (qsn_ (i:=2) (j:=3) rfl nd rfl rfl (by decide) rfl rfl (JA.h (qa_ (qdj_ (jv 3) (jv 2)) (qa_ (jv 2) qb_))) rfl))))
  (qf_ (qn_ (q7_ (qa_ (qcs_ (jv 0) (jv 3)) (qa_ (qcs_ (jv 1) (jv 3)) qb_)))))))),?_⟩
 rintro ds M Q ⟨a,b,rfl,b0,hs,q⟩
 have hb:b≠0:=by omega
 have e1:(if 0 - a>a then 0 - a else a)=((a.natAbs:Nat):Int):=by split<;>omega
 have e2:b=((b.natAbs:Nat):Int):=by omega
 refine ⟨λm ρ M'=>M'=M/\∃x y:Nat,ρ=[.sh (.int a),.sh (.int b),.sh (.int (x:Nat)),.sh (.int (y:Nat))]/\m=x/\0<y/\Nat.gcd x y=Nat.gcd a.natAbs b.natAbs,⟨_,rfl,a.natAbs,b.natAbs,?_,rfl,by omega,rfl⟩,?_⟩
 ·show [Ent.sh (.int a),.sh (.int b),Ent.sh (D.int (if 0 - a>a then 0 - a else a)),Ent.sh (D.int b)]=_
  rw [e1,<-e2]
 rintro x ρ M' ⟨rfl,x',y,rfl,rfl,y0,e⟩
 show if decide ((0:Int)<(x:Nat))=true then _ else _
 refine iteB (λc=>?_) (λc=>?_)
 ·have c':(0:Int)<(x:Nat):=by simpa using c
  have lt:=Nat.mod_lt y (show 0<x by omega)
  refine ⟨(by omega:((x:Nat):Int)≠0),y % x,lt,rfl,y % x,x,?_,rfl,by omega,by rw [<-e,<-Nat.gcd_rec]⟩
  show [Ent.sh (.int a),.sh (.int b),Ent.sh (.int (((y:Nat):Int).fmod (x:Nat))),Ent.sh (.int (x:Nat))]=_
  rw [qnd_]
 ·have c':¬(0:Int)<(x:Nat):=by simpa using c
  have:x=0:=by omega
  subst this
  rw [Nat.gcd_zero_left] at e
  have eg:((y:Nat):Int)=(Int.gcd a b:Int):=by rw [e];rfl
  have gs:Sm 9000 (Int.gcd a b:Int):=qpg_ hb hs
  have gp:=qm0_ (a:=a) hb
  have e1:=qpp_ (a:=a) hb
  have e3:=qo7_ (a:=a) hb
  rw [if_neg (by omega)] at e1 e3
  rw [eg]
  refine ⟨⟨by omega,gs⟩,⟨by omega,gs⟩,by show 2<=sizeLine;decide,_,Sub.refl _,?_⟩
  unfold frD at q
  rw [e1,e3] at q
  exact q
abbrev hLF (P:Program) (w:World) (K:PySem.W.Frag) (mg:Str->Option Value) (base:Heap):Prop:=Has P w K mg base CX0 1 "_law_fraction" ["top","bottom"] (spW K (pur gFrP))
theorem qj7_ (q r:Rat):0<(q.den:Int)*(r.den:Int):=Int.mul_pos (by have:=qm8_ q;omega) (by have:=qm8_ r;omega)
abbrev qdo_:Stmt:=top 49
theorem sc_law_plus:FnScope ["q","r"] ["q","r"] (qe_ qdo_):=⟨rfl,rfl,rfl,by decide+kernel,rfl,by decide+kernel,by decide+kernel⟩
theorem h__law_plus (B:Bl mg) (F:Def K mg "_law_plus" qdo_ ["q","r"]) (F__law_fraction:hLF P w K mg base):Has P w K mg base CX0 2 "_law_plus" ["q","r"] (spW K (pur (gOp λq r=>q+r))):=by
 refine F.hasP sc_law_plus (λds P h=>by obtain ⟨a,b,rfl,_⟩:=h;rfl) λf cdv A outer s H E hr=>?_
 have nd:=sc_law_plus.nd
 refine ⟨_,(qf_ (qn_ (j_h F__law_fraction (hr.mono (by decide)) rfl (qa_ (qcp_ (qbq_ (qh_ 0 qd_) (qh_ 1 qd_)) (qbq_ (qh_ 1 qd_) (qh_ 0 qd_))) (qa_ (qbq_ (qh_ 0 qd_) (qh_ 1 qd_)) qb_))))),?_⟩
 rintro ds M Q ⟨q,r,rfl,m,k⟩
 exact ⟨m.c1,m.c2,m.c3,_,_,rfl,qj7_ q r,m.s,_,Sub.refl _,by rw [qtd_];exact k⟩
abbrev qc2_:Stmt:=top 50
theorem sc_law_times:FnScope ["q","r"] ["q","r"] (qe_ qc2_):=⟨rfl,rfl,rfl,by decide+kernel,rfl,by decide+kernel,by decide+kernel⟩
theorem h__law_times (B:Bl mg) (F:Def K mg "_law_times" qc2_ ["q","r"]) (F__law_fraction:hLF P w K mg base):Has P w K mg base CX0 2 "_law_times" ["q","r"] (spW K (pur (gOp λq r=>q*r))):=by
 refine F.hasP sc_law_times (λds P h=>by obtain ⟨a,b,rfl,_⟩:=h;rfl) λf cdv A outer s H E hr=>?_
 have nd:=sc_law_times.nd
 refine ⟨_,(qf_ (qn_ (j_h F__law_fraction (hr.mono (by decide)) rfl (qa_ (qbq_ (qh_ 0 qd_) (qh_ 1 qd_)) (qa_ (qbq_ (qh_ 0 qd_) (qh_ 1 qd_)) qb_))))),?_⟩
 rintro ds M Q ⟨q,r,rfl,m,k⟩
 exact ⟨m.c4,m.c3,_,_,rfl,qj7_ q r,m.s,_,Sub.refl _,by rw [qri_];exact k⟩
abbrev hLP (P:Program) (w:World) (K:PySem.W.Frag) (mg:Str->Option Value) (base:Heap):Prop:=Has P w K mg base CX0 2 "_law_plus" ["q","r"] (spW K (pur (gOp λq r=>q+r)))
abbrev hLT (P:Program) (w:World) (K:PySem.W.Frag) (mg:Str->Option Value) (base:Heap):Prop:=Has P w K mg base CX0 2 "_law_times" ["q","r"] (spW K (pur (gOp λq r=>q*r)))
theorem six {a b:Int} (h:b=1\/b=2\/b=3):∃c:Int,Rat.divInt a b=Rat.divInt (a*c) 6/\0<c/\c<=6/\b*c=6:=by
 rcases h with rfl|rfl|rfl
 ·exact ⟨6,(Rat.divInt_mul_right (n:=a) (d:=1) (a:=6) (by decide)).symm,by decide,by decide,by decide⟩
 ·exact ⟨3,(Rat.divInt_mul_right (n:=a) (d:=2) (a:=3) (by decide)).symm,by decide,by decide,by decide⟩
 ·exact ⟨2,(Rat.divInt_mul_right (n:=a) (d:=3) (a:=2) (by decide)).symm,by decide,by decide,by decide⟩
theorem wh6 {k:Int} (h1: -64<k) (h2:k<64):Wh 6 6 (Rat.divInt k 6):=⟨k,rfl,qmp_ (by omega) (by omega)⟩
theorem qqq_ {a c n:Int} (h1: -n<=a) (h2:a<=n) (c0:0<c) (c6:c<=6): -(6*n)<=a*c/\a*c<=6*n:=by
 have h3:a*c<=n*c:=Int.mul_le_mul_of_nonneg_right h2 (by omega)
 have h4: -n*c<=a*c:=Int.mul_le_mul_of_nonneg_right h1 (by omega)
 have h5:n*c<=n*6:=Int.mul_le_mul_of_nonneg_left c6 (by omega)
 rw [Int.neg_mul] at h4
 omega
theorem qqs_ {q r:Rat} (h:0<=r):q<=q+r:=by grind
structure Bd6 (x:Rat×Rat):Prop where
 a:Wh 6 6 x.1
 b:Wh 6 6 x.2
 le:x.1<=x.2
def gBd:List D->(D->Prop)->Prop:=λds P=>∃l:Int,ds=[.int l]/\∀x,Bd6 x->P (bQ x)
abbrev qck_:Stmt:=top 51
theorem sc_law_bounds:FnScope ["left","low"] ["left"] (qe_ qck_):=⟨rfl,rfl,rfl,by decide+kernel,rfl,by decide+kernel,by decide+kernel⟩
theorem h__law_bounds (B:Bl mg) (F:Def K mg "_law_bounds" qck_ ["left"]) (F__law_fraction:hLF P w K mg base) (F__law_plus:hLP P w K mg base):Has P w K mg base CX0 3 "_law_bounds" ["left"] (spW K (pur gBd)):=by
 refine F.hasP sc_law_bounds (λds P h=>by obtain ⟨_,rfl,_⟩:=h;rfl) λf cdv A outer s H E hr=>?_
 have nd:=sc_law_bounds.nd
 refine ⟨_,(qc_ (qp_ (i:=1) nd rfl (Or.inl rfl) (j_h F__law_fraction (hr.mono (by decide)) rfl (qa_ (qks_ (qdj_ (jv 0) qd_) qd_) (qa_ (qcp_ qd_ (qdj_ (qcs_ (jv 0) qd_) qd_)) qb_))))
  (qf_ (qn_ (q7_ (qa_ (jv 1) (qa_ (j_h F__law_plus (hr.mono (by decide)) rfl (qa_ (jv 1) (qa_ (j_h F__law_fraction (hr.mono (by decide)) rfl (qa_ (qdj_ (qcs_ (jv 0) qd_) qd_) (qa_ (qcp_ qd_ (qdj_ (qcs_ (jv 0) qd_) qd_)) qb_))) qb_))) qb_)))))),?_⟩
 rintro ds M Q ⟨l,rfl,q⟩
 have m1:=qbl_ l (n:=9) (by decide)
 have m2:=qbl_ (l.fdiv 9) (n:=3) (by decide)
 have m3:=qbl_ (l.fdiv 27) (n:=7) (by decide)
 have m4:=qbl_ (l.fdiv 189) (n:=2) (by decide)
 have sm:∀{n:Nat} {i:Int}, -1000<i->i<1000->10<=n->Sm n i:=λh1 h2 h3=>(qmp_ (n:=10) (by omega) (by omega)).mono h3
 have c:∀{i j:Int},0<j->j<1000->qi5_ i j:=λh1 h2=>cdS h1 (sm (by omega) h2 (by decide))
 obtain ⟨c1,h1,c10,c16,e1⟩:=six (a:=l.fmod 9 - 4) (b:=1+(l.fdiv 9).fmod 3) (by omega)
 obtain ⟨c2,h2,c20,c26,e2⟩:=six (a:=(l.fdiv 27).fmod 7) (b:=1+(l.fdiv 189).fmod 2) (by omega)
 have b1:=qqq_ (a:=l.fmod 9 - 4) (n:=4) (by omega) (by omega) c10 c16
 have b2:=qqq_ (a:=(l.fdiv 27).fmod 7) (n:=6) (by omega) (by omega) c20 c26
 have b3:0<=(l.fdiv 27).fmod 7*c2:=Int.mul_nonneg m3.1 (by omega)
 have w1:Wh 6 6 (Rat.divInt (l.fmod 9 - 4) (1+(l.fdiv 9).fmod 3)):=by rw [h1];exact wh6 (by omega) (by omega)
 have w2:Wh 6 6 (Rat.divInt ((l.fdiv 27).fmod 7) (1+(l.fdiv 189).fmod 2)):=by rw [h2];exact wh6 (by omega) (by omega)
 have w3:Rat.divInt (l.fmod 9 - 4) (1+(l.fdiv 9).fmod 3)+Rat.divInt ((l.fdiv 27).fmod 7) (1+(l.fdiv 189).fmod 2)=Rat.divInt ((l.fmod 9 - 4)*c1+(l.fdiv 27).fmod 7*c2) 6:=by
  rw [h1,h2,Rat.divInt_eq_div,Rat.divInt_eq_div,Rat.divInt_eq_div,Rat.intCast_add,Rat.div_def,Rat.div_def,Rat.div_def,Rat.add_mul]
 have w4:Wh 6 6 (Rat.divInt (l.fmod 9 - 4) (1+(l.fdiv 9).fmod 3)+Rat.divInt ((l.fdiv 27).fmod 7) (1+(l.fdiv 189).fmod 2)):=by rw [w3];exact wh6 (by omega) (by omega)
 have w5:0<=Rat.divInt ((l.fdiv 27).fmod 7) (1+(l.fdiv 189).fmod 2):=Rat.divInt_nonneg m3.1 (by omega)
 refine ⟨(by decide:(9:Int)≠0),c (by decide) (by decide),(by decide:(3:Int)≠0),_,_,rfl,by omega,sm (by omega) (by omega) (by decide),?_⟩
 refine ⟨c (by decide) (by decide),(by decide:(7:Int)≠0),c (by decide) (by decide),(by decide:(2:Int)≠0),_,_,rfl,by omega,sm (by omega) (by omega) (by decide),?_⟩
 exact ⟨_,_,rfl,Mx.of (sm6 w1) (sm6 w2),by show 2<=sizeLine;decide,_,Sub.refl _,q (_,_) ⟨w1,w4,qqs_ w5⟩⟩
def gSh:List D->(D->Prop)->Prop:=λds P=>∃(l:Int) (n:Nat),ds=[.int l,.int (n:Nat)]/\n<=100/\∀(A:List Rat) (l':Int),A.length=n->(∀q∈A,Wh 6 6 q)->P (.tup [frL A,.int l'])
theorem qwk_:D.tup [.int (-1),.int 2]=frD (Rat.divInt (-1) 2):=by
 have e1:(Rat.divInt (-1) 2).num= -1:=by decide+kernel
 have e2:(Rat.divInt (-1) 2).den=2:=by decide+kernel
 rw [frD,e1,e2];rfl
theorem qoo_ {d:D} (h:d∈[D.tup [.int 0,.int 1],.tup [.int 1,.int 1],.tup [.int (-1),.int 1],.tup [.int 2,.int 1],.tup [.int (-1),.int 2]]):∃q,d=frD q/\Wh 6 6 q:=by
 simp only [List.mem_cons,List.not_mem_nil,or_false] at h
 have w:∀i:Int, -3<i->i<3->Wh 6 6 (i:Rat):=λi h1 h2=>⟨i*6,by
  have:(i:Rat)=Rat.divInt i 1:=by rw [Rat.divInt_eq_div,Rat.div_def];grind
  rw [this]
  exact (Rat.divInt_mul_right (n:=i) (d:=1) (a:=6) (by decide)).symm,qmp_ (by omega) (by omega)⟩
 rcases h with rfl|rfl|rfl|rfl|rfl
 ·exact ⟨_,frI 0,w 0 (by decide) (by decide)⟩
 ·exact ⟨_,frI 1,w 1 (by decide) (by decide)⟩
 ·exact ⟨_,frI (-1),w (-1) (by decide) (by decide)⟩
 ·exact ⟨_,frI 2,w 2 (by decide) (by decide)⟩
 ·refine ⟨_,qwk_,?_⟩
  have:Rat.divInt (-1) 2=Rat.divInt (-3) 6:=by decide+kernel
  rw [this];exact wh6 (by decide) (by decide)
abbrev qcn_:Stmt:=top 52
theorem sc_law_shares:FnScope ["left","many","found","k"] ["left","many"] (qe_ qcn_):=⟨rfl,rfl,rfl,by decide+kernel,rfl,by decide+kernel,by decide+kernel⟩
theorem h__law_shares (B:Bl mg) (F:Def K mg "_law_shares" qcn_ ["left","many"]):Has P w K mg base CX0 1 "_law_shares" ["left","many"] (spW K (pur gSh)):=by
 refine F.hasP sc_law_shares (λds P h=>by obtain ⟨_,_,rfl,_⟩:=h;rfl) λf cdv A outer s H E hr=>?_
 have nd:=sc_law_shares.nd
 refine ⟨_,(qc_ (qg2_ (i:=2) nd rfl (Or.inl rfl) (qbf_ qb_))
  (qc_ (qbm_ PassesOwn.never rfl (qcr_ rfl B.range (qa_ (jv 1) qb_)) (qg_ (i:=3) nd rfl (Or.inl rfl))
  (qc_ (qlo_ 2 (j_at (j_fz (qbf_ (qa_ (q7_ (qa_ qd_ (qa_ qd_ qb_))) (qa_ (q7_ (qa_ qd_ (qa_ qd_ qb_))) (qa_ (q7_ (qa_ (qlg_ qd_) (qa_ qd_ qb_))) (qa_ (q7_ (qa_ qd_ (qa_ qd_ qb_))) (qa_ (q7_ (qa_ (qlg_ qd_) (qa_ qd_ qb_))) qb_))))))) (qdj_ (jv 0) qd_)))
  (qf_ (qp_ (i:=0) nd rfl (Or.inl rfl) (qcs_ (jv 0) qd_)))))
  (qf_ (qn_ (q7_ (qa_ (jv 2) (qa_ (jv 0) qb_))))))),?_⟩
 rintro ds M Q ⟨l,n,rfl,n1,q⟩
 refine ⟨by show 0<=sizeLine;decide,⟨by omega,by omega⟩,λi ρ M'=>M'=M/\∃(A:List Rat) (l':Int) (o:Ent),ρ=[.sh (.int l'),.sh (.int n),.ow (A.map frD),o]/\A.length=i/\∀q∈A,Wh 6 6 q,⟨rfl,[],l,_,rfl,rfl,by simp⟩,?_,?_⟩
 ·rintro i d ρ M' hd ⟨rfl,A,l',o,rfl,lA,dA⟩
  obtain ⟨rfl,hi⟩:=qb2_ hd
  have m:=qbl_ l' (n:=5) (by decide)
  have z2:2<=sizeLine:=by decide
  refine ⟨trivial,z2,z2,z2,z2,z2,by show 5<=sizeLine;decide,(by decide:(5:Int)≠0),RIx.lst m.1 m.2 λd hd=>?_⟩
  obtain ⟨x,rfl,wx⟩:=qoo_ hd
  exact ⟨by rw [List.length_map,lA];exact qi_ (by omega),cdS (by decide) (by unfold Sm;decide),rfl,A++[x],_,_,by rw [List.map_append];rfl,by rw [List.length_append,lA];rfl,qdr_ dA wx⟩
 ·rintro ρ M' ⟨rfl,A,l',o,rfl,lA,dA⟩
  rw [qc1_,Int.toNat_natCast] at lA
  exact ⟨by show 2<=sizeLine;decide,_,Sub.refl _,q A l' lA dA⟩

/-! ### name.insert(k,e),name.pop(k) -/
def qk6_:V->List V->Hp->VK->Prop:=λx vs H Q=>∃l xs,∃(k:Nat) (j:Int),∃y,x= .ref l/\vs=[.int j,y]/\j=(k:Int)/\H l=some (.lst xs)/\k<=xs.length/\k<2 ^ 62/\xs.length<sizeLine/\Q .non (upd H l (.lst (xs.take k++y::xs.drop k)))
theorem qmm_ {X:Cx}:MtM X "list.insert" qk6_:=by
 intro pins s σ H x vs v us Q I rx rv h
 obtain ⟨l,xs,k,j,y,rfl,rfl,hj,hH,hk,hk2,hz,q⟩:=h
 cases rx
 obtain ⟨u0,u,rfl,ru0,ru⟩:=rv.two
 obtain ⟨t,rfl⟩:=ru0
 obtain ⟨z,its,n,r,hl,e⟩:=I.lstM hH
 have kf:Builtin.List.listFitsIndex j=true:=fitsIndex_both (by omega) (by omega)
 have hc:¬(!Builtin.List.listFitsIndex j)=true:=by rw [kf];decide
 have hs:its.toArray.size<=sizeLine:=by rw [List.size_toArray];omega
 have hm:=AutoSeq1.list_insert_list_int_val_1 l its.toArray n j t u hc hs
 refine call_meets F.slot_list_insert ⟨_,e,rfl⟩ F.entry_list_insert (F.args_list_insert_3 _ _ _) hm ⟨e,?_⟩
 refine ⟨.non,_,I.lset (its':=its.take k++u::its.drop k) hH e ?_ ((r.take k).append (.cons ru (r.drop k))) ?_,rfl,q⟩
 ·dsimp only
  rw [if_neg (by omega),show j.toNat=k by omega,List.size_toArray,Nat.min_eq_left (by omega)]
  simp
  rw [List.take_of_length_le (by rw [List.length_drop];exact Nat.le_refl _)]
 ·simp;omega
def wIns (i:Nat) (fk fe:WE):WS:=λE ρ M=>isOw ρ[i]?/\(qhc_ fk (qhc_ fe wNil)) ρ M λes ρ1 M1=>match es with
 |[.int j,d]=>(match ρ1[i]? with
  |some (.ow ds)=>∃k:Nat,j=(k:Int)/\k<=ds.length/\k<2 ^ 62/\ds.length<sizeLine/\E.nx (ρ1.set i (.ow (ds.take k++d::ds.drop k))) M1
  |_=>False)
 |_=>False
theorem qrq_ {X:Cx} {st:Stmt} {fk fe:WE} {i:Nat} (hh:PS X st (qrl_ (tBM X.K "list" qk6_ (tVar i) (lfA X.K (qhc_ fk (qhc_ fe wNil)))))):JS X st (wIns i fk fe):=⟨imS hh λD' σ H hh=>ex5 hh λZ F ρ M E ag hf k=>by
 obtain ⟨ho,hf⟩:=hf
 obtain ⟨ds0,ho⟩:=qeu_ ho
 obtain ⟨p,vs,h1,h2,h3,h4,h5,h6⟩:=qci_ ag ho
 refine ⟨.ref p,h1,.inl ⟨rfl,vs,SqL.of h2⟩,Z,F,ρ,M,_,ag,hf,λws H1 F1 es ρ1 M1 s1 ag1 r1 hh=>?_⟩
 split at hh
 ·rename_i j d
  split at hh
  ·rename_i ds hd
   obtain ⟨kk,rfl,k1,k2,k3,hh⟩:=hh
   obtain ⟨v,u,rfl,rv,ru⟩:=rps2 r1
   rw [Rp] at rv
   subst rv
   obtain ⟨p',us,g1,g2,g3,g4,g5,g6⟩:=qci_ ag1 hd
   rw [h1] at g1
   cases g1
   have l:=g6.length
   exact ⟨p,us,kk,_,u,rfl,rfl,rfl,g2,by omega,k2,by omega,k.nx σ _ F1 _ M1 s1 (ag1.chg hd h1 g2 g3 g4 g5 ((g6.take kk).append (.cons ru (g6.drop kk)))) hh⟩
  ·exact hh.elim
 ·exact hh.elim⟩
theorem qut_ {X:Cx} {a e:Expr} {x:Str} {fk fe:WE} {np apos cpos pos:Pos} (i:Nat) (hk:JE X a fk) (he:JE X e fe) (hN:X.N[i]?=some x:=by rfl) (hv:Vis X.env.scope x:=by first|exact Or.inl rfl|exact Or.inr (Or.inl rfl)|exact Or.inr (Or.inr rfl)) (hd:(x==("__debug__":Str))=false:=by decide) (hcd:(x==("__classdict__":Str))=false:=by decide)
  (hbase:attributeBase (.Name x np) "insert" X.env (eval (.Name x np) X.env)=eval (.Name x np) X.env:=by rfl)
  (hfew:((backTo cpos (starEach [a,e] X.env)).all (λx=> !x.1)&&(backToKw cpos (keywordEach [] X.env)).all (λx=>x.1.isSome)&&decide ([a,e].length+([]:List Keyword).length+(if ([]:List Keyword).isEmpty then 0 else 1)<30))=true:=by rfl)
  (hline:(apos.endLine==cpos.line)=true:=by rfl) (hs:starEach [a,e] X.env=(false,eval a X.env)::starEach [e] X.env:=by rfl) (hs2:starEach [e] X.env=[(false,eval e X.env)]:=by rfl) (hplain:(backTo cpos (starEach [e] X.env)).any (·.1)=false:=by rfl)
  (hsw:swapsWith (.Call (.Attribute (.Name x np) "insert" apos) [a,e] [] cpos) none pos.line X.env=pure false:=by rfl):JS X (.Expr (.Call (.Attribute (.Name x np) "insert" apos) [a,e] [] cpos) pos) (wIns i fk fe):=
 qrq_ (qey_ (qon_ PySem.F.plainAttrs_list PySem.F.slot_list_insert PySem.F.type_list_insert qmm_ (L2.pv i hN hv hd hcd) (qa_ hk (qa_ he qb_ hs2) hs).h hbase hfew hline hs hplain) hsw)
def qo4_:List D->(D->Prop)->Prop:=λds P=>ds=[]/\∀S T Z,PlO S T Z->P (q9_ S T Z)
theorem qj0_ {α:Type} {f:α->D} {A:List α} {x:α}:A.map f++[f x]=(A++[x]).map f:=by rw [List.map_append];rfl
abbrev qd1_:Stmt:=top 53
theorem sc_law_plan:FnScope ["script","cell","sizes","shims","demands","k","left","a","b"] ["script"] (qe_ qd1_):=⟨rfl,rfl,rfl,by decide+kernel,rfl,by decide+kernel,by decide+kernel⟩
theorem h__law_plan (B:Bl mg) (F:Def K mg "_law_plan" qd1_ ["script"]) (F__law_cell_at:Has P w K mg base CX0 1 "_law_cell_at" ["script","k"] (spD K (Scr K) qq9_)) (F__law_mixed:Has P w K mg base CX0 1 "_law_mixed" ["cell","k"] (spW K (pur gMx7))) (F__law_bounds:Has P w K mg base CX0 3 "_law_bounds" ["left"] (spW K (pur gBd))) (F__law_shares:Has P w K mg base CX0 1 "_law_shares" ["left","many"] (spW K (pur gSh))) (F__law_fraction:hLF P w K mg base):Has P w K mg base CX0 4 "_law_plan" ["script"] (spD K (Scr K) qo4_):=by
 refine F.hasD sc_law_plan (λds P h=>by obtain ⟨rfl,_⟩:=h;rfl) λf cdv A outer s H E hr=>?_
 have nd:=sc_law_plan.nd
 refine ⟨_,(qc_ (qp_ (i:=1) nd rfl (Or.inl rfl) (j_hD 0 F__law_cell_at (hr.mono (by decide)) rfl (qa_ qd_ qb_)))
  (qc_ (qc8_ (k:=2) nd rfl (Or.inl rfl) ["k","script"] [none,some 0] ⟨rfl,by decide+kernel,by decide+kernel,rfl,rfl,q3_ rfl⟩ rfl (qcr_ rfl B.range (qa_ (qcp_ qd_ (qdj_ (jv 1) qd_)) qb_)) (λ_ _ _ _ _=>(qg_ (i:=0) (show List.Nodup [("k":Str),("script":Str)] by decide+kernel) rfl (Or.inl rfl))) (λ_ _ _ _ _=>q4_) (λ_ _ _ _ _=>(j_h F__law_bounds (hr.mono (by decide)) rfl (qa_ (j_h F__law_mixed (hr.mono (by decide)) rfl (qa_ (j_hD 1 F__law_cell_at (hr.mono (by decide)) rfl (qa_ (qcp_ qd_ (jv 0)) qb_)) (qa_ (jv 0) qb_))) qb_))))
  (qc_ (qc8_ (k:=3) nd rfl (Or.inl rfl) ["k","script"] [none,some 0] ⟨rfl,by decide+kernel,by decide+kernel,rfl,rfl,q3_ rfl⟩ rfl (qcr_ rfl B.range (qa_ (qdj_ (qcs_ (jv 1) qd_) qd_) qb_)) (λ_ _ _ _ _=>(qg_ (i:=0) (show List.Nodup [("k":Str),("script":Str)] by decide+kernel) rfl (Or.inl rfl))) (λ_ _ _ _ _=>q4_) (λ_ _ _ _ _=>(j_h F__law_bounds (hr.mono (by decide)) rfl (qa_ (j_h F__law_mixed (hr.mono (by decide)) rfl (qa_ (j_hD 1 F__law_cell_at (hr.mono (by decide)) rfl (qa_ (qcp_ qd_ (jv 0)) qb_)) (qa_ (qcp_ qd_ (jv 0)) qb_))) qb_))))
  (qc_ (qg2_ (i:=4) nd rfl (Or.inl rfl) (qbf_ qb_))
  (qc_ (qbm_ PassesOwn.never rfl (qcr_ rfl B.range (qa_ (qdj_ (qcs_ (jv 1) qd_) (j_at (j_fz (qbf_ (qa_ qd_ (qa_ qd_ (qa_ qd_ qb_))))) (qcu_ 3 rfl B.len))) qb_)) (qg_ (i:=5) nd rfl (Or.inl rfl))
  (qc_ (qp_ (i:=6) nd rfl (Or.inl rfl) (j_h F__law_mixed (hr.mono (by decide)) rfl (qa_ (j_hD 0 F__law_cell_at (hr.mono (by decide)) rfl (qa_ (qcp_ qd_ (jv 5)) qb_)) (qa_ (qcp_ qd_ (jv 5)) qb_))))
  (qc_ (qe1_ (j_h F__law_shares (hr.mono (by decide)) rfl (qa_ (jv 6) (qa_ (qcu_ 2 rfl B.len) qb_))) (qba_ (n:=2) rfl (qj_ (qg_ (i:=7) nd rfl (Or.inl rfl)) (qj_ (qg_ (i:=6) nd rfl (Or.inl rfl)) qy_))))
  (qc_ (qe1_ (j_h F__law_shares (hr.mono (by decide)) rfl (qa_ (jv 6) (qa_ (qcu_ 3 rfl B.len) qb_))) (qba_ (n:=2) rfl (qj_ (qg_ (i:=8) nd rfl (Or.inl rfl)) (qj_ (qg_ (i:=6) nd rfl (Or.inl rfl)) qy_))))
  (qf_ (qlo_ 4 (q7_ (qa_ (jv 7) (qa_ (jv 8) (qa_ (j_h F__law_fraction (hr.mono (by decide)) rfl (qa_ (qks_ (qdj_ (jv 6) qd_) qd_) (qa_ (qcp_ qd_ (qdj_ (qcs_ (jv 6) qd_) qd_)) qb_))) qb_))))))))))
  (qf_ (qn_ (q7_ (qa_ (jv 2) (qa_ (jv 3) (qa_ (jv 4) qb_))))))))))),?_⟩
 rintro a ds M Q ⟨ns,hS⟩ ⟨rfl,q⟩
 have sm:∀{n:Nat} {i:Int}, -1000<i->i<1000->10<=n->Sm n i:=λh1 h2 h3=>(qmp_ (n:=10) (by omega) (by omega)).mono h3
 have c:∀{i j:Int},0<j->j<1000->qi5_ i j:=λh1 h2=>cdS h1 (sm (by omega) h2 (by decide))
 refine ⟨⟨ns,hS⟩,0,rfl,by decide,λcell=>?_⟩
 have m1:=qbl_ cell (n:=3) (by decide)
 have m2:=qbl_ (cell.fdiv 3) (n:=3) (by decide)
 refine ⟨(by decide:(3:Int)≠0),⟨by omega,by omega⟩,λi out ρ M'=>M'=M/\(∃S:List (Rat×Rat),out=S.map bQ/\S.length=i/\∀x∈S,Bd6 x)/\∃o,ρ=[o,.rf a],⟨rfl,⟨[],rfl,rfl,by simp⟩,_,rfl⟩,?_,?_⟩
 ·rintro i d out ρ M' hd ⟨rfl,⟨S,rfl,lo,bS⟩,o,rfl⟩
  obtain ⟨rfl,hi⟩:=qb2_ hd
  exact ⟨⟨ns,hS⟩,_,rfl,by omega,λc1=>⟨_,_,rfl,by omega,by omega,λr=>⟨r,rfl,λx hx=>⟨by rw [List.length_map,lo];exact qi_ (by omega),rfl,⟨S++[x],qj0_,by rw [List.length_append,lo];rfl,qdr_ bS hx⟩,_,rfl⟩⟩⟩⟩
 rintro out ρ M' ⟨rfl,⟨S,rfl,lS,bS⟩,o,rfl⟩
 rw [qc1_] at lS
 refine ⟨c (by decide) (by decide),(by decide:(3:Int)≠0),⟨by omega,by omega⟩,λi out ρ M2=>M2=M'/\(∃S:List (Rat×Rat),out=S.map bQ/\S.length=i/\∀x∈S,Bd6 x)/\∃o,ρ=[o,.rf a],⟨rfl,⟨[],rfl,rfl,by simp⟩,_,rfl⟩,?_,?_⟩
 ·rintro i d out ρ M' hd ⟨rfl,⟨S,rfl,lo,bS⟩,o,rfl⟩
  obtain ⟨rfl,hi⟩:=qb2_ hd
  exact ⟨⟨ns,hS⟩,_,rfl,by omega,λc1=>⟨_,_,rfl,by omega,by omega,λr=>⟨r,rfl,λx hx=>⟨by rw [List.length_map,lo];exact qi_ (by omega),rfl,⟨S++[x],qj0_,by rw [List.length_append,lo];rfl,qdr_ bS hx⟩,_,rfl⟩⟩⟩⟩
 rintro out ρ M2 ⟨rfl,⟨T,rfl,lT,bT⟩,o,rfl⟩
 rw [qc1_] at lT
 have lT2:T.length<3:=by omega
 have lT3:(T.map bQ).length=T.length:=List.length_map _
 refine ⟨by show 0<=sizeLine;decide,c (by decide) (by decide),by show 3<=sizeLine;decide,?_⟩
 obtain ⟨w,hw,w0,w1,w2⟩:∃w:Int,[D.int 13,.int 13,.int 5][T.length]?=some (.int w)/\0<w/\w<=13/\(T.length=2->w=5):=by
  have:T.length=0\/T.length=1\/T.length=2:=by omega
  rcases this with e|e|e
  ·rw [e];exact ⟨13,rfl,by decide,by decide,by decide⟩
  ·rw [e];exact ⟨13,rfl,by decide,by decide,by decide⟩
  ·rw [e];exact ⟨5,rfl,by decide,by decide,by decide⟩
 refine RIx.get (k:=(T.map bQ).length) (d:= .int w) (by rw [lT3];exact hw) ?_
 have m3:=qbl_ (cell.fdiv 9) w0
 refine ⟨(by omega:w≠0),⟨by omega,by omega⟩,λi ρ M'=>M'=M2/\∃(Z:List ZR) (o5 o6 o7 o8:Ent),ρ=[.rf a,.sh (.int cell),.ow (S.map bQ),.ow (T.map bQ),.ow (Z.map zQ),o5,o6,o7,o8]/\Z.length=i/\∀z∈Z,RowW S.length T.length 6 6 z,⟨rfl,[],_,_,_,_,rfl,rfl,by simp⟩,?_,?_⟩
 ·rintro i d ρ M' hd ⟨rfl,Z,o5,o6,o7,o8,rfl,lZ,zs⟩
  obtain ⟨rfl,hi⟩:=qb2_ hd
  have lS3:(S.map bQ).length=S.length:=List.length_map _
  refine ⟨⟨ns,hS⟩,_,rfl,by omega,λc1=>⟨_,_,rfl,by omega,by omega,λleft=>⟨left,(S.map bQ).length,rfl,by omega,λA l1 lA wA=>⟨rfl,l1,(T.map bQ).length,rfl,by omega,λB l2 lB wB=>⟨rfl,trivial,?_⟩⟩⟩⟩⟩
  have n1:=qbl_ l2 (n:=15) (by decide)
  have n2:=qbl_ (l2.fdiv 15) (n:=2) (by decide)
  obtain ⟨c2,h2,c20,c26,e2⟩:=six (a:=l2.fmod 15 - 4) (b:=1+(l2.fdiv 15).fmod 2) (by omega)
  have b2:=qqq_ (a:=l2.fmod 15 - 4) (n:=10) (by omega) (by omega) c20 c26
  have w2:Wh 6 6 (Rat.divInt (l2.fmod 15 - 4) (1+(l2.fdiv 15).fmod 2)):=by rw [h2];exact wh6 (by omega) (by omega)
  refine ⟨(by decide:(15:Int)≠0),c (by decide) (by decide),(by decide:(2:Int)≠0),_,_,rfl,by omega,sm (by omega) (by omega) (by decide),by show 3<=sizeLine;decide,by rw [List.length_map,lZ];exact qi_ (by omega),rfl,Z++[(A,B,Rat.divInt (l2.fmod 15 - 4) (1+(l2.fdiv 15).fmod 2))],.sh (.int (i:Nat)),.sh (.int l2),.sh (frL A),.sh (frL B),?_,by rw [List.length_append,lZ];rfl,qdr_ zs ⟨by rw [lA,lS3],by rw [lB,lT3],wA,wB,w2⟩⟩
  rw [List.map_append];rfl
 ·rintro ρ M' ⟨rfl,Z,o5,o6,o7,o8,rfl,lZ,zs⟩
  rw [qc1_] at lZ
  exact ⟨by show 3<=sizeLine;decide,Sub.refl _,q S T Z ⟨by omega,by omega,by omega,λe=>by have:=w2 e;subst this;omega,λx hx=>⟨(bS x hx).a,(bS x hx).b,(bS x hx).le⟩,λx hx=>⟨(bT x hx).a,(bT x hx).b,(bT x hx).le⟩,zs⟩⟩
/-! ### orders drawn -/
def qby_ (s t:Nat):List Tn:=(List.range s).map (λk=>(false,k))++(List.range t).map (λk=>(true,k))
theorem qgm_ (s t:Nat):(qby_ s t).length=s+t:=by unfold qby_;simp
theorem turnsT_mem {s t:Nat} {x:Tn}:x∈qby_ s t↔x.2<if x.1=true then t else s:=by
 obtain ⟨b,k⟩:=x
 unfold qby_
 rw [List.mem_append,List.mem_map,List.mem_map]
 cases b<;>simp
theorem qei_ (s t:Nat):(qby_ s t).Nodup:=by
 unfold qby_
 refine List.nodup_append.mpr ⟨?_,?_,?_⟩
 ·exact List.Pairwise.map (λk=>((false,k):Tn)) (λa b h e=>h (by simpa using e)) List.nodup_range
 ·exact List.Pairwise.map (λk=>((true,k):Tn)) (λa b h e=>h (by simpa using e)) List.nodup_range
 ·intro a ha b hb e
  obtain ⟨_,_,rfl⟩:=List.mem_map.mp ha
  obtain ⟨_,_,rfl⟩:=List.mem_map.mp hb
  cases e
theorem qj9_ (s t:Nat):(qby_ s t).map tnQ=(List.range s).map (λk=>tnQ (false,k))++(List.range t).map (λk=>tnQ (true,k)):=by
 unfold qby_
 rw [List.map_append,List.map_map,List.map_map];rfl
theorem qir_ {S T:List (Rat×Rat)} {O:List Tn} (h:O.Perm (qby_ S.length T.length)) (l:S.length+T.length<=5):OrdO S T O:=by
 refine ⟨by rw [h.length_eq,qgm_];exact l,?_,λt ht=>turnsT_mem.mp (h.mem_iff.mp ht)⟩
 unfold shN
 rw [(h.filter _).length_eq]
 unfold qby_
 rw [List.filter_append,List.length_append]
 have e1:(((List.range S.length).map λk=>((false,k):Tn)).filter λt=>t.1).length=0:=by
  rw [List.filter_map,List.length_map]
  simp
 have l2:=List.length_filter_le (λt:Tn=>t.1) ((List.range T.length).map λk=>((true,k):Tn))
 rw [List.length_map,List.length_range] at l2
 rw [e1]
 omega
def gOrd:List D->(D->Prop)->Prop:=λds P=>∃(S T:List (Rat×Rat)) (Z:List ZR) (c:Int),ds=[q9_ S T Z,.int c]/\S.length<=100/\T.length<=100/\∀O:List Tn,O.Perm (qby_ S.length T.length)->P (.lst (O.map tnQ))
abbrev qda_:Stmt:=top 54
theorem sc_law_order:FnScope ["plan","cell","found","thing"] ["plan","cell"] (qe_ qda_):=⟨rfl,rfl,rfl,by decide+kernel,rfl,by decide+kernel,by decide+kernel⟩
theorem h__law_order (B:Bl mg) (F:Def K mg "_law_order" qda_ ["plan","cell"]):Has P w K mg base CX0 1 "_law_order" ["plan","cell"] (spW K (pur gOrd)):=by
 refine F.hasP sc_law_order (λds P h=>by obtain ⟨_,_,_,_,rfl,_⟩:=h;rfl) λf cdv A outer s H E hr=>?_
 have nd:=sc_law_order.nd
 refine ⟨_,(qc_ (qg2_ (i:=2) nd rfl (Or.inl rfl) (qbf_ qb_))
  (qc_ (qbm_ PassesOwn.never rfl (qr_ (j_fz (qdk_ (j_fz (qc7_ ["k"] [none] ⟨rfl,by decide+kernel,by decide+kernel,rfl,rfl,by intro i x j _ h;exact absurd h (by rcases i with _|_|_|i<;>simp)⟩ rfl (qcr_ rfl B.range (qa_ (qkk_ rfl B.len (qa_ (qh_ 0 qd_) qb_)) qb_)) (λ_ _ _ _ _=>(qg_ (i:=0) (show List.Nodup [("k":Str)] by decide+kernel) rfl (Or.inl rfl))) (λ_ _ _ _ _=>q4_) (λ_ _ _ _ _=>(q7_ (qa_ qdf_ (qa_ (jv 0) qb_)))))) (j_fz (qc7_ ["k"] [none] ⟨rfl,by decide+kernel,by decide+kernel,rfl,rfl,by intro i x j _ h;exact absurd h (by rcases i with _|_|_|i<;>simp)⟩ rfl (qcr_ rfl B.range (qa_ (qkk_ rfl B.len (qa_ (qh_ 0 qd_) qb_)) qb_)) (λ_ _ _ _ _=>(qg_ (i:=0) (show List.Nodup [("k":Str)] by decide+kernel) rfl (Or.inl rfl))) (λ_ _ _ _ _=>q4_) (λ_ _ _ _ _=>(q7_ (qa_ qdf_ (qa_ (jv 0) qb_))))))))) (qg_ (i:=3) nd rfl (Or.inl rfl))
  (qc_ (qut_ 2 (qdj_ (jv 1) (qcp_ (qcu_ 2 rfl B.len) qd_)) (jv 3))
  (qf_ (qp_ (i:=1) nd rfl (Or.inl rfl) (qcs_ (jv 1) qd_)))))
  (qf_ (qn_ (jv 2))))),?_⟩
 rintro ds M Q ⟨S,T,Z,c,rfl,s1,t1,q⟩
 have l1:(S.map bQ).length=S.length:=List.length_map _
 have l2:(T.map bQ).length=T.length:=List.length_map _
 refine ⟨by show 0<=sizeLine;decide,⟨by omega,by omega⟩,λi out ρ M'=>M'=M/\out=(List.range i).map (λk=>tnQ (false,k))/\∃o,ρ=[o],⟨rfl,rfl,_,rfl⟩,?_,?_⟩
 ·rintro i d out ρ M' hd ⟨rfl,rfl,o,rfl⟩
  obtain ⟨rfl,hi⟩:=qb2_ hd
  exact ⟨by show 2<=sizeLine;decide,by rw [List.length_map,List.length_range];exact qi_ (by omega),rfl,by rw [List.range_succ,List.map_append];rfl,_,rfl⟩
 rintro out ρ M' ⟨rfl,rfl,o,rfl⟩
 rw [qc1_,Int.toNat_natCast,l1]
 refine ⟨⟨by omega,by omega⟩,λi out ρ M2=>M2=M'/\out=(List.range i).map (λk=>tnQ (true,k))/\∃o,ρ=[o],⟨rfl,rfl,_,rfl⟩,?_,?_⟩
 ·rintro i d out ρ M' hd ⟨rfl,rfl,o,rfl⟩
  obtain ⟨rfl,hi⟩:=qb2_ hd
  exact ⟨by show 2<=sizeLine;decide,by rw [List.length_map,List.length_range];exact qi_ (by omega),rfl,by rw [List.range_succ,List.map_append];rfl,_,rfl⟩
 rintro out ρ M2 ⟨rfl,rfl,o,rfl⟩
 rw [qc1_,Int.toNat_natCast,l2]
 refine ⟨by simp only [List.length_map,List.length_range];exact Nat.le_of_lt (qi_ (by omega)),?_⟩
 rw [<-qj9_]
 refine ⟨λi ρ M3=>M3=M2/\∃(O:List Tn) (c:Int) (o:Ent),ρ=[.sh (q9_ S T Z),.sh (.int c),.ow (O.map tnQ),o]/\O.Perm ((qby_ S.length T.length).take i),⟨rfl,[],c,_,rfl,by rw [List.take_zero]⟩,?_,?_⟩
 ·rintro i d ρ M3 hd ⟨rfl,O,c,o,rfl,pO⟩
  obtain ⟨t,ht,rfl⟩:=qq_ hd
  have hi:=(List.getElem?_eq_some_iff.mp ht).1
  have li:=qgm_ S.length T.length
  have lO:O.length=i:=by rw [pO.length_eq,List.length_take];omega
  have lO2:(O.map tnQ).length=O.length:=List.length_map _
  have m:=qbl_ c (n:=(((O.map tnQ).length:Nat):Int)+1) (by omega)
  obtain ⟨k,ek⟩:=Int.eq_ofNat_of_zero_le m.1
  refine ⟨trivial,(by omega:(((O.map tnQ).length:Nat):Int)+1≠0),k,ek,by omega,by omega,qi_ (by omega),cdS (by decide) (by unfold Sm;decide),rfl,O.take k++t::O.drop k,c.fdiv 7,.sh (tnQ t),?_,?_⟩
  ·rw [List.map_append,List.map_cons,List.map_take,List.map_drop];rfl
  ·refine List.perm_middle.trans ?_
   rw [List.take_append_drop,List.take_add_one,ht,Option.toList_some]
   exact (pO.cons t).trans (List.perm_append_comm (l₁:=[t]))
 ·rintro ρ M3 ⟨rfl,O,c,o,rfl,pO⟩
  rw [List.length_map,List.take_length] at pO
  exact ⟨_,Sub.refl _,q O pO⟩
def ql8_:List D->(D->Prop)->Prop:=λds P=>∃(S T:List (Rat×Rat)) (Z:List ZR),ds=[q9_ S T Z]/\Z.length<=100/\P (q9_ S T Z)
abbrev qds_:Stmt:=top 55
theorem sc_law_copy:FnScope ["plan","sizes","shims","demands"] ["plan"] (qe_ qds_):=⟨rfl,rfl,rfl,by decide+kernel,rfl,by decide+kernel,by decide+kernel⟩
theorem h__law_copy (B:Bl mg) (F:Def K mg "_law_copy" qds_ ["plan"]):Has P w K mg base CX0 1 "_law_copy" ["plan"] (spW K (pur ql8_)):=by
 refine F.hasP sc_law_copy (λds P h=>by obtain ⟨_,_,_,rfl,_⟩:=h;rfl) λf cdv A outer s H E hr=>?_
 have nd:=sc_law_copy.nd
 refine ⟨_,(qc_ (qe1_ (jv 0) (qba_ (n:=3) rfl (qj_ (qg_ (i:=1) nd rfl (Or.inl rfl)) (qj_ (qg_ (i:=2) nd rfl (Or.inl rfl)) (qj_ (qg_ (i:=3) nd rfl (Or.inl rfl)) qy_)))))
  (qf_ (qn_ (q7_ (qa_ (j_fz (qbd_ rfl B.list (qa_ (jv 1) qb_))) (qa_ (j_fz (qbd_ rfl B.list (qa_ (jv 2) qb_))) (qa_ (j_fz (qc7_ ["a","b","c"] [none,none,none] ⟨rfl,by decide+kernel,by decide+kernel,rfl,rfl,by intro i x j _ h;exact absurd h (by rcases i with _|_|_|i<;>simp)⟩ rfl (qr_ (jv 3)) (λ_ _ _ _ _=>(qba_ (n:=3) rfl (qj_ (qg_ (i:=0) (show List.Nodup [("a":Str),("b":Str),("c":Str)] by decide+kernel) rfl (Or.inl rfl)) (qj_ (qg_ (i:=1) (show List.Nodup [("a":Str),("b":Str),("c":Str)] by decide+kernel) rfl (Or.inl rfl)) (qj_ (qg_ (i:=2) (show List.Nodup [("a":Str),("b":Str),("c":Str)] by decide+kernel) rfl (Or.inl rfl)) qy_))))) (λ_ _ _ _ _=>q4_) (λ_ _ _ _ _=>(q7_ (qa_ (j_fz (qbd_ rfl B.list (qa_ (jv 0) qb_))) (qa_ (j_fz (qbd_ rfl B.list (qa_ (jv 1) qb_))) (qa_ (jv 2) qb_))))))) qb_))))))),?_⟩
 rintro ds M Q ⟨S,T,Z,rfl,lz,k⟩
 refine ⟨rfl,λi out ρ M'=>M'=M/\out=(Z.take i).map zQ/\∃o1 o2 o3,ρ=[o1,o2,o3],⟨rfl,rfl,_,_,_,rfl⟩,?_,?_⟩
 ·rintro i d out ρ M' hd ⟨rfl,rfl,o1,o2,o3,rfl⟩
  obtain ⟨z,hz,rfl⟩:=qq_ hd
  have hi:=(List.getElem?_eq_some_iff.mp hz).1
  exact ⟨rfl,by show 3<=sizeLine;decide,by rw [List.length_map,List.length_take];exact qi_ (by omega),rfl,q1_ (f:=zQ) hz,_,_,_,rfl⟩
 ·rintro out ρ M' ⟨rfl,rfl,o1,o2,o3,rfl⟩
  rw [List.length_map,List.take_length]
  exact ⟨by show 3<=sizeLine;decide,_,Sub.refl _,k⟩

theorem qga_ (q:Rat):D.tup [.int (0 - q.num),.int (q.den:Int)]=frD (-q):=by
 rw [frD,Rat.neg_num,Rat.neg_den,Int.zero_sub]
theorem qvy_ {lo hi r:Rat} (h1:Wh 6 6 lo) (h2:Wh 6 6 hi) (hr:Wh 7 3 r):Wh 42 12 (lo+(hi+ -lo)*r):=by
 have a:=(h1.up 7 (m:=3) (by decide) (by unfold Sm;decide)).mono (b:=10) (by decide)
 have b:=((h2.add (qhu_ h1)).mul hr).mono (b:=10) (by decide)
 exact (a.add b).mono (by decide)
theorem qt1_ {lo hi r:Rat} (le:lo<=hi) (r0:0<=r) (r1:r<=1):lo<=lo+(hi+ -lo)*r/\lo+(hi+ -lo)*r<=hi:=by
 have a:=Rat.mul_nonneg (show 0<=hi+ -lo by grind) r0
 have b:=Rat.mul_nonneg (show 0<=hi+ -lo by grind) (show 0<=1 - r by grind)
 exact ⟨by grind,by grind⟩
theorem qqn_ {j:Int} (h0:0<=j) (h1:j<8):Wh 7 3 (Rat.divInt j 7)/\0<=Rat.divInt j 7/\Rat.divInt j 7<=1:=by
 refine ⟨⟨j,rfl,qmp_ (by omega) (by omega)⟩,Rat.divInt_nonneg h0 (by decide),?_⟩
 have:j=0\/j=1\/j=2\/j=3\/j=4\/j=5\/j=6\/j=7:=by omega
 rcases this with rfl|rfl|rfl|rfl|rfl|rfl|rfl|rfl<;>decide+kernel
theorem wh42 {q:Rat} (h:Wh 6 6 q):Wh 42 12 q:=(h.up 7 (m:=3) (by decide) (by unfold Sm;decide)).mono (by decide)

def qec_ (Z:List ZR) (M C:List Rat):Bool:=Z.all λz=>decide (0<=qk_ z M C)
theorem holds_iff {Z:List ZR} {M C:List Rat}:qec_ Z M C=true↔q2_ Z M C:=by
 unfold qec_ q2_
 rw [List.all_eq_true]
 exact ⟨λh z hz=>by simpa using h z hz,λh z hz=>by simpa using h z hz⟩
structure DhOk (S T:List (Rat×Rat)) (Z:List ZR) (M C:List Rat) (E m:Nat):Prop where
 e0:E≠0
 sE:Sm m (E:Int)
 hm:m<=1600
 s:S.length<=5
 t:T.length<=5
 z:Z.length<=100
 lM:M.length=S.length
 lC:C.length=T.length
 wM:∀q∈M,Wh E m q
 wC:∀q∈C,Wh E m q
 r:∀z∈Z,RowW S.length T.length 6 6 z
theorem qex_ (q:Rat):decide (q.num<0)=decide (q<0):=by
 rw [decide_eq_decide]
 have:=Rat.num_nonneg (q:=q)
 constructor
 ·intro h
  have:¬0<=q:=λc=>by have:=this.mpr c;omega
  grind
 ·intro h
  have:¬0<=q.num:=λc=>by have:=this.mp c;grind
  omega

/-! ### what fits -/
def gBe:List D->(D->Prop)->Prop:=λds P=>∃q lo hi:Rat,ds=[frD q,frD lo,frD hi]/\Mx q lo/\Mx hi q/\lo<=q/\q<=hi/\P (.bl true)
abbrev qch_:Stmt:=top 16
theorem sc_is_between:FnScope ["q","low","high"] ["q","low","high"] (qe_ qch_):=⟨rfl,rfl,rfl,by decide+kernel,rfl,by decide+kernel,by decide+kernel⟩
theorem h_is_between (B:Bl mg) (F:Def K mg "is_between" qch_ ["q","low","high"]) (F_below:qe3_ P w K mg base):Has P w K mg base CX0 2 "is_between" ["q","low","high"] (spW K (pur gBe)):=by
 refine F.hasP sc_is_between (λds P h=>by obtain ⟨_,_,_,rfl,_⟩:=h;rfl) λf cdv A outer s H E hr=>?_
 have nd:=sc_is_between.nd
 refine ⟨_,(qf_ (qn_ (qtp_ (qoe_ (j_h F_below (hr.mono (by decide)) rfl (qa_ (jv 0) (qa_ (jv 1) qb_)))) (qsm_ (qoe_ (j_h F_below (hr.mono (by decide)) rfl (qa_ (jv 2) (qa_ (jv 0) qb_)))))))),?_⟩
 rintro ds M Q ⟨q,lo,hi,rfl,m1,m2,h1,h2,k⟩
 have e1:decide (q<lo)=false:=by simp;grind
 have e2:decide (hi<q)=false:=by simp;grind
 refine ⟨_,_,rfl,m1,?_⟩
 rw [e1]
 refine ⟨_,_,rfl,m2,_,Sub.refl _,?_⟩
 rw [e2]
 exact k
def In69 (S:List (Rat×Rat)) (V:List Rat):Prop:=S.length=V.length/\∀(i:Nat) (x:Rat×Rat) (q:Rat),S[i]?=some x->V[i]?=some q->x.1<=q/\q<=x.2
def gWB:List D->(D->Prop)->Prop:=λds P=>∃(S:List (Rat×Rat)) (V:List Rat) (m:Nat),ds=[.lst (S.map bQ),frL V]/\S.length<=100/\In69 S V/\(∀x∈S,Wh 6 6 x.1/\Wh 6 6 x.2)/\m<=8000/\(∀q∈V,SmR m q)/\P (.bl true)
abbrev qbo_:Stmt:=top 17
theorem sc_within_bounds:FnScope ["bounds","told"] ["bounds","told"] (qe_ qbo_):=⟨rfl,rfl,rfl,by decide+kernel,rfl,by decide+kernel,by decide+kernel⟩
theorem h_within_bounds (B:Bl mg) (F:Def K mg "within_bounds" qbo_ ["bounds","told"]) (F_is_between:Has P w K mg base CX0 2 "is_between" ["q","low","high"] (spW K (pur gBe))):Has P w K mg base CX0 3 "within_bounds" ["bounds","told"] (spW K (pur gWB)):=by
 refine F.hasP sc_within_bounds (λds P h=>by obtain ⟨_,_,_,rfl,_⟩:=h;rfl) λf cdv A outer s H E hr=>?_
 have nd:=sc_within_bounds.nd
 refine ⟨_,(qc_ (qcd_ (ql5_ hr (qcu_ 0 rfl B.len) (qcu_ 1 rfl B.len)) (qf_ (qn_ j_bl)) qx_)
  (qf_ (qn_ (qtr_ rfl B.all rfl (qa_ (j_fz (qc7_ ["pair","q"] [none,none] ⟨rfl,by decide+kernel,by decide+kernel,rfl,rfl,by intro i x j _ h;exact absurd h (by rcases i with _|_|_|i<;>simp)⟩ rfl (qgp_ rfl B.zip (qa_ (jv 0) (qa_ (jv 1) qb_))) (λ_ _ _ _ _=>(qba_ (n:=2) rfl (qj_ (qg_ (i:=0) (show List.Nodup [("pair":Str),("q":Str)] by decide+kernel) rfl (Or.inl rfl)) (qj_ (qg_ (i:=1) (show List.Nodup [("pair":Str),("q":Str)] by decide+kernel) rfl (Or.inl rfl)) qy_)))) (λ_ _ _ _ _=>q4_) (λ_ _ _ _ _=>(j_h F_is_between (hr.mono (by decide)) rfl (qa_ (jv 1) (qa_ (qh_ 0 qd_) (qa_ (qh_ 0 qd_) qb_))))))) qb_))))),?_⟩
 rintro ds M Q ⟨S,V,m,rfl,lS,hin,bS,hm,sV,k⟩
 refine ⟨Nat.zero_le _,?_⟩
 show if (!(((S.map bQ).length:Int)==((V.map frD).length:Int)))=true then _ else _
 refine iteN (by rw [List.length_map,List.length_map];have:=hin.1;simp;omega) ?_
 refine ⟨λi out ρ M'=>M'=M/\out=(List.replicate i true).map D.bl/\∃o1 o2,ρ=[o1,o2],⟨rfl,rfl,_,_,rfl⟩,?_,?_⟩
 ·rintro i d out ρ M' hd ⟨rfl,rfl,o1,o2,rfl⟩
  obtain ⟨dx,dy,g1,g2,rfl⟩:=qef_ hd
  obtain ⟨x,h1,rfl⟩:=qq_ g1
  obtain ⟨y,h2,rfl⟩:=qq_ g2
  have hi:=(List.getElem?_eq_some_iff.mp h1).1
  obtain ⟨i1,i2⟩:=hin.2 i x y h1 h2
  obtain ⟨b1,b2⟩:=bS x (List.mem_of_getElem? h1)
  have sy:=sV y (List.mem_of_getElem? h2)
  exact ⟨rfl,_,_,_,rfl,Mx.of sy (sm6 b1) (by omega),Mx.of (sm6 b2) sy (by omega),i1,i2,by rw [List.length_map,List.length_replicate];exact qi_ (by omega),rfl,by rw [List.replicate_succ',List.map_append];rfl,.sh (bQ x),.sh (frD y),rfl⟩
 ·rintro out ρ M' ⟨rfl,rfl,o1,o2,rfl⟩
  show match bls ((List.replicate _ true).map D.bl) with|some bs=>_|none=>False
  rw [qgr_]
  have:(List.replicate (zipD (S.map bQ) (V.map frD)).length true).all id=true:=by rw [List.all_eq_true];intro b hb;exact List.eq_of_mem_replicate hb
  refine ⟨_,Sub.refl _,?_⟩
  show Q (.bl ((List.replicate (zipD (S.map bQ) (V.map frD)).length true).all id)) _
  rw [this]
  exact k
def gWs:List D->(D->Prop)->Prop:=λds P=>∃(S T:List (Rat×Rat)) (Z:List ZR) (M C:List Rat) (E m:Nat),ds=[q9_ S T Z,frL M,frL C]/\DhOk S T Z M C E m/\P (frL (Z.map λz=>qk_ z M C))
theorem DhOk.dw {S T:List (Rat×Rat)} {Z:List ZR} {M C:List Rat} {E m:Nat} (ok:DhOk S T Z M C E m) {z:ZR} (hz:z∈Z):DwOk 6 E 6 m z M C:=qkm_ (by decide) (by unfold Sm;decide) ok.e0 ok.sE (ok.r z hz) ok.wM ok.wC (by have:=ok.s;omega) (by have:=ok.t;omega) (by have:=ok.hm;omega)
abbrev qe8_:Stmt:=top 20
theorem sc_worths:FnScope ["plan","made","choice"] ["plan","made","choice"] (qe_ qe8_):=⟨rfl,rfl,rfl,by decide+kernel,rfl,by decide+kernel,by decide+kernel⟩
theorem h_worths (B:Bl mg) (F:Def K mg "worths" qe8_ ["plan","made","choice"]) (F_demand_worth:Has P w K mg base CX0 5 "demand_worth" ["demand","made","choice"] (spW K (pur gDW))):Has P w K mg base CX0 6 "worths" ["plan","made","choice"] (spW K (pur gWs)):=by
 refine F.hasP sc_worths (λds P h=>by obtain ⟨_,_,_,_,_,_,_,rfl,_⟩:=h;rfl) λf cdv A outer s H E hr=>?_
 have nd:=sc_worths.nd
 refine ⟨_,(qf_ (qn_ (j_fz (qc7_ ["demand","made","choice"] [none,some 1,some 2] ⟨rfl,by decide+kernel,by decide+kernel,rfl,rfl,q3_ rfl⟩ rfl (qr_ (qh_ 0 qd_)) (λ_ _ _ _ _=>(qg_ (i:=0) (show List.Nodup [("demand":Str),("made":Str),("choice":Str)] by decide+kernel) rfl (Or.inl rfl))) (λ_ _ _ _ _=>q4_) (λ_ _ _ _ _=>(j_h F_demand_worth (hr.mono (by decide)) rfl (qa_ (jv 0) (qa_ (jv 1) (qa_ (jv 2) qb_))))))))),?_⟩
 rintro ds M0 Q ⟨S,T,Z,M,C,E,m,rfl,ok,q⟩
 have lz:=ok.z
 refine ⟨λi out ρ M'=>M'=M0/\out=(Z.take i).map (λz=>frD (qk_ z M C))/\∃o,ρ=[o,.sh (frL M),.sh (frL C)],⟨rfl,rfl,_,rfl⟩,?_,?_⟩
 ·rintro i d out ρ M' hd ⟨rfl,rfl,o,rfl⟩
  obtain ⟨z,hz,rfl⟩:=qq_ hd
  have hi:=(List.getElem?_eq_some_iff.mp hz).1
  exact ⟨z,M,C,_,_,_,_,rfl,ok.dw (List.mem_of_getElem? hz),by rw [List.length_map,List.length_take];exact qi_ (by omega),rfl,q1_ (f:=λz=>frD (qk_ z M C)) hz,.sh (zQ z),rfl⟩
 ·rintro out ρ M' ⟨rfl,rfl,o,rfl⟩
  rw [List.length_map,List.take_length]
  have e:Z.map (λz=>frD (qk_ z M C))=(Z.map λz=>qk_ z M C).map frD:=by rw [List.map_map];rfl
  rw [e]
  exact ⟨_,Sub.refl _,q⟩
def gFt:List D->(D->Prop)->Prop:=λds P=>∃(S T:List (Rat×Rat)) (Z:List ZR) (M C:List Rat) (E m:Nat),ds=[q9_ S T Z,frL M,frL C]/\DhOk S T Z M C E m/\In69 S M/\In69 T C/\(∀x∈S,Wh 6 6 x.1/\Wh 6 6 x.2)/\(∀x∈T,Wh 6 6 x.1/\Wh 6 6 x.2)/\P (.bl (qec_ Z M C))
abbrev qj6_:Stmt:=top 21
theorem sc_fits:FnScope ["plan","made","choice"] ["plan","made","choice"] (qe_ qj6_):=⟨rfl,rfl,rfl,by decide+kernel,rfl,by decide+kernel,by decide+kernel⟩
theorem h_fits (B:Bl mg) (F:Def K mg "fits" qj6_ ["plan","made","choice"]) (F_within_bounds:Has P w K mg base CX0 3 "within_bounds" ["bounds","told"] (spW K (pur gWB))) (F_below:qe3_ P w K mg base) (F_worths:Has P w K mg base CX0 6 "worths" ["plan","made","choice"] (spW K (pur gWs))) (C_ZERO:Zero4 K mg):Has P w K mg base CX0 7 "fits" ["plan","made","choice"] (spW K (pur gFt)):=by
 refine F.hasP sc_fits (λds P h=>by obtain ⟨_,_,_,_,_,_,_,rfl,_⟩:=h;rfl) λf cdv A outer s H E hr=>?_
 have nd:=sc_fits.nd
 refine ⟨_,(qc_ (qcd_ (JW.jt (qqr_ (qfs_ (jt (j_h F_within_bounds (hr.mono (by decide)) rfl (qa_ (qh_ 0 qd_) (qa_ (jv 1) qb_))))) (qmx_ (qfs_ (jt (j_h F_within_bounds (hr.mono (by decide)) rfl (qa_ (qh_ 0 qd_) (qa_ (jv 2) qb_)))))))) (qf_ (qn_ j_bl)) qx_)
  (qf_ (qn_ (qoe_ (qti_ rfl B.any rfl (qa_ (j_fz (qc7_ ["worth"] [none] ⟨rfl,by decide+kernel,by decide+kernel,rfl,rfl,by intro i x j _ h;exact absurd h (by rcases i with _|_|_|i<;>simp)⟩ rfl (qr_ (j_h F_worths (hr.mono (by decide)) rfl (qa_ (jv 0) (qa_ (jv 1) (qa_ (jv 2) qb_))))) (λ_ _ _ _ _=>(qg_ (i:=0) (show List.Nodup [("worth":Str)] by decide+kernel) rfl (Or.inl rfl))) (λ_ _ _ _ _=>q4_) (λ_ _ _ _ _=>(j_h F_below (hr.mono (by decide)) rfl (qa_ (jv 0) (qa_ (qbr_ C_ZERO rfl) qb_)))))) qb_)))))),?_⟩
 rintro ds M0 Q ⟨S,T,Z,M,C,E,m,rfl,ok,iS,iT,bS,bT,q⟩
 have lz:=ok.z
 have hm:=ok.hm
 refine ⟨S,M,m,rfl,by have:=ok.s;omega,iS,bS,by omega,λx hx=>(ok.wM x hx).smr ok.e0 ok.sE,?_⟩
 refine ⟨T,C,m,rfl,by have:=ok.t;omega,iT,bT,by omega,λx hx=>(ok.wC x hx).smr ok.e0 ok.sE,?_⟩
 refine ⟨S,T,Z,M,C,E,m,rfl,ok,?_⟩
 refine ⟨λi out ρ M'=>M'=M0/\out=((Z.take i).map λz=>decide (qk_ z M C<0)).map D.bl/\∃o,ρ=[o],⟨rfl,rfl,_,rfl⟩,?_,?_⟩
 ·rintro i d out ρ M' hd ⟨rfl,rfl,o,rfl⟩
  obtain ⟨x,hx,rfl⟩:=qq_ hd
  rw [List.getElem?_map,Option.map_eq_some_iff] at hx
  obtain ⟨z,hz,rfl⟩:=hx
  have hi:=(List.getElem?_eq_some_iff.mp hz).1
  have dw:=ok.dw (List.mem_of_getElem? hz)
  refine ⟨_,0,rfl,Mx.of dw.s sm0 (by omega),by rw [List.length_map,List.length_map,List.length_take];exact qi_ (by omega),rfl,?_,.sh (frD (qk_ z M C)),rfl⟩
  rw [List.take_add_one,hz,Option.toList_some,List.map_append,List.map_append];rfl
 ·rintro out ρ M' ⟨rfl,rfl,o,rfl⟩
  have el:((Z.map λz=>qk_ z M C).map frD).length=Z.length:=by rw [List.length_map,List.length_map]
  rw [el,List.take_length]
  show match bls ((Z.map λz=>decide (qk_ z M C<0)).map D.bl) with|some bs=>_|none=>False
  rw [qgr_]
  have ea:(!(Z.map λz=>decide (qk_ z M C<0)).any id)=qec_ Z M C:=by
   unfold qec_
   rw [List.any_map,List.not_any_eq_all_not]
   congr 1
   funext z
   show (!decide (qk_ z M C<0))=_
   rw [<-decide_not,decide_eq_decide]
   constructor<;>intro h<;>grind
  refine ⟨_,Sub.refl _,?_⟩
  show Q (.bl (!(Z.map λz=>decide (qk_ z M C<0)).any id)) _
  rw [ea]
  exact q

/-! ### who wins,turn by turn -/
theorem qjp_ {α β:Type}:∀(O:List α) (V:List β) {t:α} {q:β},O[V.length]?=some t->O.zip (V++[q])=O.zip V++[(t,q)]
 |[],V,_,_,h=>by simp at h
 |o::O,[],t,q,h=>by
  have:o=t:=by simpa using h
  subst this
  simp
 |o::O,v::V,t,q,h=>by
  have ih:=qjp_ O V (t:=t) (q:=q) (by simpa using h)
  rw [List.cons_append,List.zip_cons_cons,List.zip_cons_cons,ih];rfl
theorem qlu_ {s t:Nat} {O:List Tn} {V:List Rat} {x:Tn} {q:Rat} (h:O[V.length]?=some x):mcQ s t O (V++[q])=putV (mcQ s t O V) (x,q):=by
 unfold mcQ
 rw [qjp_ O V h,List.foldl_append];rfl
def cmp (b:Bool) (mc:List Rat×List Rat):List Rat:=if b=true then mc.2 else mc.1
theorem qil_ (b:Bool) (mc:List Rat×List Rat) (x:Tn×Rat):cmp b (putV mc x)=if x.1.1=b then (cmp b mc).set x.1.2 x.2 else cmp b mc:=by
 obtain ⟨⟨c,k⟩,v⟩:=x
 cases b<;>cases c<;>rfl
theorem qiy_ {b:Bool} {k:Nat}:∀(L:List (Tn×Rat)) (mc:List Rat×List Rat),(∀y∈L,y.1≠(b,k))->(cmp b (L.foldl putV mc))[k]?=(cmp b mc)[k]?
 |[],_,_=>rfl
 |x::L,mc,h=>by
  rw [List.foldl_cons,qiy_ L _ λy hy=>h y (.tail _ hy),qil_]
  split
  ·rename_i e
   rw [List.getElem?_set_ne]
   intro e2
   exact h x (.head _) (by rw [<-e,<-e2])
  ·rfl
theorem ql6_ (b:Bool):∀(L:List (Tn×Rat)) (mc:List Rat×List Rat),(cmp b (L.foldl putV mc)).length=(cmp b mc).length
 |[],_=>rfl
 |x::L,mc=>by
  rw [List.foldl_cons,ql6_ b L,qil_]
  split
  ·rw [List.length_set]
  ·rfl
theorem qo9_ {b:Bool} {k:Nat} {v:Rat}:∀(L:List (Tn×Rat)) (mc:List Rat×List Rat),(L.map (·.1)).Nodup->((b,k),v)∈L->k<(cmp b mc).length->(cmp b (L.foldl putV mc))[k]?=some v
 |[],_,_,h,_=>by cases h
 |x::L,mc,nd,h,hk=>by
  rw [List.map_cons,List.nodup_cons] at nd
  rw [List.foldl_cons]
  rcases List.mem_cons.mp h with e|h
  ·subst e
   rw [qiy_ L _ λy hy e=>nd.1 (by rw [<-e];exact List.mem_map.mpr ⟨y,hy,rfl⟩),qil_,if_pos rfl,List.getElem?_set,if_pos rfl,if_pos hk]
  ·refine qo9_ L _ nd.2 h ?_
   have:=ql6_ b [x] mc
   rw [List.foldl_cons,List.foldl_nil] at this
   rw [this];exact hk
theorem qeb_ {α β:Type}:∀(O:List α) (V:List β),(O.zip V).map (·.1)=O.take V.length
 |[],V=>by simp
 |o::O,[]=>by simp
 |o::O,v::V=>by rw [List.zip_cons_cons,List.map_cons,qeb_ O V,List.length_cons,List.take_succ_cons]
theorem qnu_ (s t:Nat) (b:Bool):(cmp b (List.replicate s (0:Rat),List.replicate t 0)).length=if b=true then t else s:=by cases b<;>simp [cmp]
theorem qod_ {s t:Nat} {O:List Tn} {V:List Rat} {b:Bool} {k j:Nat} {v:Rat} (nd:O.Nodup) (hO:O[j]?=some (b,k)) (hV:V[j]?=some v) (hk:k<if b=true then t else s):(cmp b (mcQ s t O V))[k]?=some v:=by
 unfold mcQ
 refine qo9_ _ _ ?_ ?_ (by rw [qnu_];exact hk)
 ·rw [qeb_];exact nd.sublist (List.take_sublist _ _)
 ·exact List.mem_of_getElem? (List.getElem?_zip_eq_some.mpr ⟨hO,hV⟩)
theorem qll_ {s t:Nat} {O:List Tn} {V:List Rat} {b:Bool} {k:Nat} (nd:O.Nodup) (hO:O[V.length]?=some (b,k)):(cmp b (mcQ s t O V)).getD k 0=0:=by
 unfold mcQ
 rw [List.getD_eq_getElem?_getD,qiy_ _ _ λy hy e=>?_]
 ·cases b with
  |true=>show ((List.replicate t (0:Rat))[k]?).getD 0=0;rw [List.getElem?_replicate];split<;>rfl
  |false=>show ((List.replicate s (0:Rat))[k]?).getD 0=0;rw [List.getElem?_replicate];split<;>rfl
 ·have m:y.1∈(O.zip V).map (·.1):=List.mem_map.mpr ⟨y,hy,rfl⟩
  rw [qeb_,e] at m
  obtain ⟨i,hi,e2⟩:=List.mem_take_iff_getElem.mp m
  obtain ⟨h1,h2⟩:=List.getElem?_eq_some_iff.mp hO
  have:=(List.getElem?_inj (i:=i) (j:=V.length) (show i<O.length by omega) nd).mp (by rw [List.getElem?_eq_getElem (by omega),hO,e2])
  omega
def bd (S T:List (Rat×Rat)) (t:Tn):Rat×Rat:=if t.1=true then T.getD t.2 (0,0) else S.getD t.2 (0,0)
def WinC (S T:List (Rat×Rat)) (Z:List ZR) (O:List Tn) (V:List Rat):Prop:=q2_ (qbn_ S T Z (O.drop V.length)) (mcQ S.length T.length O V).1 (mcQ S.length T.length O V).2
theorem qwr_ {S T:List (Rat×Rat)} {Z:List ZR} (pl:PlO S T Z):Sz S.length T.length Z:=λz hz=>⟨(pl.r z hz).s,(pl.r z hz).t⟩
theorem qhp_ {S T:List (Rat×Rat)} {Z:List ZR} {O:List Tn} {V:List Rat} {t:Tn} (pl:PlO S T Z) (hO:O.Perm (qby_ S.length T.length)) (ht:O[V.length]?=some t):
  ((t.1=true↔WinC S T Z O V)->∃q,qd4_ S T Z O V=some q/\(bd S T t).1<=q/\q<=(bd S T t).2/\(WinC S T Z O (V++[q])↔WinC S T Z O V))/\
  (¬(t.1=true↔WinC S T Z O V)->qd4_ S T Z O V=none/\∀q,(bd S T t).1<=q->q<=(bd S T t).2->(WinC S T Z O (V++[q])↔WinC S T Z O V)):=by
 have nd:O.Nodup:=hO.nodup_iff.mpr (qei_ _ _)
 have hi:=(List.getElem?_eq_some_iff.mp ht).1
 have hk:=turnsT_mem.mp (hO.mem_iff.mp (List.mem_of_getElem? ht))
 have ml:=qfv_ S.length T.length O V
 have sR:=qlv_ (qwr_ pl) (O.drop (V.length+1))
 have ed:O.drop V.length=t::O.drop (V.length+1):=by
  rw [List.drop_eq_getElem_cons hi]
  congr 1
  exact (List.getElem?_eq_some_iff.mp ht).2
 have eW:WinC S T Z O V=q2_ (qfq_ S T (qbn_ S T Z (O.drop (V.length+1))) t) (mcQ S.length T.length O V).1 (mcQ S.length T.length O V).2:=by unfold WinC;rw [ed];rfl
 have eN:∀q,WinC S T Z O (V++[q])=q2_ (qbn_ S T Z (O.drop (V.length+1))) (putV (mcQ S.length T.length O V) (t,q)).1 (putV (mcQ S.length T.length O V) (t,q)).2:=λq=>by
  unfold WinC;rw [qlu_ ht,List.length_append];rfl
 have hz:=qll_ (s:=S.length) (t:=T.length) (V:=V) (b:=t.1) (k:=t.2) nd ht
 obtain ⟨b,k⟩:=t
 have en:qd4_ S T Z O V=if b=true then chsQ S T (qbn_ S T Z (O.drop (V.length+1))) k (mcQ S.length T.length O V).1 (mcQ S.length T.length O V).2 else mkQ S (qbn_ S T Z (O.drop (V.length+1))) k (mcQ S.length T.length O V).1 (mcQ S.length T.length O V).2:=by unfold qd4_;rw [ht]
 rw [en]
 simp only [eW,eN]
 clear eW eN en
 generalize qbn_ S T Z (O.drop (V.length+1))=R at sR
 generalize mcQ S.length T.length O V=mc at ml hz
 obtain ⟨M,C⟩:=mc
 cases b with
 |true=>
  have hk:k<T.length:=hk
  have h0:C.getD k 0=0:=hz
  have g:=qlx_ (S:=S) (M:=M) (C:=C) sR ml.2 hk h0 (lo:=(T.getD k (0,0)).1) (hi:=(T.getD k (0,0)).2) rfl
  have et:qfq_ S T R (true,k)=outQ k (R++ownR S T k):=rfl
  have ep:∀q,putV (M,C) ((true,k),q)=(M,C.set k q):=λq=>rfl
  rw [et,if_pos rfl]
  simp only [ep,bd]
  have cn:qmo_ S T R k M C=false↔q2_ (R++ownR S T k) M (C.set k (qcv_ S T R k M C)):=by
   unfold qmo_ q2_
   rw [List.any_eq_false]
   constructor
   ·intro h z hz'
    have:¬qk_ z M (C.set k (qcv_ S T R k M C))<0:=by simpa using h z hz'
    grind
   ·intro h z hz'
    have:=h z hz'
    have:¬qk_ z M (C.set k (qcv_ S T R k M C))<0:=by grind
    simpa using this
  constructor
  ·intro h
   have w:=h.mp trivial
   obtain ⟨g1,g2,g3,g4⟩:=g.1 w
   refine ⟨qcv_ S T R k M C,?_,g2,g3,λ_=>w,λ_=>g4⟩
   unfold chsQ
   rw [cn.mpr g1];rfl
  ·intro h
   have w:¬q2_ (outQ k (R++ownR S T k)) M C:=λw=>h ⟨λ_=>w,λ_=>trivial⟩
   refine ⟨?_,λq h1 h2=>⟨λs=>(w (g.2 q h1 h2 s)).elim,λs=>(w s).elim⟩⟩
   unfold chsQ
   cases e:qmo_ S T R k M C with
   |true=>rfl
   |false=>
    exfalso
    have s:=cn.mp e
    obtain ⟨s1,s2⟩:=solves_app.mp s
    have b:=(qiw_ hk (by rw [List.length_set];exact ml.2)).mp s2
    rw [qgu_ (by rw [ml.2];exact hk)] at b
    exact w (g.2 _ b.1 b.2 s1)
 |false=>
  have hk:k<S.length:=hk
  have le:=(pl.bs _ (qho_ hk)).2.2
  have g:=qlr_ (C:=C) (M:=M) sR ml.1 hk (lo:=(S.getD k (0,0)).1) (hi:=(S.getD k (0,0)).2) rfl le
  have et:qfq_ S T R (false,k)=onQ (szR S k R):=rfl
  have ep:∀q,putV (M,C) ((false,k),q)=(M.set k q,C):=λq=>rfl
  rw [et,if_neg Bool.false_ne_true]
  simp only [ep,bd]
  constructor
  ·intro h
   have w:¬q2_ (onQ (szR S k R)) M C:=λw=>by have:=h.mpr w;cases this
      -- a row that fails
   have:∃z,R.find? (qf0_ S k M C)=some z:=by
    cases e:R.find? (qf0_ S k M C) with
    |some z=>exact ⟨z,rfl⟩
    |none=>
     exfalso
     refine w (solves_on.mpr λz hz'=>?_)
     obtain ⟨y,hy,rfl⟩:=List.mem_map.mp hz'
     have:=List.find?_eq_none.mp e y hy
     have:¬qk_ (spQ k (endQ (aAt k y) (S.getD k (0,0))) y) M C<0:=by unfold qf0_ at this;simpa using this
     grind
   obtain ⟨z,hz'⟩:=this
   have zR:=List.mem_of_find?_eq_some hz'
   have zn:=List.find?_some hz'
   have zn:qk_ (spQ k (endQ (aAt k z) (S.getD k (0,0))) z) M C<0:=by unfold qf0_ at zn;simpa using zn
   have zl:=sR z zR
   rw [qe6_ (by rw [zl.1,ml.1]) (by rw [zl.1];exact hk)] at zn
   refine ⟨endQ (aAt k z) (S.getD k (0,0)),by unfold mkQ;rw [hz'];rfl,?_,?_,λs=>?_,λs=>(w s).elim⟩
   ·unfold endQ;split<;>grind
   ·unfold endQ;split<;>grind
   ·have:=s z zR
    grind
  ·intro h
   have w:q2_ (onQ (szR S k R)) M C:=by
    rcases Classical.em (q2_ (onQ (szR S k R)) M C) with w|w
    ·exact w
    ·exact (h ⟨λe=>(nomatch e),λe=>(w e).elim⟩).elim
   refine ⟨?_,λq h1 h2=>⟨λ_=>w,λ_=>g.mp w q h1 h2⟩⟩
   unfold mkQ
   have:R.find? (qf0_ S k M C)=none:=List.find?_eq_none.mpr λz hz'=>by
    have:=solves_on.mp w _ (List.mem_map.mpr ⟨z,hz',rfl⟩)
    have:¬qk_ (spQ k (endQ (aAt k z) (S.getD k (0,0))) z) M C<0:=by grind
    unfold qf0_
    simpa using this
   rw [this];rfl
/-! ### sizes of what is told -/
theorem Vals69.snoc {m n:Nat} {V:List Rat} {q:Rat} {B:Nat} (h:Vals69 m V) (b0:B≠0) (sB:Sm n (B:Int)) (hq:∀E:Nat,E≠0->Sm m (E:Int)->(∀x∈V,Wh E m x)->Wh (E*B) (m+n) q):Vals69 (m+n) (V++[q]):=by
 obtain ⟨E,e0,sE,w⟩:=h
 refine ⟨E*B,Nat.mul_ne_zero e0 b0,by rw [Int.natCast_mul];exact sE.mul sB,qdr_ (λx hx=>(w x hx).up B b0 sB) (hq E e0 sE w)⟩
theorem Vals69.mono {m n:Nat} {V:List Rat} (h:Vals69 m V) (l:m<=n):Vals69 n V:=let ⟨E,e0,sE,w⟩:=h;⟨E,e0,sE.mono l,λx hx=>(w x hx).mono l⟩
theorem Vals69.btw {m:Nat} {V:List Rat} {q:Rat} (h:Vals69 m V) (hq:Wh 42 12 q):Vals69 (m+225) (V++[q]):=
 (Vals69.snoc (n:=12) (B:=42) h (by decide) (by unfold Sm;decide) λE e0 sE _=>by
  have:=hq.up E e0 sE
  rw [Nat.mul_comm,Nat.add_comm] at this
  exact this).mono (by omega)
theorem qo1_ {S T:List (Rat×Rat)} {Z:List ZR} {O:List Tn} {V:List Rat} {q:Rat} {m:Nat} (pl:PlO S T Z) (od:OrdO S T O) (h:Vals69 m V) (hm:m<=1300) (e:qd4_ S T Z O V=some q):Vals69 (m+225) (V++[q]):=by
 unfold qd4_ at e
 split at e
 ·cases e
 ·rename_i t ht
  have hi:=(List.getElem?_eq_some_iff.mp ht).1
  have hk:=od.k t (List.mem_of_getElem? ht)
  split at e
  ·rename_i c
   rw [if_pos c] at hk
   obtain ⟨E,e0,sE,w⟩:=h
   have wr:=qur_ pl od hi e0 sE hm w
   have hn:=wr.hn
   obtain ⟨B,b0,sB,wB⟩:=qmu_ wr hk
   unfold chsQ at e
   split at e
   ·cases e
   ·cases e
    refine ⟨E*B,Nat.mul_ne_zero e0 b0,by rw [Int.natCast_mul];exact (sE.mul sB).mono (by omega),qdr_ (λx hx=>((w x hx).up B b0 sB).mono (by omega)) (wB.mono (by omega))⟩
  ·rename_i c
   rw [if_neg c] at hk
   unfold mkQ at e
   rw [Option.map_eq_some_iff] at e
   obtain ⟨z,_,rfl⟩:=e
   exact h.btw (wh42 (qkd_ (λx hx=>⟨(pl.bs x hx).1,(pl.bs x hx).2.1⟩) hk))

/-! ### dict(zip(a,b)),keys are tuples of texts and whole numbers -/
theorem qh4_:entryFor table "zip.__getattribute__"=some Builtin.«object.__getattribute__»:=
 entryFor_alias (id':="object.__getattribute__") (by kernel_rfl) (by first|rfl|decide+kernel) (by decide+kernel) (by kernel_rfl)
theorem qiq_:typeLookup (.type "zip") "keys"=pure none:=by rw [typeLookup_type,builtinLookup_eq_fast];kernel_rfl
theorem qgf_:typeLookup (.type "zip") "__getattr__"=pure none:=by rw [typeLookup_type,builtinLookup_eq_fast];kernel_rfl
theorem qoi_ {z:Addr} {vs:Array Value} (u:Tok):Meets (Builtin.«object.__getattribute__» ⟨[.ref z,.str "keys" u],[]⟩) (λA R s=>s.heap.get? z=some {cls:= .type "zip",data:= .fields vs}/\raisesAttr (.ref z) "keys" A R s):=
 Meets.of_wp λprog w A R s hs=>by
  obtain ⟨hp,g,d,tk,os⟩:=s
  obtain ⟨ho,hs⟩:=hs
  have hT:(⟨hp,g,d,tk,os⟩:Shared).TypeIs (.ref z) "zip":=⟨_,ho,rfl⟩
  have f1:=qiq_
  unfold Builtin.«object.__getattribute__»
  repeat (any_goals (first|assumption|wp_step))
  exact wpAny_raiseAttrError hs.1 hs.2 (attrMsg_fits (by decide+kernel) (by decide+kernel))
section
variable {prog:Program} {w:World} {A:Around} {E:Value->Shared->Prop} {s:Shared}
theorem qke_ {z:Addr} {vs:Array Value} {Q:Option Value->Shared->Prop} (ho:s.heap.get? z=some {cls:= .type "zip",data:= .fields vs}) (hA:A.handled=none)
  (h:∀h' tk,(∀b ob,s.heap.get? b=some ob->h'.get? b=some ob)->Q none {s with heap:=h',toks:=tk}):wpAny (model prog w) A (getAttr? (.ref z) "keys") Q E s:=by
 obtain ⟨hp,g,d,tk,os⟩:=s
 have hT:∀t,(⟨hp,g,d,t,os⟩:Shared).TypeIs (.ref z) "zip":=λt=>⟨_,ho,rfl⟩
 have f1:=sub_AttributeError
 have f3:=F.slot_zip_getattribute.lookup
 have f4:=F.slot_zip_getattribute.bind (.ref z)
 have f5:=qgf_
 unfold getAttr? getAttrBy? getAttrBy
 repeat (any_goals (first|assumption|((with_reducible show wpAny _ _ (call (Value.builtin "zip.__getattribute__") _ _) _ _ _);refine call_meets F.slot_zip_getattribute (hT _) qh4_ (F.args_zip_getattribute_2 _ _) (qoi_ _) ⟨ho,hA,λh' tk' e hx=>?_⟩)|wp_step))
 obtain ⟨t',u',he⟩:=hx.there
 show wpAny _ _ (getattributeRaised _ _ _ _ _ _ _) _ _ _
 unfold getattributeRaised
 repeat (any_goals (first|assumption|wp_step))
 exact h h' tk' hx.keeps
theorem qhr_:entryFor table "dict.update.loop"=some Builtin.«dict.update.loop»:=entryFor_of_tree (by kernel_rfl)
theorem qel_:plainId "dict.update.loop"=true:=by decide+kernel
theorem qkn_ {p:Addr} {x y:Value} {Q:List Value->Shared->Prop} (h:IsPair s.heap p x y) (q:Q [x,y] s):wpAny (model prog w) A (Builtin.Dict.pairItems (.ref p)) Q E s:=by
 obtain ⟨hp,g,d,tk,os⟩:=s
 have h:hp.get? p=_:=h
 have hT:(⟨hp,g,d,tk,os⟩:Shared).TypeIs (.ref p) "tuple":=⟨_,h,rfl⟩
 unfold Builtin.Dict.pairItems
 repeat (any_goals (first|assumption|wp_step))
end
abbrev kT (prog:Program) (w:World):HeapKind prog w (List Key):=tupleKind (qd9_ prog w)
def enK (ks:Nat->List Key) (ad:Nat->Addr) (ys:Array Value) (i:Nat):List (List Key×Addr×Value):=(List.range i).map λj=>(ks j,ad j,ys.getD j .none)
theorem qjj_ (ks:Nat->List Key) (ad:Nat->Addr) (ys:Array Value) (i:Nat):enK ks ad ys (i+1)=enK ks ad ys i++[(ks i,ad i,ys.getD i .none)]:=by unfold enK;rw [List.range_succ,List.map_append];rfl
section
variable {prog:Program} {w:World} {A:Around} {E:Value->Shared->Prop} {a b z TI TO i1 i2 S:Addr} {xs ys:Array Value}
theorem qhj_ {h h':Heap} {k:List Key} {c:Addr} (x:(kT prog w).is h k c) (e:∀o,h.get? c=some o->h'.get? c=some o):(kT prog w).is h' k c:=by
 obtain ⟨o,items,n,h1,h2⟩:=x
 exact ⟨o,items,n,e o h1,h2⟩
theorem qix_ {h h':Heap} {es:List (List Key×Addr×Value)} (x:h.DictOfH (kT prog w) S es) (e:∀o,h.get? S=some o->h'.get? S=some o) (k:∀y∈es,(kT prog w).is h' y.1 y.2.1):h'.DictOfH (kT prog w) S es:=by
 obtain ⟨o,es',ep,h1,h2,h3,h4,_,h5⟩:=x
 exact ⟨o,es',ep,e o h1,h2,h3,h4,k,h5⟩
theorem qrt_ {R:Result->Shared->Prop} {res:Value} (hh:A.in1.handled=none) (hu:A.in1.units<cLine) (D:ZipApart z TI TO i1 i2 a b) (hS:S∉[z,TI,TO,i1,i2,a,b]) (hz:min xs.size ys.size<=10000) {ks:Nat->List Key} {ad:Nat->Addr}
  (inj:∀i j,i<xs.size->j<xs.size->ks i=ks j->i=j) (hx:∀j,j<xs.size->xs[j]?=some (.ref (ad j))) (had:∀j,j<xs.size->ad j∉[S,z,TO,i1,i2]):
  ∀(k i:Nat) (s:Shared) (n:Int) (t0:Tok),min xs.size ys.size - i=k->i<=min xs.size ys.size->ZL a b z TI TO i1 i2 xs ys i s.heap->s.heap.DictOfH (kT prog w) S (enK ks ad ys i)->(∀j,j<xs.size->(kT prog w).is s.heap (ks j) (ad j))->
  (∀h' tk,(∀d o,d∉[S,z,TO,i1,i2]->s.heap.get? d=some o->h'.get? d=some o)->h'.DictOfH (kT prog w) S (enK ks ad ys (min xs.size ys.size))->R (.ok (.ret res)) {s with heap:=h',toks:=tk})->
  codeAny (model prog w) A (.builtin "dict.update.loop" ⟨[.ref S,.ref z,.int n t0,res],[]⟩) R s:=by
 have hSz:S∉[z,TO,i1,i2]:=λm=>hS (by
  simp only [List.mem_cons,List.not_mem_nil,or_false] at m ⊢
  rcases m with e|e|e|e<;>simp [e])
 have had2:∀j,j<xs.size->ad j≠S/\ad j∉[z,TO,i1,i2]:=λj hj=>by
  have:=had j hj
  rw [List.mem_cons,not_or] at this
  exact this
 intro k
 induction k with
 |zero=>
  intro i s n t0 hk hi Z hd hkey hR
  have hin:i=min xs.size ys.size:=by omega
  refine codeAny_builtin qhr_ ?_
  rw [Around.under_plainId qel_ _]
  show wpAny _ A.in1 (pyNext (.ref z) >>= _) _ _ s
  refine wpAny_bind (Z.done hh D (Or.elim (Nat.le_total xs.size ys.size) (λ_=> .inl (Array.getElem?_eq_none (by omega))) λ_=> .inr (Array.getElem?_eq_none (by omega))) λh' kk=>?_)
  show wpAny _ A.in1 (Builtin.Dict.addKeywords S [] >>= λ_=>ret res) _ _ _
  refine wpAny_bind (wpAny_pure (wpAny_pure ?_))
  rw [hin] at hd
  refine hR h' s.toks (λd o hd e=>kk d o (λm=>hd (List.mem_cons_of_mem _ m)) e) (qix_ hd (λo e=>kk S o hSz e) λy hy=>?_)
  obtain ⟨j,hj,rfl⟩:=List.mem_map.mp hy
  have hj:j<xs.size:=by have:=List.mem_range.mp hj;omega
  exact qhj_ (hkey j hj) λo e=>kk _ o (had2 j hj).2 e
 |succ k ih=>
  intro i s n t0 hk hi Z hd hkey hR
  have hlt:i<xs.size:=by omega
  have hlt2:i<ys.size:=by omega
  refine codeAny_builtin qhr_ ?_
  rw [Around.under_plainId qel_ _]
  show wpAny _ A.in1 (pyNext (.ref z) >>= _) _ _ s
  refine wpAny_bind (Z.next D (x:= .ref (ad i)) (y:=ys.getD i .none) (hx i hlt) (by rw [Array.getElem?_eq_getElem hlt2];simp [Array.getD,hlt2]) λh' Z' hnew kk=>?_)
  have hkey':∀j,j<xs.size->(kT prog w).is h' (ks j) (ad j):=λj hj=>qhj_ (hkey j hj) λo e=>kk _ o (had2 j hj).2 e
  have hd':h'.DictOfH (kT prog w) S (enK ks ad ys i):=qix_ hd (λo e=>kk S o hSz e) λy hy=>by
   obtain ⟨j,hj,rfl⟩:=List.mem_map.mp hy
   exact hkey' j (by have:=List.mem_range.mp hj;omega)
  refine wpAny_bind (wpAny_holding (wpAny_bind (wpAny_tryCatch (qkn_ (s:={s with heap:=h'}) hnew ?_))))
  show wpAny _ A.in1 (holding _ (dictSet S (.ref (ad i)) (ys.getD i .none))) _ _ _
  refine wpAny_holding (wpAny_dictSet_heap (s:={s with heap:=h'}) (knd:=kT prog w) hu (hkey' i hlt) hd' (λh2 hd2 sb=>?_) (by unfold enK;rw [List.length_map,List.length_range,sizeLine_eq];omega))
  have hno:atKey (enK ks ad ys i) (ks i)=none:=by
   unfold atKey
   rw [Option.map_eq_none_iff,List.find?_eq_none]
   intro y hy e
   obtain ⟨j,hj,rfl⟩:=List.mem_map.mp hy
   have hj:=List.mem_range.mp hj
   have:=inj j i (by omega) hlt (of_decide_eq_true e)
   omega
  rw [storedH_new hno,<-qjj_] at hd2
  have neS:s.heap.objs.size≠S:=by
   obtain ⟨o,_,_,e,_⟩:=hd
   exact Nat.ne_of_gt (Heap.lt_size e)
  show wpAny _ A.in1 (again _) _ _ _
  refine wpAny_pure ⟨plainId_quiet qel_ _,?_⟩
  have keep2:∀d o,d≠S->h'.get? d=some o->h2.get? d=some o:=λd o hne e=>(sb.2 d hne).trans e
  refine ih (i+1) _ _ _ (by omega) (by omega) (Z'.frame hS keep2 (by obtain ⟨o,_,_,e,_⟩:=hd2;exact ⟨o,e⟩)) hd2 (λj hj=>qhj_ (hkey' j hj) λo e=>keep2 _ o (had2 j hj).1 e) λh3 tk k3 hd3=>?_
  exact hR h3 tk (λd o hn e=>k3 d o hn (keep2 d o (λz=>hn (by simp [z])) (kk d o (λm=>hn (List.mem_cons_of_mem _ m)) e))) hd3
end
def IsDW (P:Program) (w:World) (p:Addr) (xs:List (List Key×Addr×Value)):Heap->Prop:=λh=>(p==sysModules)=false/\xs.length<=sizeLine/\(xs.map (·.1)).Nodup/\∃o es ep,h.get? p=some o/\o.ExactDict/\o.data= .dict es ep/\es.toList=xs.map (entryOfKey (kT P w))
theorem qwl_ {P:Program} {w:World} {H:Hp} {h:Heap} {p:Addr} {xs:List (List Key×Addr×Value)} (k:IsDW P w p xs h):ObjOk P w H h p (.ext (IsDW P w p xs)):=by
 refine ⟨k,?_,λh1 h2 ⟨a1,a2,a3,o,es,ep,b1,b2⟩ e=>⟨a1,a2,a3,o,es,ep,e o b1,b2⟩⟩
 obtain ⟨_,_,_,o,_,_,h1,_⟩:=k
 exact ⟨o,h1⟩
theorem qkf_:bootBuiltins "dict"=some (.type "dict"):=by kernel_rfl
section
variable {X:Cx} {a b e:Expr} {ta:TA} {td te:TE} {p p2 pos pos2:Pos}
def tDZ (X:Cx) (ta:TA):TE:=λσ H Q=>ta σ H λvs H1=>∃(l r:Addr) (xs ys:List V) (ks:Nat->List Key) (ad:Nat->Addr),vs=[.ref l,.ref r]/\SqL X.K H1 l xs/\SqL X.K H1 r ys/\xs.length=ys.length/\xs.length<=1000/\
 (∀i j,i<xs.length->j<xs.length->ks i=ks j->i=j)/\(∀j,j<xs.length->xs[j]?=some (.ref (ad j))/\SqT X.K H1 (ad j) ((ks j).map kV))/\
 ∀q us,H1 q=none->Vals ys us->Q (.ref q) (upd H1 q (.ext (IsDW X.prog X.w q (enK ks ad us.toArray xs.length))))
theorem qpr_ (hgl:Gl X "dict") (hml:X.mg "dict"=none) (hgz:Gl X "zip") (hmz:X.mg "zip"=none) (hc:X.calm=true) (hu:X.A.units+10<cLine) (ha:PA X [a,b] ta)
  (hs:starEach [a,b] X.env=[(false,eval a X.env),(false,eval b X.env)]:=by rfl) (hs2:starEach [b] X.env=[(false,eval b X.env)]:=by rfl)
  (hs3:starEach [.Call (.Name "zip" p2) [a,b] [] pos2] X.env=[(false,eval (.Call (.Name "zip" p2) [a,b] [] pos2) X.env)]:=by rfl):
  PE X (.Call (.Name "dict" p) [.Call (.Name "zip" p2) [a,b] [] pos2] [] pos) (tDZ X ta):=by
 intro pins s σ H Q I h
 refine wpAny_Call_Name_kw (qde_ I hgl hml qkf_ (PyProof.Rows.callWith_type1 ?_ hs3 rfl))
 rw [hs3]
 show wpAny _ _ (spliced ((false,eval (.Call (.Name "zip" p2) [a,b] [] pos2) X.env)::[])) _ _ s
 refine Calls.spliced_cons (wpAny_Call_Name_kw (qde_ I hgz hmz boot_zip (PyProof.Rows.callWith_type1 (thn (ha pos2 pins s σ H _ I h) λus s1 ⟨vs,H1,I1,r1,q1⟩=>?_) (by rw [hs,hs2]) (by rw [hs2];rfl))))
 obtain ⟨l,r,xs,ys,ks,ad,rfl,hqa,hqb,lxy,l1000,inj,hk,q⟩:=q1
 obtain ⟨u,v,rfl,ru,rv⟩:=qkb_ r1
 cases ru
 cases rv
 obtain ⟨ia,ra,pa,za⟩:=I1.list hqa
 obtain ⟨ib,rb,pb,zb⟩:=I1.list hqb
 have lt:∀{c:Addr} {its:Array Value},s1.heap.IsList c its->c<s1.heap.objs.size:=λh=>by obtain ⟨o,e,_⟩:=h;exact Heap.lt_size e
 have lta:=lt pa.isList
 have ltb:=lt pb.isList
 have la:=ra.length
 have lb:=rb.length
 refine call_zip_2 pa.isList pb.isList λh' q1 q2 q3 q4 q5 q6 q7=>Calls.spliced_nil ?_
 have Z:ZL l r (s1.heap.objs.size+4) (s1.heap.objs.size+2) (s1.heap.objs.size+3) s1.heap.objs.size (s1.heap.objs.size+1) ia.toArray ib.toArray 0 h':=
  ⟨.inl ⟨q1,_,_,q3⟩,q2,q4,q5,pa.isList.at λo e=>q7 _ o e,pb.isList.at λo e=>q7 _ o e,⟨_,q3⟩⟩
 have hS:h'.objs.size∉[s1.heap.objs.size+4,s1.heap.objs.size+2,s1.heap.objs.size+3,s1.heap.objs.size,s1.heap.objs.size+1,l,r]:=by
  simp only [List.mem_cons,List.not_mem_nil,or_false,not_or,q6]
  have la:=lta
  have lb:=ltb
  refine ⟨?_,?_,?_,?_,?_,?_,?_⟩<;>(intro e;revert la lb e;generalize s1.heap.objs.size=n;intro la lb e;first|(subst e;exact absurd la (by exact Nat.not_lt.mpr (Nat.le_add_right n 5)))|(subst e;exact absurd lb (by exact Nat.not_lt.mpr (Nat.le_add_right n 5)))|exact absurd e (by show n+5≠_;simp))
  -- the keys
 have key1:∀j,j<xs.length->(kT X.prog X.w).is s1.heap (ks j) (ad j):=λj hj=>by
  obtain ⟨its,rr,tt,_⟩:=I1.tuple (hk j hj).2
  obtain ⟨o,h1,h2,n,h3⟩:=tt
  exact ⟨o,its.toArray,n,h1,h2,h3,by simpa using qfl_ rr⟩
 have ltk:∀j,j<xs.length->ad j<s1.heap.objs.size:=λj hj=>by obtain ⟨o,_,_,e,_⟩:=key1 j hj;exact Heap.lt_size e
 have hit:∀j,j<ia.toArray.size->ia.toArray[j]?=some (.ref (ad j)):=λj hj=>by
  have hj:j<xs.length:=by simpa [la] using hj
  obtain ⟨u,hu',ru⟩:=ra.get (hk j hj).1
  cases ru
  simpa using hu'
 have bigS:s1.heap.objs.size<=h'.objs.size:=by rw [q6];exact Nat.le_add_right _ 5
 refine callType_codes (Q₁:=λobj t=>obj= .ref h'.objs.size/\t={s1 with heap:=h'.push {cls:= .type "dict",data:= .dict #[]}}) F.kt_called_dict (F.kt_typeCall_dict_1 _) F.entry_dict_init (kt_code_dict_new _ ⟨rfl,rfl⟩) λobj t ht=>?_
 obtain ⟨rfl,rfl⟩:=ht
 have hnew:(h'.push {cls:= .type "dict",data:= .dict #[]}).DictOfH (kT X.prog X.w) h'.objs.size []:=Heap.DictOfH.new h'
 refine ⟨hnew.typeIs,F.args_dict_init_2 _ _,?_⟩
 have hSo:(h'.push {cls:= .type "dict",data:= .dict #[]}).get? h'.objs.size=some {cls:= .type "dict",data:= .dict #[]}:=Heap.get?_push_size _ rfl
 have pk:∀c o,h'.get? c=some o->(h'.push {cls:= .type "dict",data:= .dict #[]}).get? c=some o:=λc o e=>Heap.get?_push_of_some _ e
 have Z1:=Z.frame (h':=h'.push {cls:= .type "dict",data:= .dict #[]}) hS (λc o hc e=>pk c o e) ⟨_,hSo⟩
 have zn1:=pk _ _ q1
 generalize hg:h'.push {cls:= .type "dict",data:= .dict #[]}=g1 at hnew hSo pk Z1 zn1
 have T1:Shared.TypeIs {s1 with heap:=g1} (.ref (s1.heap.objs.size+4)) "zip":=⟨_,zn1,rfl⟩
 unfold Builtin.«dict.__init__»
 refine wpAny_bind ?_
 unfold Builtin.Dict.selfAndRest
 refine wpAny_bind (wpAny_notOrdered_dict hnew.typeIs ?_)
 show wpAny _ _ (pure (h'.objs.size,[Value.ref (s1.heap.objs.size+4)])) _ _ _
 refine wpAny_pure ?_
 show wpAny _ _ (Builtin.Dict.updateFrom "dict.__init__" h'.objs.size (.ref (s1.heap.objs.size+4)) [] .none) _ _ _
 unfold Builtin.Dict.updateFrom
 refine wpAny_bind (wpAny_typeOf T1 ?_)
 rw [if_pos (by decide)]
 refine wpAny_bind (qke_ (s:={s1 with heap:=g1}) zn1 (I1.ok.hd hc) λh2 tk k2=>?_)
 rw [if_pos (show Option.isNone (none:Option Value)=true from rfl)]
 refine wpAny_bind (wpAny_rule (wpAny_bind ?_))
 refine wpAny_pyIter_zip (s:={s1 with heap:=h2,toks:=tk}) (k2 _ _ zn1) ?_
 refine wpAny_pure ⟨plainId_quiet qel_ _,?_⟩
 have Z2:=Z1.frame (S:=h'.objs.size) (h':=h2) hS (λc o _ e=>k2 c o e) ⟨_,k2 _ _ hSo⟩
 have key2:∀j,j<ia.toArray.size->(kT X.prog X.w).is h2 (ks j) (ad j):=λj hj=>qhj_ (key1 j (by simpa [la] using hj)) λo e=>k2 _ o (pk _ o (q7 _ o e))
 have mn:min ia.toArray.size ib.toArray.size=xs.length:=by simp;omega
 refine qrt_ (by exact I1.ok.hd hc) (by rw [qbz_,qbz_];omega) (zipApart_new lta ltb) hS (by rw [mn];omega) (λi j hi hj e=>inj i j (by simpa [la] using hi) (by simpa [la] using hj) e) hit (λj hj=>?_) (min ia.toArray.size ib.toArray.size) 0 _ _ _ rfl (Nat.zero_le _) Z2 (qix_ hnew (λo e=>k2 _ o e) (λy hy=>nomatch (show y∈([]:List (List Key×Addr×Value)) from hy))) key2 λh3 tk3 k3 hd3=>⟨rfl,?_⟩
 ·have hj:j<xs.length:=by simpa [la] using hj
  have hd:=ltk j hj
  intro m
  simp only [List.mem_cons,List.not_mem_nil,or_false,q6] at m
  revert hd m
  generalize s1.heap.objs.size=n
  intro hd m
  have:ad j<n:=hd
  rcases m with m|m|m|m|m<;>(rw [m] at this;exact absurd this (by simp))
 ·rw [mn] at hd3
  have keep:∀d o,s1.heap.get? d=some o->h3.get? d=some o:=λd o e=>by
   refine k3 d o (λm=>?_) (k2 d o (pk d o (q7 d o e)))
   have hd:=Heap.lt_size e
   simp only [List.mem_cons,List.not_mem_nil,or_false,q6] at m
   revert hd m
   generalize s1.heap.objs.size=n
   intro hd m
   have:d<n:=hd
   rcases m with m|m|m|m|m<;>(rw [m] at this;exact absurd this (by simp))
  obtain ⟨o,es,ep,e1,e2,e3,e4,_,e5⟩:=hd3
  have ib':ib.toArray=ib.toArray:=rfl
  refine ⟨.ref h'.objs.size,_,I1.laid (a:=h'.objs.size) (o:= .ext (IsDW X.prog X.w h'.objs.size (enK ks ad ib.toArray xs.length))) (t':=tk3) keep bigS (qwl_ ⟨?_,?_,e5,o,es,ep,e1,e2,e3,e4⟩),rfl,q _ ib (I1.hok.fresh bigS) rb⟩
  ·exact beq_eq_false_iff_ne.mpr (Ne.symm (Nat.ne_of_lt (Nat.lt_of_lt_of_le I1.big bigS)))
  ·unfold enK;rw [List.length_map,List.length_range,sizeLine_eq];omega
def qr3_ (X:Cx) (td ty:TE):TE:=λσ H Q=>td σ H λx H1=>ty σ H1 λy H2=>∃(a b:Addr) (xs:List (List Key×Addr×Value)) (ks:List Key) (v:V) (u:Value),x= .ref a/\y= .ref b/\H2 a=some (.ext (IsDW X.prog X.w a xs))/\SqT X.K H2 b (ks.map kV)/\(∀z∈xs,SqT X.K H2 z.2.1 (z.1.map kV))/\(∃c,atKey xs ks=some (c,u))/\RelV v u/\Q v H2
theorem qom_ {o i:Expr} (hu:X.A.units+1<cLine) (ho:PE X o td) (hi:PE X i te) (hs:NoSl i):PE X (.Subscript o i pos) (qr3_ X td te):=by
 intro pins s σ H Q I h
 refine qpu_ PySem.F.slot_dict_getitem.lookup hs (thn (ho pins s σ H _ I h) λu s1 ⟨x,H1,I1,rx,q1⟩=>thn (hi pins s1 σ H1 _ I1 q1) λiv s2 ⟨y,H2,I2,ry,a,b,xs,ks,v,uu,ex,ey,ha,hb,hx,⟨c,hat⟩,rv,q2⟩=>?_)
 subst ex ey
 obtain rfl:u=Value.ref a:=rx
 obtain rfl:iv=Value.ref b:=ry
 obtain ⟨_,_,hn,o,es,ep,e1,e2,e3,e4⟩:=(show ObjOk X.prog X.w H2 s2.heap a (.ext (IsDW X.prog X.w a xs)) from I2.hok a _ ha).1
 have key:∀{c:Addr} {k:List Key},SqT X.K H2 c (k.map kV)->(kT X.prog X.w).is s2.heap k c:=λh=>by
  obtain ⟨its,rr,tt,_⟩:=I2.tuple h
  obtain ⟨o,h1,h2,n,h3⟩:=tt
  exact ⟨o,its.toArray,n,h1,h2,h3,by simpa using qfl_ rr⟩
 have hm:s2.heap.DictOfH (kT X.prog X.w) a xs:=⟨o,es,ep,e1,e2,e3,e4,λz hz=>key (hx z hz),hn⟩
 exact ⟨hm.typeIs,wpAny_getItem_heap (tupleKind_room_in1 hu) (key hb) hm hat ⟨v,H2,I2.tok _,rv,q2⟩⟩
end
/-! ### over trees -/
def kD:Key->D
 | .inl i=> .int i
 | .inr s=> .str s
theorem qpm_ {K:PySem.W.Frag} {F:Hp}:∀{ks:List Key} {vs:List V},Rps K F (ks.map kD) vs->vs=ks.map kV
 |[],vs,h=>by rw [List.map_nil,Rps] at h;exact h
 |k::ks,vs,h=>by
  rw [List.map_cons,Rps] at h
  obtain ⟨v,t,rfl,h1,h2⟩:=h
  rw [qpm_ h2,List.map_cons]
  congr 1
  cases k with
  |inl i=>rw [kD,Rp] at h1;exact h1
  |inr s=>rw [kD,Rp] at h1;exact h1
theorem qm6_ {K:PySem.W.Frag} {F:Hp} {ks:List Key} {v:V} (h:Rp K F (.tup (ks.map kD)) v):∃a,v= .ref a/\SqT K F a (ks.map kV):=by
 rw [Rp] at h
 obtain ⟨a,vs,rfl,h1,h2⟩:=h
 rw [qpm_ h2] at h1
 exact ⟨a,rfl,h1⟩
def KWp (K:PySem.W.Frag) (F:Hp) (kvs:List (List Key×D)) (xs:List (List Key×Addr×Value)):Prop:=Paired (λ(q:List Key×D) (x:List Key×Addr×Value)=>q.1=x.1/\Rp K F (.tup (q.1.map kD)) (.ref x.2.1)/\∃v,RelV v x.2.2/\Rp K F q.2 v) kvs xs
theorem KWp.same {K:PySem.W.Frag} {F F':Hp} (e:Same F F') {kvs:List (List Key×D)} {xs:List (List Key×Addr×Value)} (h:KWp K F kvs xs):KWp K F' kvs xs:=
 Paired.mapP h λ_ _ z=>⟨z.1,Rp.same e z.2.1,z.2.2.elim λv q=>⟨v,q.1,Rp.same e q.2⟩⟩
theorem KWp.keys {K:PySem.W.Frag} {F:Hp}:∀{kvs:List (List Key×D)} {xs:List (List Key×Addr×Value)},KWp K F kvs xs->∀z∈xs,SqT K F z.2.1 (z.1.map kV)
 |_,_,.nil,z,hz=>nomatch hz
 |_,_,.cons ⟨r1,r2,_⟩ t,z,hz=>by
  rcases List.mem_cons.mp hz with rfl|hz
  ·rw [r1] at r2
   obtain ⟨a,e,h⟩:=qm6_ r2
   cases e
   exact h
  ·exact KWp.keys t z hz
def getW (kvs:List (List Key×D)) (ks:List Key):Option D:=(kvs.find? λq=>decide (q.1=ks)).map (·.2)
theorem KWp.get {K:PySem.W.Frag} {F:Hp} {ks:List Key} {d:D}:∀{kvs:List (List Key×D)} {xs:List (List Key×Addr×Value)},KWp K F kvs xs->getW kvs ks=some d->∃c u v,atKey xs ks=some (c,u)/\RelV v u/\Rp K F d v
 |_,_,.nil,h=>nomatch h
 |_,_,.cons (a:=q) (b:=x) ⟨r1,r2,v,r3,r4⟩ t,h=>by
  unfold getW atKey at*
  rw [List.find?_cons] at h ⊢
  rw [<-r1]
  by_cases c:q.1=ks
  ·rw [decide_eq_true c] at h ⊢
   cases h
   exact ⟨x.2.1,x.2.2,v,rfl,r3,r4⟩
  ·rw [decide_eq_false c] at h ⊢
   exact KWp.get t h
def dW (K:PySem.W.Frag) (P:Program) (w:World) (p:Addr) (kvs:List (List Key×D)):MO:= .fo (λF o=>∃xs,o= .ext (IsDW P w p xs)/\KWp K F kvs xs) λ_ _ _ s ⟨xs,e,k⟩=>⟨xs,e,k.same s⟩
theorem qvx_ {K:PySem.W.Frag} {F:Hp}:∀{kvs:List (List Key×D)} {vs ws:List V} {us:List Value},Rps K F (kvs.map λq=> .tup (q.1.map kD)) vs->Rps K F (kvs.map (·.2)) ws->Vals ws us->∀(ad:Nat->Addr),(∀j,j<vs.length->vs[j]?=some (.ref (ad j)))->KWp K F kvs (enK (λj=>(kvs.map (·.1)).getD j []) ad us.toArray kvs.length):=by
 intro kvs vs ws us h1 h2 h3 ad had
 have l1:=h1.length
 have l2:=h2.length
 have l3:=h3.length
 rw [List.length_map] at l1 l2
 have gen:∀i,i<=kvs.length->KWp K F (kvs.take i) (enK (λj=>(kvs.map (·.1)).getD j []) ad us.toArray i):=by
  intro i
  induction i with
  |zero=>intro _;exact .nil
  |succ i ih=>
   intro hi
   have hq:kvs[i]?=some kvs[i]:=List.getElem?_eq_getElem (by omega)
   rw [List.take_add_one,hq,Option.toList_some,qjj_]
   obtain ⟨v1,e1,r1⟩:=h1.get (show (kvs.map λq=>L3.D.tup (q.1.map kD))[i]?=some (.tup (kvs[i].1.map kD)) by rw [List.getElem?_map,hq];rfl)
   obtain ⟨v2,e2,r2⟩:=h2.get (show (kvs.map (·.2))[i]?=some kvs[i].2 by rw [List.getElem?_map,hq];rfl)
   obtain ⟨u,e3,r3⟩:=h3.get e2
   have:=had i (by omega)
   rw [e1] at this
   cases this
   have ek:(kvs.map (·.1)).getD i []=kvs[i].1:=by rw [List.getD_eq_getElem?_getD,List.getElem?_map,hq];rfl
   have eu:us.toArray.getD i .none=u:=by
    obtain ⟨hh,e3⟩:=List.getElem?_eq_some_iff.mp e3
    simp [Array.getD,hh,e3]
   have ap:∀{a:List (List Key×D)} {b:List (List Key×Addr×Value)} {x:List Key×D} {y:List Key×Addr×Value},KWp K F a b->(x.1=y.1/\Rp K F (.tup (x.1.map kD)) (.ref y.2.1)/\∃v,RelV v y.2.2/\Rp K F x.2 v)->KWp K F (a++[x]) (b++[y]):=by
    intro a b x y h k
    induction h with
    |nil=>exact .cons k .nil
    |cons r t ih=>exact .cons r ih
   exact ap (ih (by omega)) ⟨ek.symm,r1,v2,by rw [eu];exact r3,r2⟩
 have:=gen kvs.length (Nat.le_refl _)
 rwa [List.take_length] at this
section
variable {X:Cx} {a b e:Expr} {fl:WA} {fk:WE} {i:Nat} {x:Str} {p p2 pos pos2 pos' cpos np:Pos}
def wDZ (K:PySem.W.Frag) (P:Program) (w:World) (i:Nat) (fl:WA):WS:=λE ρ M=>fl ρ M λds ρ1 M1=>∃kvs:List (List Key×D),ds=[.lst (kvs.map λq=> .tup (q.1.map kD)),.lst (kvs.map (·.2))]/\kvs.length<=1000/\(kvs.map (·.1)).Nodup/\∀p,M1 p=none->E.nx (ρ1.set i (.rf p)) (mset M1 p (dW K P w p kvs))
theorem qqi_ {k:Nat} (hgl:Gl X "dict") (hml:X.mg "dict"=none) (hgz:Gl X "zip") (hmz:X.mg "zip"=none) (hc:X.calm=true) (hr:Room k X.A) (hN:X.N.Nodup) (hi:X.N[i]?=some x) (hx:Loc X.env.scope x) (ha:JA X [a,b] fl)
  (hs:starEach [a,b] X.env=[(false,eval a X.env),(false,eval b X.env)]:=by rfl) (hs2:starEach [b] X.env=[(false,eval b X.env)]:=by rfl)
  (hs3:starEach [.Call (.Name "zip" p2) [a,b] [] pos2] X.env=[(false,eval (.Call (.Name "zip" p2) [a,b] [] pos2) X.env)]:=by rfl)
  (hsw:swapsWith (.Call (.Name "dict" p) [.Call (.Name "zip" p2) [a,b] [] pos2] [] pos) (some (.Name x pos')) cpos.line X.env=pure false:=by rfl) (hf:X.fn x=true\/X.env.scope.names.lookup x=some .local:=by first|exact .inl rfl|exact .inr rfl|assumption):
  JS X (.Assign [.Name x pos'] (.Call (.Name "dict" p) [.Call (.Name "zip" p2) [a,b] [] pos2] [] pos) cpos) (wDZ X.K X.prog X.w i fl):=
 ⟨imS (qgo_ hN hi hx (qpr_ hgl hml hgz hmz hc (u10 hr) ha.h hs hs2 hs3) hsw hf) λD' σ H hh=>ex5 hh λZ F ρ M E ag hf k=>⟨Z,F,ρ,M,_,ag,hf,λvs H1 F1 ds ρ1 M1 s1 ag1 r1 h1=>by
  obtain ⟨kvs,rfl,l1000,nk,h1⟩:=h1
  obtain ⟨v,u,rfl,rv,ru⟩:=rps2 r1
  rw [Rp] at rv ru
  obtain ⟨l,xs,rfl,g1,g2⟩:=rv
  obtain ⟨r,ys,rfl,g3,g4⟩:=ru
  have l1:=g2.length
  have l2:=g4.length
  rw [List.length_map] at l1 l2
  have hkey:∀j,j<xs.length->∃c,xs[j]?=some (.ref c)/\SqT X.K F1 c (((kvs.map (·.1)).getD j []).map kV):=λj hj=>by
   have hq:kvs[j]?=some (kvs[j]'(by omega)):=List.getElem?_eq_getElem (by omega)
   obtain ⟨v1,e1,r1⟩:=g2.get (show (kvs.map λq=>L3.D.tup (q.1.map kD))[j]?=some (.tup ((kvs[j]'(by omega)).1.map kD)) by rw [List.getElem?_map,hq];rfl)
   obtain ⟨c,rfl,h⟩:=qm6_ r1
   have ek:(kvs.map (·.1)).getD j []=(kvs[j]'(by omega)).1:=by rw [List.getD_eq_getElem?_getD,List.getElem?_map,hq];rfl
   rw [ek]
   exact ⟨c,e1,h⟩
  let ad:Nat->Addr:=λj=>match xs[j]? with
   |some (.ref c)=>c
   |_=>0
  have had:∀j,j<xs.length->xs[j]?=some (.ref (ad j))/\SqT X.K F1 (ad j) (((kvs.map (·.1)).getD j []).map kV):=λj hj=>by
   obtain ⟨c,e,h⟩:=hkey j hj
   have:ad j=c:=by show (match xs[j]? with|some (.ref c)=>c|_=>0)=c;rw [e]
   rw [this];exact ⟨e,h⟩
  refine ⟨l,r,xs,ys,λj=>(kvs.map (·.1)).getD j [],ad,rfl,.inl (ql_ ag1.m.sm g1),.inl (ql_ ag1.m.sm g3),by omega,by omega,λi j hi hj e=>?_,λj hj=>⟨(had j hj).1,qbb_ ag1.m.sm (had j hj).2⟩,λp us hp vu=>?_⟩
  ·have hi':i<(kvs.map (·.1)).length:=by rw [List.length_map];omega
   have hj':j<(kvs.map (·.1)).length:=by rw [List.length_map];omega
   have e:(kvs.map (·.1)).getD i []=(kvs.map (·.1)).getD j []:=e
   rw [List.getD_eq_getElem?_getD,List.getD_eq_getElem?_getD,List.getElem?_eq_getElem hi',List.getElem?_eq_getElem hj'] at e
   refine (List.getElem?_inj hi' nk).mp ?_
   rw [List.getElem?_eq_getElem hi',List.getElem?_eq_getElem hj']
   exact congrArg some e
  ·obtain ⟨y1,y2,y3⟩:=qgt_ ag1.m hp
   have kw:=qvx_ (F:=F1) g2 g4 vu ad λj hj=>(had j hj).1
   rw [l1] at kw
   have a1:=(ag1.newO (o:= .ext (IsDW X.prog X.w p (enK (λj=>(kvs.map (·.1)).getD j []) ad us.toArray xs.length))) hp).adoptM (mo:=dW X.K X.prog X.w p kvs) qt_ y1 y2 y3 (λj es h z=>by
    obtain ⟨q,ws,h1,h2,_⟩:=ag1.en j _ h
    rw [z] at h1
    cases h1
    rw [hp] at h2;cases h2) ⟨_,qt_,_,rfl,kw⟩
   exact k.nx _ _ F1 _ _ s1 (a1.put (i:=i) (e:= .rf p) (o:=some (.ref p)) rfl λ_ _ z=>nomatch z) (h1 p y2)⟩⟩
def wAtW (K:PySem.W.Frag) (P:Program) (w:World) (i:Nat) (fk:WE):WE:=λρ M Q=>match ρ[i]? with
 |some (.rf p)=>fk ρ M λk ρ1 M1=>∃kvs ks d,M1 p=some (dW K P w p kvs)/\k= .tup (ks.map kD)/\getW kvs ks=some d/\Q d ρ1 M1
 |_=>False
theorem qs1_ (K0:PySem.W.Frag) (P0:Program) (w0:World) {k:Nat} (i:Nat) (hr:Room k X.A) (he:JE X e fk) (hK:X.K=K0:=by rfl) (hP:X.prog=P0:=by rfl) (hw:X.w=w0:=by rfl) (hN:X.N[i]?=some x:=by rfl) (hv:Vis X.env.scope x:=by first|exact Or.inl rfl|exact Or.inr (Or.inl rfl)|exact Or.inr (Or.inr rfl)) (hd:(x==("__debug__":Str))=false:=by decide) (hcd:(x==("__classdict__":Str))=false:=by decide) (hs:NoSl e:=by intro _ _;rfl):
  JE X (.Subscript (.Name x np) e pos) (wAtW K0 P0 w0 i fk):=by
 subst hK hP hw
 exact ⟨imE (qom_ (Nat.lt_of_le_of_lt (Nat.add_le_add_left (by decide) _) (Room.u60 hr)) (L2.pv (pos:=np) i hN hv hd hcd) he.h hs) λσ H Q hh=>ex5 hh λZ F ρ M P ag hf k=>by
 unfold wAtW at hf
 split at hf
 ·rename_i q hq
  refine ⟨.ref q,qdd_ (ag.en i _ hq),Z,F,ρ,M,_,ag,hf,λv H1 F1 d ρ1 M1 s1 ag1 r1 h1=>?_⟩
  obtain ⟨kvs,ks,d',hM,rfl,hg,hp⟩:=h1
  obtain ⟨c,rfl,hc⟩:=qm6_ r1
  obtain ⟨_,o,g1,xs,rfl,kw⟩:=ag1.m.mo _ _ hM
  obtain ⟨c2,u,v,h2,h3,h4⟩:=kw.get hg
  exact ⟨q,c,xs,ks,v,u,rfl,rfl,g1,qbb_ ag1.m.sm hc,λz hz=>qbb_ ag1.m.sm (kw.keys z hz),⟨c2,h2⟩,h3,k _ H1 F1 _ ρ1 M1 s1 ag1 h4 hp⟩
 ·exact hf.elim⟩
end

def keyT (t:Tn):List Key:=[.inr (if t.1=true then "shim" else "size"),.inl (t.2:Nat)]
theorem qnp_ {s t:Tn} (h:keyT s=keyT t):s=t:=by
 obtain ⟨a,j⟩:=s
 obtain ⟨b,k⟩:=t
 unfold keyT at h
 injection h with h1 h2
 injection h1 with h1
 injection h2 with h2 _
 injection h2 with h2
 have e2:j=k:=Int.ofNat.inj h2
 subst e2
 cases a<;>cases b
 ·rfl
 ·exact absurd (show ("size":Str)="shim" from h1) (by decide+kernel)
 ·exact absurd (show ("shim":Str)="size" from h1) (by decide+kernel)
 ·rfl
def qes_ (O:List Tn) (V:List Rat):List (List Key×D):=(O.zip V).map λx=>(keyT x.1,frD x.2)
theorem qmz_ {O:List Tn} {V:List Rat} (h:V.length=O.length):(qes_ O V).map (λq=>D.tup (q.1.map kD))=O.map tnQ/\(qes_ O V).map (·.2)=V.map frD:=by
 unfold qes_
 rw [List.map_map,List.map_map]
 constructor
 ·have:((O.zip V).map (·.1)).map tnQ=O.map tnQ:=by rw [qeb_,h,List.take_length]
  rw [<-this,List.map_map];rfl
 ·have:((O.zip V).map (·.2)).map frD=V.map frD:=by rw [List.map_snd_zip (by omega)]
  rw [<-this,List.map_map];rfl
theorem qmn_ {O:List Tn} {V:List Rat} (nd:O.Nodup):((qes_ O V).map (·.1)).Nodup:=by
 have:(qes_ O V).map (·.1)=((O.zip V).map (·.1)).map keyT:=by unfold qes_;rw [List.map_map,List.map_map];rfl
 rw [this,qeb_]
 exact List.Pairwise.map keyT (λa b h e=>h (qnp_ e)) (nd.sublist (List.take_sublist _ _))
theorem qj2_ {k:List Key} {d:D}:∀{kvs:List (List Key×D)},(kvs.map (·.1)).Nodup->(k,d)∈kvs->getW kvs k=some d
 |[],_,h=>by cases h
 |x::kvs,nd,h=>by
  rw [List.map_cons,List.nodup_cons] at nd
  unfold getW
  rw [List.find?_cons]
  rcases List.mem_cons.mp h with e|h
  ·subst e
   rw [decide_eq_true rfl];rfl
  ·have:x.1≠k:=λe=>nd.1 (by rw [e];exact List.mem_map.mpr ⟨_,h,rfl⟩)
   rw [decide_eq_false this]
   exact qj2_ nd.2 h
theorem qi9_ {O:List Tn} {V:List Rat} {j:Nat} {t:Tn} {v:Rat} (nd:O.Nodup) (h1:O[j]?=some t) (h2:V[j]?=some v):getW (qes_ O V) (keyT t)=some (frD v):=
 qj2_ (qmn_ nd) (List.mem_map.mpr ⟨(t,v),List.mem_of_getElem? (List.getElem?_zip_eq_some.mpr ⟨h1,h2⟩),rfl⟩)
theorem qha_ {S T:List (Rat×Rat)} {O:List Tn} {V:List Rat} {t:Tn} (pO:O.Perm (qby_ S.length T.length)) (l:V.length=O.length) (hk:t.2<if t.1=true then T.length else S.length):∃(j:Nat) (v:Rat),O[j]?=some t/\V[j]?=some v:=by
 obtain ⟨j,hj⟩:=List.mem_iff_getElem?.mp (pO.mem_iff.mpr (turnsT_mem.mpr hk))
 have:=(List.getElem?_eq_some_iff.mp hj).1
 exact ⟨j,V[j]'(by omega),hj,List.getElem?_eq_getElem (by omega)⟩
theorem qvc_ {S T:List (Rat×Rat)} {Z:List ZR} {O:List Tn} {V:List Rat} {m:Nat} (pl:PlO S T Z) (vl:Vals69 m V) (hm:m<=1600):∃E,DhOk S T Z (mcQ S.length T.length O V).1 (mcQ S.length T.length O V).2 E m:=by
 obtain ⟨E,e0,sE,w⟩:=vl
 have ml:=qfv_ S.length T.length O V
 have mm:=qmi_ (s:=S.length) (t:=T.length) (O:=O) (p:=λq=>Wh E m q) (qic_ _ _) w
 exact ⟨E,e0,sE,hm,by have:=pl.s;omega,by have:=pl.t;omega,by have:=pl.z;omega,ml.1,ml.2,mm.1,mm.2,pl.r⟩
theorem qvh_ {S T:List (Rat×Rat)} {O:List Tn} {V:List Rat} (pO:O.Perm (qby_ S.length T.length)) (l:V.length=O.length) (b:∀(j:Nat) (t:Tn) (q:Rat),O[j]?=some t->V[j]?=some q->(bd S T t).1<=q/\q<=(bd S T t).2):In69 S (mcQ S.length T.length O V).1/\In69 T (mcQ S.length T.length O V).2:=by
 have nd:O.Nodup:=pO.nodup_iff.mpr (qei_ _ _)
 have ml:=qfv_ S.length T.length O V
 refine ⟨⟨ml.1.symm,λi x q hx hq=>?_⟩,⟨ml.2.symm,λi x q hx hq=>?_⟩⟩
 ·have hi:=(List.getElem?_eq_some_iff.mp hx).1
  obtain ⟨j,v,h1,h2⟩:=qha_ (t:=(false,i)) pO l hi
  have a:=qod_ (s:=S.length) (t:=T.length) nd h1 h2 hi
  have a:(mcQ S.length T.length O V).1[i]?=some v:=a
  rw [a] at hq
  cases hq
  have:=b j _ _ h1 h2
  have e:bd S T (false,i)=x:=by show S.getD i (0,0)=x;rw [List.getD_eq_getElem?_getD,hx];rfl
  rw [e] at this
  exact this
 ·have hi:=(List.getElem?_eq_some_iff.mp hx).1
  obtain ⟨j,v,h1,h2⟩:=qha_ (t:=(true,i)) pO l hi
  have a:=qod_ (s:=S.length) (t:=T.length) nd h1 h2 hi
  have a:(mcQ S.length T.length O V).2[i]?=some v:=a
  rw [a] at hq
  cases hq
  have:=b j _ _ h1 h2
  have e:bd S T (true,i)=x:=by show T.getD i (0,0)=x;rw [List.getD_eq_getElem?_getD,hx];rfl
  rw [e] at this
  exact this

theorem Vals69.smr {m:Nat} {V:List Rat} {q:Rat} (h:Vals69 m V) (hq:q∈V):SmR m q:=let ⟨_,e0,sE,w⟩:=h;(w q hq).smr e0 sE
theorem bd6 {S T:List (Rat×Rat)} {Z:List ZR} {t:Tn} (pl:PlO S T Z) (hk:t.2<if t.1=true then T.length else S.length):Bd6 (bd S T t):=by
 unfold bd
 split
 ·rename_i c
  rw [if_pos c] at hk
  obtain ⟨a,b,c⟩:=pl.bt _ (qho_ hk)
  exact ⟨a,b,c⟩
 ·rename_i c
  rw [if_neg c] at hk
  obtain ⟨a,b,c⟩:=pl.bs _ (qho_ hk)
  exact ⟨a,b,c⟩
/-! ### a walk over reversed(range(a,b)) -/
section
variable {prog:Program} {w:World} {A:Around} {E:Value->Shared->Prop} {s:Shared}
theorem qmt_ {lo hi:Int} (h0:0<=lo) (h1:lo<=hi) (h2:hi<2 ^ 62):(Builtin.Range.rangeFitsLong lo&&Builtin.Range.rangeFitsLong hi&&Builtin.Range.rangeFitsLong 1&&Builtin.Range.rangeFitsLong (-1)&&Builtin.Range.rangeFitsLong (lo - 1)&&Builtin.Range.rangeFitsLong (Builtin.Range.rangeSize lo hi 1))=true:=by
 have rs:Builtin.Range.rangeSize lo hi 1=hi - lo:=by rw [rangeSize_one];split<;>omega
 rw [rs]
 simp only [Builtin.Range.rangeFitsLong,Bool.and_eq_true,decide_eq_true_eq]
 omega
theorem qgh_ {r:Addr} {lo hi:Int} {t u v:Tok} {Q:Value->Shared->Prop} (hr:s.heap.get? r=some {cls:= .type "range",data:= .fields #[.int lo t,.int hi u,.int 1 v]}) (h0:0<=lo) (h1:lo<=hi) (h2:hi<2 ^ 62)
  (h:∀h',IsRangeIter h' s.heap.objs.size (hi - 1) (hi - lo) (-1)->(∀b o,s.heap.get? b=some o->h'.get? b=some o)->Q (.ref s.heap.objs.size) {s with heap:=h'}):wpAny (model prog w) A (call (.builtin "range.__reversed__") [.ref r]) Q E s:=by
 obtain ⟨hp,g,d,tk,os⟩:=s
 have hT:(⟨hp,g,d,tk,os⟩:Shared).TypeIs (.ref r) "range":=⟨_,hr,rfl⟩
 refine wpAny_call_entry F.slot_range_reversed hT F.entry_range_reversed ?_ (F.args_range_reversed_1 _)
 have sm:=qmt_ h0 h1 h2
 unfold Builtin.«range.__reversed__» Builtin.Range.rangeFields
 repeat (any_goals (first|assumption|wp_step))
 have rs:Builtin.Range.rangeSize lo hi 1=hi - lo:=by rw [rangeSize_one];split<;>omega
 refine ⟨_,rfl,?_⟩
 rw [sm,if_pos rfl,rs]
 have e:lo+(hi - lo - 1)*1=hi - 1:=by omega
 rw [e]
 exact h _ (Heap.get?_push_size _ rfl) λb o e=>Heap.get?_push_of_some _ e
theorem qfk_:isSubtype (.type "range_iterator") (.type "reversed")=pure false:=by rw [isSubtype_type];kernel_rfl
theorem qer_ {r:Addr} {lo hi:Int} {t u v:Tok} {Q:Value->Shared->Prop} (hr:s.heap.get? r=some {cls:= .type "range",data:= .fields #[.int lo t,.int hi u,.int 1 v]}) (h0:0<=lo) (h1:lo<=hi) (h2:hi<2 ^ 62)
  (h:∀h',IsRangeIter h' s.heap.objs.size (hi - 1) (hi - lo) (-1)->(∀b o,s.heap.get? b=some o->h'.get? b=some o)->Q (.ref s.heap.objs.size) {s with heap:=h'}):wpAny (model prog w) A (call (.type "reversed") [.ref r]) Q E s:=by
 have hT:s.TypeIs (.ref r) "range":=⟨_,hr,rfl⟩
 refine callType_other (U:="range_iterator") (Q₁:=λobj s₁=>obj= .ref s.heap.objs.size/\∃h',s₁={s with heap:=h'}/\IsRangeIter h' s.heap.objs.size (hi - 1) (hi - lo) (-1)/\∀b o,s.heap.get? b=some o->h'.get? b=some o) (by decide+kernel) F.create_reversed ⟨_,_,F.mro_reversed⟩ F.made_reversed qfk_ (F.typeCall_reversed_1 _) ?_ ?_
 ·refine codeAny_of_tree ?_
  show wpAny _ _ (do checkBuiltinCall "reversed.__new__" ⟨[.type "reversed",.ref r],[]⟩;again (.builtin "reversed.__new__" ⟨[.type "reversed",.ref r],[]⟩)) _ _ s
  refine wpAny_bind (wpAny_of_eq (F.newCall_reversed_1 _) (wpAny_pure ⟨plainId_quiet F.plain_reversed_new _,codeAny_builtin F.entry_reversed_new ?_⟩))
  rw [Around.under_plainId F.plain_reversed_new _]
  unfold Builtin.«reversed.__new__»
  refine wpAny_bind (wpAny_of_eq (newClass_reversed _) ?_)
  try dsimp only
  refine wpAny_bind (wpAny_of_eq (a:=()) (by first|rfl|kernel_rfl) ?_)
  refine wpAny_bind (wpAny_of_eq (a:=()) (by first|rfl|kernel_rfl) ?_)
  try dsimp only
  refine wpAny_bind (wpAny_specialOf hT F.slot_range_reversed.lookup ?_)
  try dsimp only
  refine wpAny_bind (wpAny_of_eq (F.slot_range_reversed.bind _) ?_)
  try dsimp only
  first
   |rw [if_neg (show ¬((Value.builtin "range.__reversed__"==Value.none)=true) from Bool.false_ne_true)]
   |(show wpAny _ _ (if (Value.builtin "range.__reversed__"==Value.none)=true then _ else _) _ _ _;rw [if_neg (show ¬((Value.builtin "range.__reversed__"==Value.none)=true) from Bool.false_ne_true)])
  refine wpAny_bind (wpAny_rule ?_)
  refine wpAny_bind (m:=runValue (.call (.builtin "range.__reversed__") ⟨[.ref r],[]⟩)) (show wpAny _ _ (call (.builtin "range.__reversed__") [.ref r]) _ _ _ from qgh_ hr h0 h1 h2 λh' i1 k1=>?_)
  first
   |exact wpAny_pure ⟨rfl,h',rfl,i1,k1⟩
   |exact wpAny_bind (wpAny_pure (wpAny_pure ⟨rfl,h',rfl,i1,k1⟩))
 ·rintro obj s₁ ⟨rfl,h',rfl,i1,k1⟩
  exact ⟨⟨_,i1,rfl⟩,h h' i1 k1⟩
end
section
variable {X:Cx} {a b tg:Expr} {ta:TA} {fl:WA} {p pos p2 pos2:Pos}
def qv9_ (ta:TA):TI:=λσ H R=>ta σ H λvs H1=>∃i j:Int,vs=[.int i,.int j]/\0<=i/\i<=j/\j<2 ^ 62/\R (Itd (j - 1) (j - i).toNat) H1
theorem qmv_ (hg:Gl X "reversed") (hm:X.mg "reversed"=none) (hg2:Gl X "range") (hm2:X.mg "range"=none) (ha:PA X [a,b] ta) (hs:starEach [a,b] X.env=[(false,eval a X.env),(false,eval b X.env)]:=by rfl) (hs2:starEach [b] X.env=[(false,eval b X.env)]:=by rfl)
  (hs3:starEach [.Call (.Name "range" p2) [a,b] [] pos2] X.env=[(false,eval (.Call (.Name "range" p2) [a,b] [] pos2) X.env)]:=by rfl):PI X tg (.Call (.Name "reversed" p) [.Call (.Name "range" p2) [a,b] [] pos2] [] pos) (qv9_ ta):=by
 intro pins s σ H R I h
 refine Call_ (qde_ I hg hm L3.boot_reversed (PyProof.Rows.callWith_type1 ?_ hs3 rfl))
 rw [hs3]
 show wpAny _ _ (spliced ((false,eval (.Call (.Name "range" p2) [a,b] [] pos2) X.env)::[])) _ _ s
 refine Calls.spliced_cons (wpAny_Call_Name_kw (qde_ I hg2 hm2 boot_range (PyProof.Rows.callWith_type1 (thn (ha pos2 pins s σ H _ I h) λus s1 ⟨vs,H1,I1,r1,q1⟩=>?_) (by rw [hs,hs2]) (by rw [hs2];rfl))))
 obtain ⟨i,j,rfl,h0,h1,h2,q⟩:=q1
 obtain ⟨u,v,rfl,ru,rv⟩:=qkb_ r1
 obtain ⟨t,rfl⟩:=ru
 obtain ⟨t',rfl⟩:=rv
 refine call_range_2 (Calls.spliced_nil ?_)
 have I2:Inv X pins σ H1 {s1 with heap:=s1.heap.push {cls:= .type "range",data:= .fields #[.int i t,.int j t',.int 1 s1.toks]},toks:=s1.toks+1}:=I1.kept λb o e=>Heap.get?_push_of_some _ e
 have hr:(s1.heap.push {cls:= .type "range",data:= .fields #[.int i t,.int j t',.int 1 s1.toks]}).get? s1.heap.objs.size=some {cls:= .type "range",data:= .fields #[.int i t,.int j t',.int 1 s1.toks]}:=Heap.get?_push_size _ rfl
 refine qer_ (s:={s1 with heap:=s1.heap.push {cls:= .type "range",data:= .fields #[.int i t,.int j t',.int 1 s1.toks]},toks:=s1.toks+1}) hr h0 h1 h2 λh' i1 k1=>?_
 have i0:IsRangeIter h' (s1.heap.push {cls:= .type "range",data:= .fields #[.int i t,.int j t',.int 1 s1.toks]}).objs.size (j - 1+((0:Nat):Int)*(-1)) (((j - i).toNat:Int) - ((0:Nat):Int)) (-1):=by
  have e1:j - 1+((0:Nat):Int)*(-1)=j - 1:=by simp
  have e2:((j - i).toNat:Int) - ((0:Nat):Int)=j - i:=by omega
  rw [e1,e2];exact i1
 refine wpAny_pyIter_rangeiter (s:={s1 with heap:=h',toks:=s1.toks+1}) i0 ?_
 refine ⟨(s1.heap.push {cls:= .type "range",data:= .fields #[.int i t,.int j t',.int 1 s1.toks]}).objs.size,[(s1.heap.push {cls:= .type "range",data:= .fields #[.int i t,.int j t',.int 1 s1.toks]}).objs.size],_,_,H1,rfl,I2.kept (t':=s1.toks+1) k1,qlt_ _ (j - 1) (j - i).toNat,i0,λc hc=>?_,q⟩
 have e:c=(s1.heap.push {cls:= .type "range",data:= .fields #[.int i t,.int j t',.int 1 s1.toks]}).objs.size:=by simpa using hc
 subst e
 exact I2.fpOk (Nat.le_refl _) (I2.hok.fresh (Nat.le_refl _))
def qr6_ (f:WA):WI:=λρ M P=>f ρ M λds ρ1 M1=>∃i j:Int,ds=[.int i,.int j]/\0<=i/\i<=j/\j<2 ^ 62/\P (qkt_ (j - 1) (j - i).toNat) ρ1 M1
theorem ql2_ (hg:Gl X "reversed") (hm:X.mg "reversed"=none) (hg2:Gl X "range") (hm2:X.mg "range"=none) (ha:JA X [a,b] fl) (hs:starEach [a,b] X.env=[(false,eval a X.env),(false,eval b X.env)]:=by rfl) (hs2:starEach [b] X.env=[(false,eval b X.env)]:=by rfl)
  (hs3:starEach [.Call (.Name "range" p2) [a,b] [] pos2] X.env=[(false,eval (.Call (.Name "range" p2) [a,b] [] pos2) X.env)]:=by rfl):JI X tg (.Call (.Name "reversed" p) [.Call (.Name "range" p2) [a,b] [] pos2] [] pos) (qr6_ fl):=
 ⟨imI (qmv_ hg hm hg2 hm2 ha.h hs hs2 hs3) λσ H R hh=>ex5 hh λZ F ρ M P ag hf k=>⟨Z,F,ρ,M,_,ag,hf,λvs H1 F1 ds ρ1 M1 s1 ag1 r1 h1=>by
  obtain ⟨i,j,rfl,h2,h3,h4,h1⟩:=h1
  obtain ⟨v,u,rfl,rv,ru⟩:=rps2 r1
  rw [Rp] at rv ru
  subst rv ru
  exact ⟨i,j,rfl,h2,h3,h4,k _ H1 F1 _ ρ1 M1 s1 ag1 (qps_ (j - 1) _) h1⟩⟩⟩
end

structure Exs (K:PySem.W.Frag) (mg:Str->Option Value):Prop where
 NoChoice:ExC K mg "NoChoice"
 s_NoChoice_NoChoice:PySem.W.subIn K (.ref (cOf mg "NoChoice")) (.ref (cOf mg "NoChoice"))=some true
 s_NoChoice_ValueError:PySem.W.subIn K (.ref (cOf mg "NoChoice")) (.type "ValueError")=some true
/-! ### try:x=f(..) except S:suite,what is caught has no name -/
def trX0 (K:PySem.W.Frag) (S:Addr) (ts:TS) (D:Ends):L2.St->XK:=λσ' c oa H'=>∃a C,c= .ref C/\oa=some a/\PySem.W.exmOne K (.ref C) (.ref S)=some true/\ts D σ' (upd H' a (.ext (IsX a C)))
def qvi_ (K:PySem.W.Frag) (S:Addr) (tb:(L2.St->XK)->TS) (ts:TS):TS:=λD σ H=>tb (trX0 K S ts D) D σ H
theorem qp9_ {X:Cx} {S:Addr} {x:Str} {body suite:List Stmt} {b0:Stmt} {tb:(L2.St->XK)->TS} {ts:TS} {np hpos pos:Pos} (hg:Gl X x) (hm:X.mg x=some (.ref S))
  (hb:∀pn xe R,Arr (Cx.tr X pn xe) R->PSs (Cx.tr X pn xe) body (tb R)) (hs:∀a,PSs (Cx.mk' X a) (b0::suite) ts) (hst:X.stack=X.env::X.outer:=by rfl) (hf:X.env.frame=some X.env.locals:=by rfl)
  (hdb:(x==("__debug__":Str))=false:=by decide):
  PS X (.Try body [.ExceptHandler (some (.Name x np)) none (b0::suite) hpos] [] [] pos) (qvi_ X.K S tb ts):=by
 intro pins s σ H D I h
 let XE:Value->Shared->Prop:=λe s'=>∃(σ':L2.St) (H0 H':Hp) (s0:Shared) (a C:Addr) (tb:Option Addr),e= .ref a/\Inv X pins σ' H0 s0/\Lay X.prog X.w X.stack H0 H' s0 s' a C tb/\trX0 X.K S ts D σ' (.ref C) (some a) H'
 have ar:Arr (Cx.tr X (X.pn++pins) XE) (trX0 X.K S ts D):=λpins' σ' H0 H' s0 s' a C tb I' y r=>⟨σ',H0,H',s0,a,C,tb,rfl,qek_ I',y,r⟩
 refine wpAny_Try_except (wpAny_mono (hb (X.pn++pins) XE _ ar [] s σ H D (qtk_ I) h) (λf s1 q=>?_) λe s1 q=>?_)
 ·cases f with
  |next=>
   obtain ⟨σ',H',I',q⟩:=q
   exact wpAny_execs_nil ⟨σ',H',qek_ I',q⟩
  |brk=>obtain ⟨σ',H',I',q⟩:=q;exact ⟨σ',H',qek_ I',q⟩
  |cont=>obtain ⟨σ',H',I',q⟩:=q;exact ⟨σ',H',qek_ I',q⟩
  |ret u=>obtain ⟨v,σ',H',I',r,q⟩:=q;exact ⟨v,σ',H',qek_ I',r,q⟩
 obtain ⟨σ',H0,H',s0,a,C,tb',rfl,I0,y,a',C',eC,ea,hx,q⟩:=q
 cases eC
 cases ea
 have fu:=I0.stack
 have sf:=I0.stkFree
 have fr:=I0.ok.frames
 have yf:=y.funs fu sf
 rw [hst] at fr yf
 refine qk2_ fr yf hf y.fl λh' T hT fl kp=>?_
 rw [<-hst] at kp
 have y':=y.noted fu sf hT fl kp
 have J:=qog_ I0 y'
 refine wpAny_handleBy_cons (codeAny_handlers_test ?_) (by intro z;cases z)
 refine qgb_ (X:=Cx.mk' X a) (qjs_ J) hg hm ?_ hdb
 obtain ⟨ox,ix⟩:=(J.hok a _ qt_).1
 refine PySem.W.exm_one J.kIn ix.type hx _ _ _ _ (λ_ _ z=>z) ?_
 refine codeAny_handlers_suite ?_
 refine qqc_ fl λh2 fl2 k2 z2=>?_
 have nT:=(y'.nT T rfl).2
 have n0:∀b o,s0.heap.get? b=some o->b≠T:=λb o z e=>by rw [e,nT] at z;cases z
 obtain ⟨m0,⟨oL,_,_,hoL,_⟩,_⟩:=id I0.loc
 have hTs:X.s₀.heap.objs.size<=T:=by
  obtain ⟨o',z⟩:=y.un.there _ _ hoL (by simp)
  exact Nat.le_trans I0.ok.above (Nat.le_trans (Nat.le_of_lt (Heap.lt_size z)) hT)
 have J2:Inv X pins σ' (upd H' a (.ext (IsX a C))) {s1 with heap:=h2}:=by
  refine Inv.turned (s:={s1 with heap:=h'}) (h':=h2) (it:=T) (t':=s1.toks) J (λb o hb z=>k2 b o hb z) ?_ (λe=>n0 _ _ hoL e.symm) (.inr hTs) (λx c e z=>?_) λp hp z=>?_
  ·rw [qo_ (fl.tr T rfl).1];exact (y'.nT T rfl).1
  ·obtain ⟨v,o,ho,_⟩:=I0.cell x c e
   exact n0 _ _ ho z
  ·exact n0 _ _ (I0.pin p hp).1 z
 refine wpAny_mono (hs a pins _ _ _ _ (qjs_ J2) q) (λf s3 z=>?_) λ_ _ z=>z.elim
 cases f with
 |next=>
  obtain ⟨σ3,H3,J4,z⟩:=z
  exact ⟨_,_,qdt_ I0.ok.hd J4,z⟩
 |brk=>
  obtain ⟨σ3,H3,J4,z⟩:=z
  exact ⟨_,_,qdt_ I0.ok.hd J4,z⟩
 |cont=>
  obtain ⟨σ3,H3,J4,z⟩:=z
  exact ⟨_,_,qdt_ I0.ok.hd J4,z⟩
 |ret u=>
  obtain ⟨v,σ3,H3,J4,r,z⟩:=z
  exact ⟨v,_,_,qdt_ I0.ok.hd J4,r,z⟩
def qso_ (i:Nat) (C:Addr) (g:List D->(Option D->Prop)->Prop) (fl:WA) (fs:WS):WS:=λE ρ M=>fl ρ M λds ρ1 M1=>g ds λo=>match o with
 |some d=>E.nx (ρ1.set i (.sh d)) M1
 |none=>∀p,M1 p=none->fs E ρ1 (mset M1 p (.xc C))
section
variable {X:Cx} {e:Expr} {es:List Expr} {fl:WA} {fs:WS} {x f S:Str} {i:Nat} {g:List D->(Option D->Prop)->Prop} {k:Nat} {ps:List Str} {b0:Stmt} {suite:List Stmt} {pos pos' p cpos np hpos tpos:Pos} {C Sa:Addr}
theorem qnw_ (F:Has X.prog X.w X.K X.mg X.base (CX1 X.prog X.w) k f ps (spE X.K C g)) (hr:Room k X.A) (hg:Gl X f) (hN:X.N.Nodup) (hi:X.N[i]?=some x) (hx:Loc X.env.scope x) (hgS:Gl X S) (hmS:X.mg S=some (.ref Sa)) (hex:PySem.W.exmOne X.K (.ref C) (.ref Sa)=some true)
  (ha:∀pn xe,JA (Cx.tr X pn xe) (e::es) fl) (hs:∀a,JSs (Cx.mk' X a) (b0::suite) fs)
  (hdb:(f==("__debug__":Str))=false:=by decide) (he:starEach (e::es) X.env=(false,eval e X.env)::starEach es X.env:=by rfl) (hpl:(backTo cpos (starEach es X.env)).any (·.1)=false:=by rfl)
  (hsw:swapsWith (.Call (.Name f p) (e::es) [] cpos) (some (.Name x pos')) pos.line X.env=pure false:=by rfl) (hf:X.fn x=true\/X.env.scope.names.lookup x=some .local:=by first|exact .inl rfl|exact .inr rfl|assumption)
  (hst:X.stack=X.env::X.outer:=by rfl) (hfr:X.env.frame=some X.env.locals:=by rfl) (hdS:(S==("__debug__":Str))=false:=by decide):
  JS X (.Try [.Assign [.Name x pos'] (.Call (.Name f p) (e::es) [] cpos) pos] [.ExceptHandler (some (.Name S np)) none (b0::suite) hpos] [] [] tpos) (qso_ i C g fl fs):=
 ⟨imS (qp9_ (tb:=λR=>tAsg (qpf_ (spE X.K C g) R (lfA X.K fl)) (qnl_ i)) (ts:=lfS X.K fs) hgS hmS (λpn xe R ar=>qiz_ (qgo_ (X:=Cx.tr X pn xe) hN hi hx (qug_ (X:=Cx.tr X pn xe) F hr hg ar (ha pn xe).h hdb he hpl) hsw hf)) (λa=>(hs a).h) hst hfr hdS) λD' σ H hh=>ex5 hh λZ F ρ M E ag hf k=>by
  refine ⟨Z,F,ρ,M,_,ag,hf,λvs H1 F1 ds ρ1 M1 s1 ag1 r1 h1=>?_⟩
  refine ⟨_,F1,M1,ds,_,ag1.m.inner,r1,h1,λv H' F' d s' m' r p=>?_,λx H' F' s' m' hx p=>?_⟩
  ·exact k.nx _ H' F' _ M1 (s1.trans s') ((ag1.back s' m').set r) p
  ·have a1:=ag1.back s' m'
   obtain ⟨y1,y2,y3⟩:=qgt_ a1.m hx
   have a2:=(a1.newO (o:= .ext (IsX x C)) hx).adoptM (mo:= .xc C) qt_ y1 y2 y3 (λq es h z=>by
    obtain ⟨q',ws,h1,h2,_⟩:=a1.en q _ h
    rw [z] at h1
    cases h1
    rw [hx] at h2;cases h2) qt_
   have s2:=s1.trans s'
   exact ⟨x,C,rfl,rfl,hex,Z,F',_,_,_,a2,p x y2,⟨λσ' H2 F2 ρ2 M2 t a q=>k.nx _ H2 F2 _ M2 (s2.trans t) a q,λσ' H2 F2 ρ2 M2 t a q=>k.bk _ H2 F2 _ M2 (s2.trans t) a q,λσ' H2 F2 ρ2 M2 t a q=>k.ct _ H2 F2 _ M2 (s2.trans t) a q,λv H2 F2 u M2 t a r q=>k.rt v H2 F2 u M2 (s2.trans t) a r q⟩⟩⟩
end

/-! ### own trees whose leaves may hold lists,held for good -/
def wFzS (i:Nat) (f:WS):WS:=λE ρ M=>match uOf ρ[i]? with
 |some u=>∃d A,Sees M d u A/\f E (ρ.set i (.sh d)) (qdh_ M A)
 |none=>False
theorem qsy_ {Z F H:Hp} {M:Mm} {ρ:Rho} {σ:L2.St} {i:Nat} {u:U} {d:D} {A:List Addr} (ag:Ag K Z F M H ρ σ) (hu:uOf ρ[i]?=some u) (ow:Sees M d u A):Ag K Z (frz A H F) (qdh_ M A) H (ρ.set i (.sh d)) σ:=by
 have th:=ow.there
 have sF:=qb9_ ag.m th
 have hv:∃v,σ[i]?=some (some v)/\RU K F u v:=by
  cases q:ρ[i]? with
  |none=>rw [q] at hu;cases hu
  |some en=>
   rw [q] at hu
   have hen:=ag.en i en q
   cases en with
   |ut w=>cases hu;obtain ⟨v,h1,h2⟩:=hen;exact ⟨v,qdd_ h1,h2⟩
   |rf p=>cases hu;exact ⟨.ref p,qdd_ hen,by rw [RU]⟩
   |un=>cases hu
   |sh d=>cases hu
   |ow ds=>cases hu
 obtain ⟨v,hv1,hv2⟩:=hv
 have m1:AgM K Z (frz A H F) (qdh_ M A) H:=by
  refine ⟨qd6_ ag.m,λq o e=>?_,λq o e=>?_⟩
  ·obtain ⟨z1,z2,z3⟩:=ag.m.zz q o e
   have nq:q∉A:=λhq=>by obtain ⟨_,y⟩:=th q hq;rw [z3] at y;cases y
   exact ⟨z1,by rw [qb0_ nq];exact z2,by unfold qdh_;rw [if_neg nq];exact z3⟩
  ·have nq:q∉A:=λhq=>by unfold qdh_ at e;rw [if_pos hq] at e;cases e
   have e:M q=some o:=by unfold qdh_ at e;rw [if_neg nq] at e;exact e
   obtain ⟨z1,z2⟩:=ag.m.mo q o e
   exact ⟨by rw [qb0_ nq];exact z1,z2.same sF rfl⟩
 have a1:Ag K Z (frz A H F) (qdh_ M A) H ρ σ:=by
  refine ⟨m1,ag.len,λj en h=>?_,ag.di⟩
  have:=ag.en j en h
  cases en with
  |un=>trivial
  |sh d=>obtain ⟨v,h1,h2⟩:=this;exact ⟨v,h1,Rp.same sF h2⟩
  |rf p=>exact this
  |ut u=>obtain ⟨v,h1,h2⟩:=this;exact ⟨v,h1,RU.same sF h2⟩
  |ow ds'=>
   obtain ⟨p,vs,h1,h2,h3,h4,h6,h5⟩:=this
   have nq:p∉A:=λhq=>by obtain ⟨_,y⟩:=th p hq;rw [h4] at y;cases y
   exact ⟨p,vs,h1,h2,by rw [qb0_ nq];exact h3,by unfold qdh_;rw [if_neg nq];exact h4,h6,Rps.same sF h5⟩
 have a3:=a1.set (i:=i) (ow.rp ag.m sF (λq hq=>qfi_ hq) hv2)
 rw [qfw_ hv1] at a3
 exact a3
theorem qpa_ {X:Cx} {st:Stmt} {fs:WS} (i:Nat) (h:JS X st fs):JS X st (wFzS i fs):=⟨imS h.h λD' σ H hh=>ex5 hh λZ F ρ M E ag hf k=>by
 unfold wFzS at hf
 split at hf
 ·rename_i u hu
  obtain ⟨d,A,ow,hf⟩:=hf
  exact ⟨Z,_,_,_,E,qsy_ ag hu ow,hf,k.mono (qb9_ ag.m ow.there)⟩
 ·exact hf.elim⟩

/-! ### a test that only looks at a list whose leaves may hold lists -/
def qsu_ (i:Nat) (f:WT):WT:=λρ M P=>match uOf ρ[i]? with
 |some u=>∃d A,Sees M d u A/\f ((clr ρ).set i (.sh d)) (λ_=>none) λb _ _=>P b ρ M
 |none=>False
theorem qna_ {K:PySem.W.Frag} {Z F H:Hp} {M:Mm} {ρ:Rho} {σ:L2.St} {i:Nat} {u:U} {d:D} {A:List Addr} (ag:Ag K Z F M H ρ σ) (hu:uOf ρ[i]?=some u) (ow:Sees M d u A):Ag K (Zof (frz A H F) (λ_=>none) H) (frz A H F) (λ_=>none) H ((clr ρ).set i (.sh d)) σ:=by
 have th:=ow.there
 have sF:=qb9_ ag.m th
 have hv:∃v,σ[i]?=some (some v)/\RU K F u v:=by
  cases q:ρ[i]? with
  |none=>rw [q] at hu;cases hu
  |some en=>
   rw [q] at hu
   have hen:=ag.en i en q
   cases en with
   |ut w=>cases hu;obtain ⟨v,h1,h2⟩:=hen;exact ⟨v,qdd_ h1,h2⟩
   |rf p=>cases hu;exact ⟨.ref p,qdd_ hen,by rw [RU]⟩
   |un=>cases hu
   |sh d=>cases hu
   |ow ds=>cases hu
 obtain ⟨v,hv1,hv2⟩:=hv
 have m1:AgM K (Zof (frz A H F) (λ_=>none) H) (frz A H F) (λ_=>none) H:=⟨qd6_ ag.m,λp o h=>qeh_ h,λ_ _ h=>(nomatch h)⟩
 have a1:Ag K (λ_=>none) (frz A H F) (λ_=>none) H (clr ρ) σ:=by
  have c0:Ag K (λ_=>none) F M H (clr ρ) σ:=qfx_ ag ⟨ag.m.sm,λp o e=>(nomatch e),ag.m.mo⟩
  refine ⟨⟨qd6_ ag.m,λp o e=>(nomatch e),λp o e=>(nomatch e)⟩,c0.len,λj en h=>?_,c0.di⟩
  have:=c0.en j en h
  cases en with
  |un=>trivial
  |sh d=>obtain ⟨v,h1,h2⟩:=this;exact ⟨v,h1,Rp.same sF h2⟩
  |rf p=>exact this
  |ut u=>obtain ⟨v,h1,h2⟩:=this;exact ⟨v,h1,RU.same sF h2⟩
  |ow ds'=>
   exfalso
   unfold clr at h
   rw [List.getElem?_map] at h
   cases q:ρ[j]? with
   |none=>rw [q] at h;cases h
   |some en=>rw [q] at h;cases en<;>cases h
 have a2:=qfx_ a1 m1
 have ce:clr (clr ρ)=clr ρ:=by
  unfold clr
  rw [List.map_map]
  congr 1
  funext en
  cases en<;>rfl
 rw [ce] at a2
 have a3:=a2.set (i:=i) (ow.rp ag.m sF (λq hq=>qfi_ hq) hv2)
 rw [qfw_ hv1] at a3
 exact a3
theorem qsp_ {X:Cx} {e:Expr} {ft:WT} (i:Nat) (h:JT X e ft):JT X e (qsu_ i ft):=⟨imT h.h λσ H Q hh=>ex5 hh λZ F ρ M P ag hf k=>by
 unfold qsu_ at hf
 split at hf
 ·rename_i u hu
  obtain ⟨d,A,ow,hf⟩:=hf
  exact ⟨_,_,_,_,_,qna_ ag hu ow,hf,λb H' F' ρ' M' s' ag' hb=>k b H' F ρ M (Same.refl _) (qpd_ ag (qd6_ ag.m) s' ag') hb⟩
 ·exact hf.elim⟩
/-! ### the law's own rows -/
theorem qiv_:∀(a b:List Rat),peqs (a.map frD) (b.map frD)=decide (a=b)
 |[],[]=>rfl
 |[],_::_=>rfl
 |_::_,[]=>rfl
 |x::a,y::b=>by
  rw [List.map_cons,List.map_cons,peqs,qhy_,qiv_ a b]
  simp
theorem qvn_ (y z:ZR):peq (zQ y) (zQ z)=decide (y=z):=by
 obtain ⟨a,b,c⟩:=y
 obtain ⟨a',b',c'⟩:=z
 have h1:=qiv_ a a'
 have h2:=qiv_ b b'
 have h3:=qhy_ c c'
 show (peqs (a.map frD) (a'.map frD)&&(peqs (b.map frD) (b'.map frD)&&(peq (frD c) (frD c')&&true)))=_
 rw [h1,h2,h3]
 simp
def ownZ (R:List ZR):MO:= .own ((R.map zQ).map U.d)
theorem qly_ {M:Mm} {p:Addr} {R:List ZR} (h:M p=some (ownZ R)):Sees M (.lst (R.map zQ)) (.adr p) [p]:=Sees.flat h
theorem qjl_ (q:Rat):peq (.int q.num) (.int 0)=decide (q=0):=by
 show (q.num==0)=_
 by_cases h:q=0
 ·subst h;rfl
 ·rw [decide_eq_false h,beq_eq_false_iff_ne]
  exact λe=>h (Rat.num_eq_zero.mp e)
def gPut:WFU:=λus M Q=>∃(p:Addr) (R:List ZR) (z:ZR),us=[.adr p,.d (frL z.1),.d (frL z.2.1),.d (frD z.2.2)]/\M p=some (ownZ R)/\z.1.length<=100/\z.2.1.length<=100/\R.length<=100000/\Q (.d .non) (mset M p (ownZ (onR R z)))
theorem qkw_ (z:ZR):((z.1++z.2.1).filter (λq=> !decide (q=0))=[])↔(z.1++z.2.1).all (λq=>decide (q=0))=true:=by
 rw [List.filter_eq_nil_iff,List.all_eq_true]
 constructor
 ·intro h x hx;have:=h x hx;simpa using this
 ·intro h x hx;have:=h x hx;simpa using this
theorem qp5_ (l:List Rat):peq (.lst (l.map frD)) (.lst [])=decide (l=[]):=by
 cases l with
 |nil=>rfl
 |cons x l=>rfl
theorem qow_ {M:Mm} {p:Addr} {o:MO} (h:M p=some o):mset M p o=M:=by
 funext q
 by_cases z:q=p
 ·subst z;rw [qm_,h]
 ·rw [qu_ z]
abbrev qep_:Stmt:=top 56
theorem sc_law_put:FnScope ["rows","a","b","c","empty"] ["rows","a","b","c"] (qe_ qep_):=⟨rfl,rfl,rfl,by decide+kernel,rfl,by decide+kernel,by decide+kernel⟩
theorem h__law_put (B:Bl mg) (F:Def K mg "_law_put" qep_ ["rows","a","b","c"]):Has P w K mg base CX0 1 "_law_put" ["rows","a","b","c"] (spU K gPut):=by
 refine F.hasU sc_law_put (λus M P h=>by obtain ⟨_,_,_,rfl,_⟩:=h;rfl) λf cdv A outer s H E hr=>?_
 have nd:=sc_law_put.nd
 refine ⟨_,(qc_ (qp_ (i:=4) nd rfl (Or.inl rfl) (j_eq hr (j_fz (qc7_ ["one"] [none] ⟨rfl,by decide+kernel,by decide+kernel,rfl,rfl,by intro i x j _ h;exact absurd h (by rcases i with _|_|_|i<;>simp)⟩ rfl (qr_ (j_fz (qdk_ (jv 1) (jv 2)))) (λ_ _ _ _ _=>(qg_ (i:=0) (show List.Nodup [("one":Str)] by decide+kernel) rfl (Or.inl rfl))) (λ_ _ _ _ _=>(qfz_ (ql5_ hr (qh_ 0 qd_) qd_))) (λ_ _ _ _ _=>(jv 0)))) (j_fz (qbf_ qb_))))
  (qf_ (qcd_ (qsp_ 0 (JW.jt (qt5_ (JW.jt (qqr_ (qfs_ (jt (jv 4))) (qmx_ (qlp_ (qh_ 3 qd_) qd_)))) (qqt_ (qnv_ hr (q7_ (qa_ (jv 1) (qa_ (jv 2) (qa_ (jv 3) qb_)))) (jv 0)))))) (qf_ (qg1_ (ju_v 0) (ju_d (q7_ (qa_ (jv 1) (qa_ (jv 2) (qa_ (jv 3) qb_))))))) qx_))),?_⟩
 rintro us M Q ⟨p,R,z,rfl,hM,l1,l2,lR,q⟩
 have ea:z.1.map frD++z.2.1.map frD=(z.1++z.2.1).map frD:=by rw [List.map_append]
 have la:(z.1++z.2.1).length<=200:=by rw [List.length_append];omega
 refine ⟨by rw [List.length_map,List.length_map];exact Nat.le_of_lt (qi_ (by omega)),?_⟩
 rw [ea]
 refine ⟨λi out ρ M'=>M'=M/\out=(((z.1++z.2.1).take i).filter λq=> !decide (q=0)).map frD/\∃o,ρ=[o],⟨rfl,rfl,_,rfl⟩,?_,?_⟩
 ·rintro i d out ρ M' hd ⟨rfl,rfl,o,rfl⟩
  obtain ⟨x,hx,rfl⟩:=qq_ hd
  have hi:=(List.getElem?_eq_some_iff.mp hx).1
  refine ⟨Nat.zero_le _,?_⟩
  show if (!peq (.int x.num) (.int 0))=true then _ else _
  rw [qjl_]
  have fl:=List.length_filter_le (λq:Rat=> !decide (q=0)) ((z.1++z.2.1).take i)
  rw [List.length_take] at fl
  refine iteB (λc=>⟨by rw [List.length_map];exact qi_ (by omega),rfl,?_,.sh (frD x),rfl⟩) (λc=>⟨rfl,?_,.sh (frD x),rfl⟩)
  ·rw [qs_ hx,if_pos c,List.map_append];rfl
  ·rw [qs_ hx,if_neg (by rw [c];exact Bool.false_ne_true),List.append_nil]
 rintro out ρ M' ⟨rfl,rfl,o,rfl⟩
 rw [List.length_map,List.take_length]
 have hdl:∀l:List Rat,dep (frL l)<=60:=λl=>Nat.le_trans (qi4_ l) (by decide)
 refine ⟨by show 0<=sizeLine;decide,hdl _,?_⟩
 rw [qp5_]
 refine ⟨.lst (R.map zQ),[p],qly_ hM,?_⟩
 have dz:∀e∈R.map zQ,dep e<=50:=λe he=>by obtain ⟨y,_,rfl⟩:=List.mem_map.mp he;exact Nat.le_trans (qup_ y) (by decide)
 have ain:((R.map zQ).any λe=>peq e (zQ z))=decide (z∈R):=by
  rw [List.any_map]
  by_cases h:z∈R
  ·rw [decide_eq_true h,List.any_eq_true]
   exact ⟨z,h,by show peq (zQ z) (zQ z)=true;exact qcw_ _⟩
  ·rw [decide_eq_false h,List.any_eq_false]
   intro y hy e
   have e:peq (zQ y) (zQ z)=true:=e
   rw [qvn_] at e
   exact h (of_decide_eq_true e ▸ hy)
 have no:onR R z=R->∃M'',L4.Sub M'' M'/\Q (.d .non) M'':=λe=>by rw [e,qow_ hM] at q;exact ⟨M',Sub.refl _,q⟩
 have last:idle z=false->(List.length [frL z.1,frL z.2.1,frD z.2.2]<=sizeLine/\RIn not (zQ z) (.lst (R.map zQ)) λd=>match d with
   | .bl b=>if b=true then uApp (uV 0) (uD (wTup (qhc_ (wV 1) (qhc_ (wV 2) (qhc_ (wV 3) wNil))))) (endU Q) [.ut (.adr p),.sh (frL z.1),.sh (frL z.2.1),.sh (frD z.2.2),.sh (.bl (decide ((z.1++z.2.1).filter (λq=> !decide (q=0))=[])))] M' else ∃M'',L4.Sub M'' M'/\Q (.d .non) M''
   |_=>False):=λid=>by
  refine ⟨by show 3<=sizeLine;decide,dz,?_⟩
  show if (!((R.map zQ).any λe=>peq e (zQ z)))=true then _ else _
  rw [ain]
  refine iteB (λc=>?_) (λc=>?_)
  ·have nm:z∉R:=by simpa using c
   refine ⟨⟨_,hM⟩,by show 3<=sizeLine;decide,_,hM,by rw [List.length_map,List.length_map];exact qjb_ lR,?_⟩
   have e:onR R z=R++[z]:=by unfold onR;rw [id,if_neg Bool.false_ne_true,if_neg nm]
   rw [e] at q
   refine ⟨_,Sub.refl _,?_⟩
   have e2:((R.map zQ).map U.d)++[.d (zQ z)]=((R++[z]).map zQ).map U.d:=by rw [List.map_append,List.map_append];rfl
   show Q (.d .non) (mset M' p (.own (((R.map zQ).map U.d)++[.d (zQ z)])))
   rw [e2]
   exact q
  ·have nm:z∈R:=by simpa using c
   exact no (by unfold onR;rw [id,if_neg Bool.false_ne_true,if_pos nm])
 by_cases em:(z.1++z.2.1).filter (λq=> !decide (q=0))=[]
 ·have al:=(qkw_ z).mp em
  by_cases cn:z.2.2<0
  ·have id:idle z=false:=by unfold idle;rw [al,decide_eq_true cn];rfl
   have la:=last id
   rw [decide_eq_true em] at la ⊢
   show if decide (z.2.2.num<0)=true then _ else _
   rw [qex_,decide_eq_true cn]
   exact la
  ·have id:idle z=true:=by unfold idle;rw [al,decide_eq_false cn];rfl
   rw [decide_eq_true em]
   show if decide (z.2.2.num<0)=true then _ else _
   rw [qex_,decide_eq_false cn]
   exact no (by unfold onR;rw [id,if_pos rfl])
 ·have al:(z.1++z.2.1).all (λq=>decide (q=0))=false:=by
   cases h:(z.1++z.2.1).all (λq=>decide (q=0)) with
   |false=>rfl
   |true=>exact absurd ((qkw_ z).mpr h) em
  have id:idle z=false:=by unfold idle;rw [al];rfl
  have la:=last id
  rw [decide_eq_false em] at la ⊢
  exact la

/-! ### the law's own rows,turn by turn:the same as the program's -/
def qm4_:List D->(D->Prop)->Prop:=λds P=>∃(n k:Nat) (q:Rat),ds=[.int (n:Nat),.int (k:Nat),frD q]/\n<=100/\k<n/\P (frL (qbe_ n k q))
theorem qnf_ {n k i:Nat} {q:Rat} (hi:i<n):(qbe_ n k q)[i]?=some (if i=k then q else 0):=by
 unfold qbe_
 rw [List.getElem?_set,List.length_replicate]
 by_cases e:k=i
 ·subst e
  rw [if_pos rfl,if_pos hi,if_pos rfl]
 ·rw [if_neg e,if_neg (λz=>e z.symm),List.getElem?_replicate,if_pos hi]
abbrev qcg_:Stmt:=top 57
theorem sc_law_single:FnScope ["many","k","worth"] ["many","k","worth"] (qe_ qcg_):=⟨rfl,rfl,rfl,by decide+kernel,rfl,by decide+kernel,by decide+kernel⟩
theorem h__law_single (B:Bl mg) (F:Def K mg "_law_single" qcg_ ["many","k","worth"]):Has P w K mg base CX0 1 "_law_single" ["many","k","worth"] (spW K (pur qm4_)):=by
 refine F.hasP sc_law_single (λds P h=>by obtain ⟨_,_,_,rfl,_⟩:=h;rfl) λf cdv A outer s H E hr=>?_
 have nd:=sc_law_single.nd
 refine ⟨_,(qf_ (qn_ (j_fz (qc7_ ["spot","worth","k"] [none,some 2,some 1] ⟨rfl,by decide+kernel,by decide+kernel,rfl,rfl,q3_ rfl⟩ rfl (qcr_ rfl B.range (qa_ (jv 0) qb_)) (λ_ _ _ _ _=>(qg_ (i:=0) (show List.Nodup [("spot":Str),("worth":Str),("k":Str)] by decide+kernel) rfl (Or.inl rfl))) (λ_ _ _ _ _=>q4_) (λ_ _ _ _ _=>(j_at (j_fz (qbf_ (qa_ (q7_ (qa_ qd_ (qa_ qd_ qb_))) (qa_ (jv 1) qb_)))) (qh0_ rfl B.int (qa_ (j_eq hr (jv 0) (jv 2)) qb_)))))))),?_⟩
 rintro ds M Q ⟨n,k,q,rfl,hn,hk,kq⟩
 refine ⟨⟨by omega,by omega⟩,λi out ρ M'=>M'=M/\out=((qbe_ n k q).take i).map frD/\∃o,ρ=[o,.sh (frD q),.sh (.int (k:Nat))],⟨rfl,rfl,_,rfl⟩,?_,?_⟩
 ·rintro i d out ρ M' hd ⟨rfl,rfl,o,rfl⟩
  obtain ⟨rfl,hi⟩:=qb2_ hd
  have hi:i<n:=by omega
  refine ⟨by show 2<=sizeLine;decide,by show 2<=sizeLine;decide,Nat.zero_le _,?_⟩
  show RIx (.lst [frD 0,frD q]) (.int (if ((i:Nat):Int)==((k:Nat):Int) then 1 else 0)) _
  have e:(if (((i:Nat):Int)==((k:Nat):Int))=true then (1:Int) else 0)=((if i=k then 1 else 0:Nat):Int):=by
   by_cases c:i=k
   ·subst c;simp
   ·rw [if_neg c,if_neg (by simpa using (show ¬(i:Int)=(k:Int) by omega))];rfl
  rw [e]
  refine RIx.get (d:=frD (if i=k then q else 0)) (by split<;>rfl) ?_
  exact ⟨by rw [List.length_map,List.length_take];exact qi_ (by omega),rfl,q1_ (f:=frD) (qnf_ hi),_,rfl⟩
 ·rintro out ρ M' ⟨rfl,rfl,o,rfl⟩
  have ln:(qbe_ n k q).length=n:=by simp [qbe_]
  rw [qc1_,Int.toNat_natCast,List.take_of_length_le (Nat.le_of_eq ln)]
  exact ⟨_,Sub.refl _,kq⟩
def qth_:List D->(D->Prop)->Prop:=λds P=>∃(n:Nat) (q r:Rat) (a b:List Rat),ds=[frL a,frD q,frL b,frD r]/\n<=2000/\SmR n q/\SmR n r/\(∀x∈a,SmR n x)/\(∀x∈b,SmR n x)/\a.length=b.length/\a.length<=100/\P (frL (mixQ q a r b))
abbrev qd2_:Stmt:=top 58
theorem sc_law_sums:FnScope ["ones","p","others","q"] ["ones","p","others","q"] (qe_ qd2_):=⟨rfl,rfl,rfl,by decide+kernel,rfl,by decide+kernel,by decide+kernel⟩
theorem h__law_sums (B:Bl mg) (F:Def K mg "_law_sums" qd2_ ["ones","p","others","q"]) (F__law_plus:hLP P w K mg base) (F__law_times:hLT P w K mg base):Has P w K mg base CX0 3 "_law_sums" ["ones","p","others","q"] (spW K (pur qth_)):=by
 refine F.hasP sc_law_sums (λds P h=>by obtain ⟨_,_,_,_,_,rfl,_⟩:=h;rfl) λf cdv A outer s H E hr=>?_
 have nd:=sc_law_sums.nd
 refine ⟨_,(qf_ (qn_ (j_fz (qc7_ ["one","other","p","q"] [none,none,some 1,some 3] ⟨rfl,by decide+kernel,by decide+kernel,rfl,rfl,q3_ rfl⟩ rfl (qgp_ rfl B.zip (qa_ (jv 0) (qa_ (jv 2) qb_))) (λ_ _ _ _ _=>(qba_ (n:=2) rfl (qj_ (qg_ (i:=0) (show List.Nodup [("one":Str),("other":Str),("p":Str),("q":Str)] by decide+kernel) rfl (Or.inl rfl)) (qj_ (qg_ (i:=1) (show List.Nodup [("one":Str),("other":Str),("p":Str),("q":Str)] by decide+kernel) rfl (Or.inl rfl)) qy_)))) (λ_ _ _ _ _=>q4_) (λ_ _ _ _ _=>(j_h F__law_plus (hr.mono (by decide)) rfl (qa_ (j_h F__law_times (hr.mono (by decide)) rfl (qa_ (jv 2) (qa_ (jv 0) qb_))) (qa_ (j_h F__law_times (hr.mono (by decide)) rfl (qa_ (jv 3) (qa_ (jv 1) qb_))) qb_)))))))),?_⟩
 rintro ds M Q ⟨n,q,r,a,b,rfl,hn,sq,sr,sa,sb,la,lb,k⟩
 refine ⟨λi out ρ M'=>M'=M/\out=((mixQ q a r b).take i).map frD/\∃o1 o2,ρ=[o1,o2,.sh (frD q),.sh (frD r)],⟨rfl,rfl,_,_,rfl⟩,?_,?_⟩
 ·rintro i d out ρ M' hd ⟨rfl,rfl,o1,o2,rfl⟩
  obtain ⟨x,y,hx,hy,rfl⟩:=qkx_ hd
  have hi:=(List.getElem?_eq_some_iff.mp hx).1
  have sx:=sa x (List.mem_of_getElem? hx)
  have sy:=sb y (List.mem_of_getElem? hy)
  have hm:(mixQ q a r b)[i]?=some (q*x+r*y):=by rw [mixQ,List.getElem?_zipWith,hx,hy]
  refine ⟨rfl,q,x,rfl,Mx.of sq sx (by omega),r,y,rfl,Mx.of sr sy (by omega),_,_,rfl,Mx.of (qcc_ sq sx) (qcc_ sr sy) (by omega),by rw [List.length_map,List.length_take];exact qi_ (by omega),rfl,q1_ (f:=frD) hm,.sh (frD x),.sh (frD y),rfl⟩
 ·rintro out ρ M' ⟨rfl,rfl,o1,o2,rfl⟩
  have e:(zipD (a.map frD) (b.map frD)).length=(mixQ q a r b).length:=by rw [qcf_,List.length_map,List.length_map,mixQ,List.length_zipWith]
  rw [e,List.take_length]
  exact ⟨_,Sub.refl _,k⟩
/-! ### a size taken out -/
structure NzOk (S T:List (Rat×Rat)) (R:List ZR) (k D n:Nat):Prop where
 s:S.length<=100
 lt:T.length<=100
 d0:D≠0
 sD:Sm n (D:Int)
 hn:n<=201
 r:∀z∈R,RowW S.length T.length D n z
 l:R.length<=300
 bs:∀x∈S,Wh 6 6 x.1/\Wh 6 6 x.2
 k:k<S.length
theorem qp7_ {a:List Rat} {k:Nat} (hk:k<a.length):L3.cutD (a.map frD) none (some (k:Int))++[frD 0]++L3.cutD (a.map frD) (some ((k:Int)+1)) none=(a.set k 0).map frD:=by
 have e:(k:Int)+1=((k+1:Nat):Int):=by omega
 rw [L3.cut_to (by omega),e,L3.cut_from (by omega),List.map_set,List.set_eq_take_append_cons_drop,if_pos (by rw [List.length_map];exact hk)]
 simp
def gNZ:List D->(D->Prop)->Prop:=λds P=>∃(S T:List (Rat×Rat)) (Z R:List ZR) (k D n:Nat),ds=[q9_ S T Z,.lst (R.map zQ),.int (k:Nat)]/\NzOk S T R k D n/\P (.lst ((onQ (szR S k R)).map zQ))
theorem qt7_ {q:Rat} {x:Rat×Rat} {P:D->Prop} (h:P (frD (endQ q x))):RIx (bQ x) (.int (if decide (q.num<0)=true then 1 else 0)) P:=by
 rw [qex_]
 unfold endQ at h
 by_cases c:q<0
 ·rw [if_pos c] at h
  rw [decide_eq_true c]
  exact h
 ·rw [if_neg c] at h
  rw [decide_eq_false c]
  exact h
abbrev qb8_:Stmt:=top 60
theorem sc_law_no_size:FnScope ["plan","rows","k","found","a","b","c","end"] ["plan","rows","k"] (qe_ qb8_):=⟨rfl,rfl,rfl,by decide+kernel,rfl,by decide+kernel,by decide+kernel⟩
theorem h__law_no_size (B:Bl mg) (F:Def K mg "_law_no_size" qb8_ ["plan","rows","k"]) (F__law_put:Has P w K mg base CX0 1 "_law_put" ["rows","a","b","c"] (spU K gPut)) (F__law_plus:hLP P w K mg base) (F__law_times:hLT P w K mg base):Has P w K mg base CX0 3 "_law_no_size" ["plan","rows","k"] (spW K (pur gNZ)):=by
 refine F.hasP sc_law_no_size (λds P h=>by obtain ⟨_,_,_,_,_,_,_,rfl,_⟩:=h;rfl) λf cdv A outer s H E hr=>?_
 have nd:=sc_law_no_size.nd
 refine ⟨_,(qc_ (qfg_ (i:=3) nd rfl (Or.inl rfl) (qe2_ (qih_ (qbf_ qb_))))
  (qc_ (qbm_ PassesOwn.never rfl (qr_ (jv 1)) (qba_ (n:=3) rfl (qj_ (qg_ (i:=4) nd rfl (Or.inl rfl)) (qj_ (qg_ (i:=5) nd rfl (Or.inl rfl)) (qj_ (qg_ (i:=6) nd rfl (Or.inl rfl)) qy_))))
  (qc_ (qp_ (i:=7) nd rfl (Or.inl rfl) (j_at (j_at (qh_ 0 qd_) (jv 2)) (qh0_ rfl B.int (qa_ (j_lt (j_at (qh_ 4 (jv 2)) qd_) qd_) qb_))))
  (qf_ (qig_ (je_u (ju_h F__law_put (hr.mono (by decide)) rfl (qv_ (ju_v 3) (qv_ (ju_d (j_fz (qdk_ (j_fz (qdk_ (j_fz (qoz_ (jv 4) qie_ (qfj_ (jv 2)))) (j_fz (qbf_ (qa_ (q7_ (qa_ qd_ (qa_ qd_ qb_))) qb_))))) (j_fz (qoz_ (jv 4) (qfj_ (qcp_ (jv 2) qd_)) qie_))))) (qv_ (ju_d (jv 5)) (qv_ (ju_d (j_h F__law_plus (hr.mono (by decide)) rfl (qa_ (jv 6) (qa_ (j_h F__law_times (hr.mono (by decide)) rfl (qa_ (qh_ 4 (jv 2)) (qa_ (jv 7) qb_))) qb_)))) qd7_))))))))))
  (qf_ (qpa_ 3 (qn_ (jv 3)))))),?_⟩
 rintro ds M0 Q ⟨S,T,Z,R,k,D,n,rfl,ok,q⟩
 have lR:=ok.l
 have hn:=ok.hn
 have hk:=ok.k
 have lS:=ok.s
 have lT:=ok.lt
 refine ⟨by show 0<=sizeLine;decide,λp hp=>⟨λi ρ M'=>M'=mset M0 p (ownZ (((szR S k R).take i).foldl onR []))/\∃o4 o5 o6 o7:Ent,ρ=[.sh (q9_ S T Z),.sh (.lst (R.map zQ)),.sh (.int (k:Nat)),.ut (.adr p),o4,o5,o6,o7],⟨rfl,_,_,_,_,rfl⟩,?_,?_⟩⟩
 ·rintro i d ρ M' hd ⟨rfl,o4,o5,o6,o7,rfl⟩
  obtain ⟨z,hz,rfl⟩:=qq_ hd
  have hi:=(List.getElem?_eq_some_iff.mp hz).1
  have rz:=ok.r z (List.mem_of_getElem? hz)
  have kz:k<z.1.length:=by rw [rz.s];exact hk
  have sa:SmR n (aAt k z):=(rz.a _ (q6_ kz)).smr ok.d0 ok.sD
  have we:=qkd_ (q:=aAt k z) ok.bs hk
  have he:(szR S k R)[i]?=some (spQ k (endQ (aAt k z) (S.getD k (0,0))) z):=by unfold szR;rw [List.getElem?_map,hz];rfl
  have lf:(((szR S k R).take i).foldl onR []).length<=300:=by
   have:=qf4_ ((szR S k R).take i)
   rw [List.length_take] at this
   unfold onQ at this
   have l2:(szR S k R).length=R.length:=by unfold szR;rw [List.length_map]
   omega
  refine ⟨rfl,RIx.get (qkr_ hk) (RIx.frl kz (qt7_ (q:=aAt k z) ?_))⟩
  have lc:((z.1.map frD).take k).length<=100/\(L3.cutD (z.1.map frD) none (some (k:Int))).length<=100/\(L3.cutD (z.1.map frD) (some ((k:Int)+1)) none).length<=100:=by
   have e:(k:Int)+1=((k+1:Nat):Int):=by omega
   rw [L3.cut_to (by omega),e,L3.cut_from (by omega),List.length_drop,Int.toNat_natCast,List.length_take,List.length_map,rz.s]
   omega
  refine ⟨by show 2<=sizeLine;decide,by show 1<=sizeLine;decide,Nat.le_trans (Nat.add_le_add lc.2.1 (Nat.le_refl _)) (by show 101<=sizeLine;decide),?_⟩
  refine ⟨Nat.le_trans (Nat.add_le_add (show _<=101 by rw [List.length_append];exact Nat.add_le_add lc.2.1 (Nat.le_refl _)) lc.2.2) (by show 201<=sizeLine;decide),?_⟩
  refine RIx.frl kz ⟨_,_,rfl,Mx.of sa (sm6 we) (by omega),_,_,rfl,Mx.of (rz.c.smr ok.d0 ok.sD) (qcc_ sa (sm6 we)) (by omega),?_⟩
  refine ⟨p,_,spQ k (endQ (aAt k z) (S.getD k (0,0))) z,?_,qm_,?_,?_,by omega,?_⟩
  ·show [U.adr p,U.d (.lst (L3.cutD (z.1.map frD) none (some (k:Int))++[frD 0]++L3.cutD (z.1.map frD) (some ((k:Int)+1)) none)),_,_]=_
   rw [qp7_ kz];rfl
  ·show (z.1.set k 0).length<=100
   rw [List.length_set,rz.s];exact lS
  ·rw [show (spQ k (endQ (aAt k z) (S.getD k (0,0))) z).2.1=z.2.1 from rfl,rz.t];exact lT
  ·refine ⟨?_,_,_,_,_,rfl⟩
   rw [qcb_,qdu_ he]
 ·rintro ρ M' ⟨rfl,o4,o5,o6,o7,rfl⟩
  have e:(R.map zQ).length=(szR S k R).length:=by unfold szR;rw [List.length_map,List.length_map]
  rw [e,List.take_length]
  exact ⟨_,[p],qly_ qm_,M0,by rw [qf7_ hp];exact Sub.refl _,q⟩

/-! ### a shim taken out -/
theorem qnt_ (q:Rat):decide (0<q.num)=decide (0<q):=by
 have h:=qex_ (-q)
 rw [Rat.neg_num] at h
 have e1:decide (-q.num<0)=decide (0<q.num):=by rw [decide_eq_decide];omega
 have e2:decide (-q<0)=decide (0<q):=by rw [decide_eq_decide];constructor<;>intro h<;>grind
 rw [e1,e2] at h
 exact h
theorem frM1:D.tup [.int (-1),.int 1]=frD (-1):=frI (-1)
def gNS:List D->(D->Prop)->Prop:=λds P=>∃(S T:List (Rat×Rat)) (Z R:List ZR) (k D n:Nat),ds=[q9_ S T Z,.lst (R.map zQ),.int (k:Nat)]/\TtOk S T R (true,k) D n/\P (.lst ((outQ k (R++ownR S T k)).map zQ))
theorem RIx.bat {z:ZR} {k:Nat} {P:L3.D->Prop} (h:k<z.2.1.length) (p:P (frD (bAt k z))):RIx (frL z.2.1) (.int (k:Nat)) P:=RIx.frl h p
abbrev qca_:Stmt:=top 59
theorem sc_law_no_shim:FnScope ["plan","rows","k","low","high","zero","found","a","b","c","lows","highs","p","q","parts"] ["plan","rows","k"] (qe_ qca_):=⟨rfl,rfl,rfl,by decide+kernel,rfl,by decide+kernel,by decide+kernel⟩
theorem h__law_no_shim (B:Bl mg) (F:Def K mg "_law_no_shim" qca_ ["plan","rows","k"]) (F__law_put:Has P w K mg base CX0 1 "_law_put" ["rows","a","b","c"] (spU K gPut)) (F__law_single:Has P w K mg base CX0 1 "_law_single" ["many","k","worth"] (spW K (pur qm4_))) (F__law_sums:Has P w K mg base CX0 3 "_law_sums" ["ones","p","others","q"] (spW K (pur qth_))):Has P w K mg base CX0 4 "_law_no_shim" ["plan","rows","k"] (spW K (pur gNS)):=by
 refine F.hasP sc_law_no_shim (λds P h=>by obtain ⟨_,_,_,_,_,_,_,rfl,_⟩:=h;rfl) λf cdv A outer s H E hr=>?_
 have nd:=sc_law_no_shim.nd
 refine ⟨_,(qc_ (qe1_ (j_at (qh_ 0 qd_) (jv 2)) (qba_ (n:=2) rfl (qj_ (qg_ (i:=3) nd rfl (Or.inl rfl)) (qj_ (qg_ (i:=4) nd rfl (Or.inl rfl)) qy_))))
  (qc_ (qc8_ (k:=5) nd rfl (Or.inl rfl) ["size"] [none] ⟨rfl,by decide+kernel,by decide+kernel,rfl,rfl,by intro i x j _ h;exact absurd h (by rcases i with _|_|_|i<;>simp)⟩ rfl (qr_ (qh_ 0 qd_)) (λ_ _ _ _ _=>(qg_ (i:=0) (show List.Nodup [("size":Str)] by decide+kernel) rfl (Or.inl rfl))) (λ_ _ _ _ _=>q4_) (λ_ _ _ _ _=>(q7_ (qa_ qd_ (qa_ qd_ qb_)))))
  (qc_ (qp_ (i:=1) nd rfl (Or.inl rfl) (j_fz (qdk_ (jv 1) (j_fz (qbf_ (qa_ (q7_ (qa_ (jv 5) (qa_ (j_h F__law_single (hr.mono (by decide)) rfl (qa_ (qkk_ rfl B.len (qa_ (qh_ 0 qd_) qb_)) (qa_ (jv 2) (qa_ (q7_ (qa_ qd_ (qa_ qd_ qb_))) qb_)))) (qa_ (q7_ (qa_ (qks_ qd_ (qh_ 3 qd_)) (qa_ (qh_ 3 qd_) qb_))) qb_)))) qb_))))))
  (qc_ (qp_ (i:=1) nd rfl (Or.inl rfl) (j_fz (qdk_ (jv 1) (j_fz (qbf_ (qa_ (q7_ (qa_ (jv 5) (qa_ (j_h F__law_single (hr.mono (by decide)) rfl (qa_ (qkk_ rfl B.len (qa_ (qh_ 0 qd_) qb_)) (qa_ (jv 2) (qa_ (q7_ (qa_ (qlg_ qd_) (qa_ qd_ qb_))) qb_)))) (qa_ (jv 4) qb_)))) qb_))))))
  (qc_ (qfg_ (i:=6) nd rfl (Or.inl rfl) (qe2_ (qih_ (qbf_ qb_))))
  (qc_ (qbm_ PassesOwn.never rfl (qr_ (jv 1)) (qba_ (n:=3) rfl (qj_ (qg_ (i:=7) nd rfl (Or.inl rfl)) (qj_ (qg_ (i:=8) nd rfl (Or.inl rfl)) (qj_ (qg_ (i:=9) nd rfl (Or.inl rfl)) qy_))))
  (qf_ (qcd_ (qgc_ hr (j_at (qh_ 8 (jv 2)) qd_) qd_) (qf_ (qig_ (je_u (ju_h F__law_put (hr.mono (by decide)) rfl (qv_ (ju_v 6) (qv_ (ju_d (jv 7)) (qv_ (ju_d (jv 8)) (qv_ (ju_d (jv 9)) qd7_)))))))) qx_)))
  (qc_ (qbm_ PassesOwn.never rfl (qr_ (j_fz (qc7_ ["row","k"] [none,some 2] ⟨rfl,by decide+kernel,by decide+kernel,rfl,rfl,q3_ rfl⟩ rfl (qr_ (jv 1)) (λ_ _ _ _ _=>(qg_ (i:=0) (show List.Nodup [("row":Str),("k":Str)] by decide+kernel) rfl (Or.inl rfl))) (λ_ _ _ _ _=>(qfz_ (qrs_ (j_at (j_at (qh_ 0 qd_) (jv 1)) qd_) qd_))) (λ_ _ _ _ _=>(jv 0))))) (qg_ (i:=10) nd rfl (Or.inl rfl))
  (qf_ (qbm_ PassesOwn.never rfl (qr_ (j_fz (qc7_ ["row","k"] [none,some 2] ⟨rfl,by decide+kernel,by decide+kernel,rfl,rfl,q3_ rfl⟩ rfl (qr_ (jv 1)) (λ_ _ _ _ _=>(qg_ (i:=0) (show List.Nodup [("row":Str),("k":Str)] by decide+kernel) rfl (Or.inl rfl))) (λ_ _ _ _ _=>(qfz_ (qlp_ (j_at (j_at (qh_ 0 qd_) (jv 1)) qd_) qd_))) (λ_ _ _ _ _=>(jv 0))))) (qg_ (i:=11) nd rfl (Or.inl rfl))
  (qc_ (qp_ (i:=12) nd rfl (Or.inl rfl) (q7_ (qa_ (qks_ qd_ (j_at (j_at (qh_ 11 qd_) (jv 2)) qd_)) (qa_ (j_at (j_at (qh_ 11 qd_) (jv 2)) qd_) qb_))))
  (qc_ (qp_ (i:=13) nd rfl (Or.inl rfl) (j_at (qh_ 10 qd_) (jv 2)))
  (qc_ (qp_ (i:=14) nd rfl (Or.inl rfl) (j_fz (qbf_ (qa_ (j_h F__law_sums (hr.mono (by decide)) rfl (qa_ (qh_ 10 qd_) (qa_ (jv 12) (qa_ (qh_ 11 qd_) (qa_ (jv 13) qb_))))) (qa_ (j_h F__law_sums (hr.mono (by decide)) rfl (qa_ (qh_ 10 qd_) (qa_ (jv 12) (qa_ (qh_ 11 qd_) (qa_ (jv 13) qb_))))) qb_)))))
  (qf_ (qig_ (je_u (ju_h F__law_put (hr.mono (by decide)) rfl (qv_ (ju_v 6) (qv_ (ju_d (qh_ 14 qd_)) (qv_ (ju_d (qh_ 14 qd_)) (qv_ (ju_d (j_at (j_h F__law_sums (hr.mono (by decide)) rfl (qa_ (j_fz (qbf_ (qa_ (qh_ 10 qd_) qb_))) (qa_ (jv 12) (qa_ (j_fz (qbf_ (qa_ (qh_ 11 qd_) qb_))) (qa_ (jv 13) qb_))))) qd_)) qd7_))))))))))))))
  (qf_ (qpa_ 6 (qn_ (jv 6))))))))))),?_⟩
 rintro ds M0 Q ⟨S,T,Z,R,k,D,n,rfl,ok,q⟩
 have lR:=ok.l
 have hn:=ok.hn
 have hk:k<T.length:=ok.k
 have lS:=ok.s
 have lT:=ok.lt
 have ow:=qlk_ (S:=S) ok.d0 ok.sD ok.bt hk
 have rr:∀z∈R++ownR S T k,RowW S.length T.length D n z:=λz hz=>(List.mem_append.mp hz).elim (ok.r z) (ow z)
 have lA:(R++ownR S T k).length<=302:=by rw [List.length_append];show _+2<=_;omega
 refine RIx.get (qkr_ hk) ⟨rfl,?_⟩
 refine ⟨λj out ρ M2=>M2=M0/\out=List.replicate j (frD 0)/\∃o,ρ=[o],⟨rfl,rfl,_,rfl⟩,?_,?_⟩
 ·rintro j d out ρ M2 hd ⟨rfl,rfl,o,rfl⟩
  have hj:=(List.getElem?_eq_some_iff.mp hd).1
  have hj:j<(S.map bQ).length:=hj
  rw [List.length_map] at hj
  exact ⟨by show 2<=sizeLine;decide,by rw [List.length_replicate];exact qi_ (by omega),rfl,by rw [List.replicate_succ'];rfl,.sh d,rfl⟩
 rintro out1 ρ M2 ⟨rfl,h1,o,rfl⟩
 have h1:out1=List.replicate (S.map bQ).length (frD 0):=h1
 rw [List.length_map] at h1
 have e1:L3.D.lst out1=frL (List.replicate S.length 0):=by rw [h1,frL,List.map_replicate]
 have l2:(T.map bQ).length=T.length:=List.length_map _
 refine ⟨by show 2<=sizeLine;decide,(T.map bQ).length,k,1,rfl,by omega,by omega,?_⟩
 rw [l2]
 refine ⟨by show 2<=sizeLine;decide,by show 3<=sizeLine;decide,by show 1<=sizeLine;decide,by rw [List.length_map];exact Nat.le_of_lt (qi_ (show R.length+1<=1000 by omega)),?_⟩
 refine ⟨by show 2<=sizeLine;decide,(T.map bQ).length,k, -1,by rw [<-frM1],by omega,by omega,?_⟩
 rw [l2]
 refine ⟨by show 3<=sizeLine;decide,by show 1<=sizeLine;decide,by rw [List.length_append,List.length_map];exact Nat.le_of_lt (qi_ (show R.length+1+1<=1000 by omega)),?_⟩
 have eA:(R.map zQ++[L3.D.tup [L3.D.lst out1,frL (qbe_ T.length k 1),.tup [.int (0 - (T.getD k (0,0)).1.num),.int ((T.getD k (0,0)).1.den:Int)]]])++[.tup [L3.D.lst out1,frL (qbe_ T.length k (-1)),frD (T.getD k (0,0)).2]]=(R++ownR S T k).map zQ:=by
  rw [e1,qga_,List.map_append,List.append_assoc];rfl
 rw [eA]
 generalize R++ownR S T k=A at rr lA q
 have bk:∀z∈A,k<z.2.1.length/\SmR n (bAt k z):=λz hz=>⟨by rw [(rr z hz).t];exact hk,((rr z hz).b _ (q6_ (by rw [(rr z hz).t];exact hk))).smr ok.d0 ok.sD⟩
 have okA:∀z∈A,RowOk S.length T.length n z:=λz hz=>(rr z hz).ok ok.d0 ok.sD
 refine ⟨by show 0<=sizeLine;decide,λp hp=>?_⟩
  -- rows without a part
 refine ⟨λi ρ M'=>M'=mset M2 p (ownZ (((A.take i).filter λz=>decide (bAt k z=0)).foldl onR []))/\∃o3 o4 o5 o7 o8 o9 o10 o11 o12 o13 o14:Ent,ρ=[.sh (q9_ S T Z),.sh (.lst (A.map zQ)),.sh (.int (k:Nat)),o3,o4,o5,.ut (.adr p),o7,o8,o9,o10,o11,o12,o13,o14],⟨rfl,_,_,_,_,_,_,_,_,_,_,_,rfl⟩,?_,?_⟩
 ·rintro i d ρ M' hd ⟨rfl,o3,o4,o5,o7,o8,o9,o10,o11,o12,o13,o14,rfl⟩
  obtain ⟨z,hz,rfl⟩:=qq_ hd
  have zA:=List.mem_of_getElem? hz
  have hi:=(List.getElem?_eq_some_iff.mp hz).1
  refine ⟨rfl,RIx.bat (bk z zA).1 ⟨Nat.zero_le _,?_⟩⟩
  show if peq (.int (bAt k z).num) (.int 0)=true then _ else _
  rw [qjl_]
  have lf:(((A.take i).filter λz=>decide (bAt k z=0)).foldl onR []).length<=302:=by
   have h1:=qf4_ ((A.take i).filter λz=>decide (bAt k z=0))
   have h2:=List.length_filter_le (λz=>decide (bAt k z=0)) (A.take i)
   rw [List.length_take] at h2
   unfold onQ at h1
   omega
  refine iteB (λc=>?_) (λc=>?_)
  ·refine ⟨p,_,z,rfl,qm_,by rw [(rr z zA).s];exact lS,by rw [(rr z zA).t];exact lT,by omega,?_⟩
   refine ⟨?_,_,_,_,_,_,_,_,_,_,_,_,rfl⟩
   rw [qcb_,qs_ hz,if_pos c,List.foldl_append];rfl
  ·refine ⟨?_,_,_,_,_,_,_,_,_,_,_,_,rfl⟩
   rw [qs_ hz,if_neg (by rw [c];exact Bool.false_ne_true),List.append_nil]
 rintro ρ M' ⟨rfl,o3,o4,o5,o7,o8,o9,o10,o11,o12,o13,o14,rfl⟩
 rw [List.length_map,List.take_length]
  -- lows
 refine ⟨λi out ρ M'=>M'=mset M2 p (ownZ ((qd3_ k A).foldl onR []))/\out=((A.take i).filter λz=>decide (0<bAt k z)).map zQ/\∃o,ρ=[o,.sh (.int (k:Nat))],⟨rfl,rfl,_,rfl⟩,?_,?_⟩
 ·rintro i d out ρ M' hd ⟨rfl,rfl,o,rfl⟩
  obtain ⟨z,hz,rfl⟩:=qq_ hd
  have zA:=List.mem_of_getElem? hz
  have hi:=(List.getElem?_eq_some_iff.mp hz).1
  refine RIx.bat (bk z zA).1 ?_
  show if decide (0<(bAt k z).num)=true then _ else _
  rw [qnt_]
  have fl:=List.length_filter_le (λz=>decide (0<bAt k z)) (A.take i)
  rw [List.length_take] at fl
  refine iteB (λc=>⟨by rw [List.length_map];exact qi_ (by omega),rfl,?_,.sh (zQ z),rfl⟩) (λc=>⟨rfl,?_,.sh (zQ z),rfl⟩)
  ·rw [qs_ hz,if_pos c,List.map_append];rfl
  ·rw [qs_ hz,if_neg (by rw [c];exact Bool.false_ne_true),List.append_nil]
 rintro outL ρ M' ⟨rfl,h2,o,rfl⟩
 have h2:outL=((A.take (A.map zQ).length).filter λz=>decide (0<bAt k z)).map zQ:=h2
 rw [List.length_map,List.take_length] at h2
 have h2:outL=(qz_ k A).map zQ:=h2
 subst h2
 have lL:(qz_ k A).length<=302:=Nat.le_trans (List.length_filter_le _ _) lA
 have lG:(qw_ k A).length<=302:=Nat.le_trans (List.length_filter_le _ _) lA
 have lE:(qd3_ k A).length<=302:=Nat.le_trans (List.length_filter_le _ _) lA
 have big:∀l:List ZR,l.length<=302+302*302->(l.foldl onR []).length<=100000:=λl hl=>by
  have h1:=qf4_ l
  unfold onQ at h1
  omega
 refine ⟨λi ρ M'=>M'=mset M2 p (ownZ ((qd3_ k A++qct_ k ((qz_ k A).take i) (qw_ k A)).foldl onR []))/\∃o3 o4 o5 o7 o8 o9 o10 o11 o12 o13 o14:Ent,ρ=[.sh (q9_ S T Z),.sh (.lst (A.map zQ)),.sh (.int (k:Nat)),o3,o4,o5,.ut (.adr p),o7,o8,o9,o10,o11,o12,o13,o14],⟨?_,_,_,_,_,_,_,_,_,_,_,_,rfl⟩,?_,?_⟩
 ·have:qct_ k ((qz_ k A).take 0) (qw_ k A)=[]:=by simp [qct_]
  rw [this,List.append_nil]
 ·rintro i d ρ M' hd ⟨rfl,o3,o4,o5,o7,o8,o9,o10,o11,o12,o13,o14,rfl⟩
  obtain ⟨l,hl,rfl⟩:=qq_ hd
  have hl:(qz_ k A)[i]?=some l:=hl
  have hi:=(List.getElem?_eq_some_iff.mp hl).1
  have lM:=(List.mem_filter.mp (List.mem_of_getElem? hl)).1
    -- highs
  refine ⟨λj out ρ M'=>M'=mset M2 p (ownZ ((qd3_ k A++qct_ k ((qz_ k A).take i) (qw_ k A)).foldl onR []))/\out=((A.take j).filter λz=>decide (bAt k z<0)).map zQ/\∃o,ρ=[o,.sh (.int (k:Nat))],⟨rfl,rfl,_,rfl⟩,?_,?_⟩
  ·rintro j d out ρ M' hd ⟨rfl,rfl,o,rfl⟩
   obtain ⟨z,hz,rfl⟩:=qq_ hd
   have zA:=List.mem_of_getElem? hz
   have hj:=(List.getElem?_eq_some_iff.mp hz).1
   refine RIx.bat (bk z zA).1 ?_
   show if decide ((bAt k z).num<0)=true then _ else _
   rw [qex_]
   have fl:=List.length_filter_le (λz=>decide (bAt k z<0)) (A.take j)
   rw [List.length_take] at fl
   refine iteB (λc=>⟨by rw [List.length_map];exact qi_ (by omega),rfl,?_,.sh (zQ z),rfl⟩) (λc=>⟨rfl,?_,.sh (zQ z),rfl⟩)
   ·rw [qs_ hz,if_pos c,List.map_append];rfl
   ·rw [qs_ hz,if_neg (by rw [c];exact Bool.false_ne_true),List.append_nil]
  rintro outH ρ M' ⟨rfl,h3,o,rfl⟩
  have h3:outH=((A.take (A.map zQ).length).filter λz=>decide (bAt k z<0)).map zQ:=h3
  rw [List.length_map,List.take_length] at h3
  have h3:outH=(qw_ k A).map zQ:=h3
  subst h3
  refine ⟨λj ρ M'=>M'=mset M2 p (ownZ ((qd3_ k A++qct_ k ((qz_ k A).take i) (qw_ k A)++((qw_ k A).take j).map (λh=>ptQ l h k)).foldl onR []))/\∃o3 o4 o5 o7 o8 o9 o11 o12 o13 o14:Ent,ρ=[.sh (q9_ S T Z),.sh (.lst (A.map zQ)),.sh (.int (k:Nat)),o3,o4,o5,.ut (.adr p),o7,o8,o9,.sh (zQ l),o11,o12,o13,o14],⟨?_,_,_,_,_,_,_,_,_,_,_,rfl⟩,?_,?_⟩
  ·rw [List.take_zero,List.map_nil,List.append_nil]
  ·rintro j d ρ M' hd ⟨rfl,o3,o4,o5,o7,o8,o9,o11,o12,o13,o14,rfl⟩
   obtain ⟨h,hh,rfl⟩:=qq_ hd
   have hh:(qw_ k A)[j]?=some h:=hh
   have hj:=(List.getElem?_eq_some_iff.mp hh).1
   have hM:=(List.mem_filter.mp (List.mem_of_getElem? hh)).1
   have rl:=rr l lM
   have rh:=rr h hM
   have sl:=okA l lM
   have sh':=okA h hM
   have m1:=qhd_ (bk h hM).2
   have m2:=(bk l lM).2
   refine RIx.bat (bk h hM).1 (RIx.bat (bk h hM).1 ⟨by show 2<=sizeLine;decide,RIx.bat (bk l lM).1 ?_⟩)
   refine ⟨n, -(bAt k h),bAt k l,l.1,h.1,?_,by omega,m1,m2,sl.a,sh'.a,by rw [rl.s,rh.s],by rw [rl.s];exact lS,?_⟩
   ·rw [<-qga_]
   refine ⟨n, -(bAt k h),bAt k l,l.2.1,h.2.1,?_,by omega,m1,m2,sl.b,sh'.b,by rw [rl.t,rh.t],by rw [rl.t];exact lT,?_⟩
   ·rw [<-qga_]
   refine ⟨by show 2<=sizeLine;decide,?_⟩
   refine ⟨by show 1<=sizeLine;decide,by show 1<=sizeLine;decide,?_⟩
   refine ⟨n, -(bAt k h),bAt k l,[l.2.2],[h.2.2],?_,by omega,m1,m2,?_,?_,rfl,by show 1<=100;decide,?_⟩
   ·rw [<-qga_];rfl
   ·intro x hx;rw [List.mem_singleton.mp hx];exact sl.c
   ·intro x hx;rw [List.mem_singleton.mp hx];exact sh'.c
   refine ⟨p,_,ptQ l h k,rfl,qm_,?_,?_,big _ ?_,?_⟩
   ·show (mixQ _ _ _ _).length<=100
    rw [mixQ,List.length_zipWith,rl.s,rh.s];omega
   ·show (mixQ _ _ _ _).length<=100
    rw [mixQ,List.length_zipWith,rl.t,rh.t];omega
   ·have a1:(qct_ k ((qz_ k A).take i) (qw_ k A)).length+(((qw_ k A).take j).map (λh=>ptQ l h k)).length<=302*302:=by
     have b1:=qe9_ k ((qz_ k A).take (i+1)) (qw_ k A)
     rw [qfo_ hl,List.length_append,List.length_map] at b1
     have b2:=Nat.mul_le_mul (show ((qz_ k A).take (i+1)).length<=302 by rw [List.length_take];omega) lG
     rw [List.length_map,List.length_take]
     omega
    rw [List.length_append,List.length_append]
    omega
   ·refine ⟨?_,_,_,_,_,_,_,_,_,_,_,rfl⟩
    have et:((qw_ k A).take (j+1)).map (λh=>ptQ l h k)=((qw_ k A).take j).map (λh=>ptQ l h k)++[ptQ l h k]:=by rw [List.take_add_one,hh,Option.toList_some,List.map_append];rfl
    rw [qcb_,et,<-List.append_assoc,List.foldl_append (l':=[ptQ l h k])];rfl
  ·rintro ρ M' ⟨rfl,o3,o4,o5,o7,o8,o9,o11,o12,o13,o14,rfl⟩
   refine ⟨?_,_,_,_,_,_,_,_,_,_,_,_,rfl⟩
   rw [List.length_map,List.take_length,qfo_ hl,List.append_assoc]
 ·rintro ρ M' ⟨rfl,o3,o4,o5,o7,o8,o9,o10,o11,o12,o13,o14,rfl⟩
  rw [List.length_map,List.take_length]
  exact ⟨_,[p],qly_ qm_,M2,by rw [qf7_ hp];exact Sub.refl _,q⟩

/-! ### the law's rows of an order,and who is ahead -/
theorem qvj_ {S T:List (Rat×Rat)} {R:List ZR} {k D n:Nat} (h:TtOk S T R (false,k) D n):NzOk S T R k D n:=⟨h.s,h.lt,h.d0,h.sD,h.hn,h.r,h.l,h.bs,h.k⟩
def gLR:List D->(D->Prop)->Prop:=λds P=>∃(S T:List (Rat×Rat)) (Z:List ZR) (O:List Tn) (p:Nat),ds=[q9_ S T Z,.lst (O.map tnQ),.int (p:Nat)]/\PlO S T Z/\OrdO S T O/\p<=O.length/\P (.lst ((qbn_ S T Z (O.drop p)).map zQ))
abbrev qdy_:Stmt:=top 61
theorem sc_law_rows:FnScope ["plan","order","place","rows","spot","kind","k"] ["plan","order","place"] (qe_ qdy_):=⟨rfl,rfl,rfl,by decide+kernel,rfl,by decide+kernel,by decide+kernel⟩
theorem h__law_rows (B:Bl2 mg) (F:Def K mg "_law_rows" qdy_ ["plan","order","place"]) (F__law_no_shim:Has P w K mg base CX0 4 "_law_no_shim" ["plan","rows","k"] (spW K (pur gNS))) (F__law_no_size:Has P w K mg base CX0 3 "_law_no_size" ["plan","rows","k"] (spW K (pur gNZ))):Has P w K mg base CX0 5 "_law_rows" ["plan","order","place"] (spW K (pur gLR)):=by
 refine F.hasP sc_law_rows (λds P h=>by obtain ⟨_,_,_,_,_,rfl,_⟩:=h;rfl) λf cdv A outer s H E hr=>?_
 have nd:=sc_law_rows.nd
 refine ⟨_,(qc_ (qfd_ (k:=3) nd rfl (Or.inl rfl) ["a","b","c"] [none,none,none] ⟨rfl,by decide+kernel,by decide+kernel,rfl,rfl,by intro i x j _ h;exact absurd h (by rcases i with _|_|_|i<;>simp)⟩ rfl (qr_ (qh_ 0 qd_)) (λ_ _ _ _ _=>(qba_ (n:=3) rfl (qj_ (qg_ (i:=0) (show List.Nodup [("a":Str),("b":Str),("c":Str)] by decide+kernel) rfl (Or.inl rfl)) (qj_ (qg_ (i:=1) (show List.Nodup [("a":Str),("b":Str),("c":Str)] by decide+kernel) rfl (Or.inl rfl)) (qj_ (qg_ (i:=2) (show List.Nodup [("a":Str),("b":Str),("c":Str)] by decide+kernel) rfl (Or.inl rfl)) qy_))))) (λ_ _ _ _ _=>q4_) (λ_ _ _ _ _=>(q7_ (qa_ (j_fz (qbd_ rfl B.list (qa_ (jv 0) qb_))) (qa_ (j_fz (qbd_ rfl B.list (qa_ (jv 1) qb_))) (qa_ (jv 2) qb_))))))
  (qc_ (qbm_ PassesOwn.never rfl (ql2_ rfl B.reversed rfl B.range (qa_ (jv 2) (qa_ (qcu_ 1 rfl B.len) qb_))) (qg_ (i:=4) nd rfl (Or.inl rfl))
  (qc_ (qe1_ (qh_ 1 (jv 4)) (qba_ (n:=2) rfl (qj_ (qg_ (i:=5) nd rfl (Or.inl rfl)) (qj_ (qg_ (i:=6) nd rfl (Or.inl rfl)) qy_))))
  (qf_ (qcd_ (qgc_ hr (jv 5) qdf_) (qf_ (qp_ (i:=3) nd rfl (Or.inl rfl) (j_h F__law_no_shim (hr.mono (by decide)) rfl (qa_ (jv 0) (qa_ (jv 3) (qa_ (jv 6) qb_)))))) (qf_ (qp_ (i:=3) nd rfl (Or.inl rfl) (j_h F__law_no_size (hr.mono (by decide)) rfl (qa_ (jv 0) (qa_ (jv 3) (qa_ (jv 6) qb_))))))))))
  (qf_ (qn_ (jv 3))))),?_⟩
 rintro ds M Q ⟨S,T,Z,O,p,rfl,pl,od,hp,q⟩
 have lz:=pl.z
 have l5:=od.l
 refine ⟨λi out ρ M'=>M'=M/\out=(Z.take i).map zQ/\∃o1 o2 o3,ρ=[o1,o2,o3],⟨rfl,rfl,_,_,_,rfl⟩,?_,?_⟩
 ·rintro i d out ρ M' hd ⟨rfl,rfl,o1,o2,o3,rfl⟩
  obtain ⟨z,hz,rfl⟩:=qq_ hd
  have hi:=(List.getElem?_eq_some_iff.mp hz).1
  exact ⟨rfl,by show 3<=sizeLine;decide,by rw [List.length_map,List.length_take];exact qi_ (by omega),rfl,q1_ (f:=zQ) hz,_,_,_,rfl⟩
 rintro out ρ M' ⟨rfl,rfl,o1,o2,o3,rfl⟩
 rw [List.length_map,List.take_length]
 have lO:(O.map tnQ).length=O.length:=List.length_map _
 refine ⟨(p:Nat),((O.map tnQ).length:Nat),rfl,by omega,by omega,by omega,?_⟩
 refine ⟨λi ρ M2=>M2=M'/\∃o4 o5 o6:Ent,ρ=[.sh (q9_ S T Z),.sh (.lst (O.map tnQ)),.sh (.int (p:Nat)),.sh (.lst ((qbn_ S T Z (O.drop (O.length - i))).map zQ)),o4,o5,o6],⟨rfl,.un,.un,.un,?_⟩,?_,?_⟩
 ·rw [Nat.sub_zero,List.drop_length];rfl
 ·rintro i d ρ M2 hd ⟨rfl,o4,o5,o6,rfl⟩
  obtain ⟨rfl,hi⟩:=qje_ hd
  have hi:i<O.length - p:=by omega
  have ei:((O.map tnQ).length:Int) - 1 - i=((O.length - 1 - i:Nat):Int):=by omega
  have ht:O[O.length - 1 - i]?=some (O[O.length - 1 - i]'(by omega)):=List.getElem?_eq_getElem (by omega)
  generalize O[O.length - 1 - i]'(by omega)=t at ht
  have e:O.drop (O.length - (i+1))=t::O.drop (O.length - i):=by
   have h1:O.length - (i+1)=O.length - 1 - i:=by omega
   have h2:O.length - i=O.length - 1 - i+1:=by omega
   rw [h1,h2,List.drop_eq_getElem_cons (by omega)]
   congr 1
   exact (List.getElem?_eq_some_iff.mp ht).2
  have od2:OrdO S T (t::O.drop (O.length - i)):=by rw [<-e];exact od.drop _
  have tt:=qjm_ pl od2
  rw [ei]
  have hm:(O.map tnQ)[O.length - 1 - i]?=some (tnQ t):=by rw [List.getElem?_map,ht];rfl
  obtain ⟨b,k⟩:=t
  cases b with
  |true=>
   rw [show tnQ (true,k)=D.tup [.str "shim",.int (k:Nat)] from rfl] at hm
   refine RIx.get hm ⟨rfl,Nat.zero_le _,?_⟩
   show if peq (D.str "shim") (D.str "shim")=true then _ else _
   refine iteY (by decide+kernel) ?_
   refine ⟨S,T,Z,_,k,_,_,rfl,tt,rfl,.sh (.int ((O.length - 1 - i:Nat):Int)),.sh (.str "shim"),.sh (.int (k:Nat)),?_⟩
   rw [e];rfl
  |false=>
   rw [show tnQ (false,k)=D.tup [.str "size",.int (k:Nat)] from rfl] at hm
   refine RIx.get hm ⟨rfl,Nat.zero_le _,?_⟩
   show if peq (D.str "size") (D.str "shim")=true then _ else _
   refine iteN (by decide+kernel) ?_
   refine ⟨S,T,Z,_,k,_,_,rfl,qvj_ tt,rfl,.sh (.int ((O.length - 1 - i:Nat):Int)),.sh (.str "size"),.sh (.int (k:Nat)),?_⟩
   rw [e];rfl
 ·rintro ρ M2 ⟨rfl,o4,o5,o6,rfl⟩
  have e:O.length - (((O.map tnQ).length:Int) - (p:Int)).toNat=p:=by omega
  rw [qhf_,e]
  exact ⟨_,Sub.refl _,q⟩
def cofT (z:ZR) (t:Tn):Rat:=if t.1=true then bAt t.2 z else aAt t.2 z
theorem qk4_ {s t:Nat} {z:ZR} {O:List Tn} {V:List Rat} {x:Tn} {v:Rat} (nd:O.Nodup) (hx:O[V.length]?=some x) (hk:x.2<if x.1=true then t else s) (l1:z.1.length=s) (l2:z.2.1.length=t):qk_ z (mcQ s t O (V++[v])).1 (mcQ s t O (V++[v])).2=qk_ z (mcQ s t O V).1 (mcQ s t O V).2+cofT z x*v:=by
 have ml:=qfv_ s t O V
 have h0:=qll_ (s:=s) (t:=t) (V:=V) (b:=x.1) (k:=x.2) nd hx
 rw [qlu_ hx]
 generalize mcQ s t O V=mc at ml h0
 obtain ⟨M,C⟩:=mc
 obtain ⟨b,k⟩:=x
 cases b with
 |true=>
  have hk:k<t:=hk
  have h0:C.getD k 0=0:=h0
  exact qky_ (M:=M) (by rw [l2,ml.2]) (by rw [l2];exact hk) h0
 |false=>
  have hk:k<s:=hk
  have h0:M.getD k 0=0:=h0
  show qk_ z (M.set k v) C=qk_ z M C+aAt k z*v
  have a1:=qg3_ (z:=z) (k:=k) (q:=v) (M:=M) (C:=C) (by rw [l1,ml.1]) (by rw [l1];exact hk)
  have a2:=qg3_ (z:=z) (k:=k) (q:=0) (M:=M) (C:=C) (by rw [l1,ml.1]) (by rw [l1];exact hk)
  rw [qg0_ k M h0] at a2
  rw [a1,a2]
  grind
theorem qqw_ (s t:Nat) (z:ZR) (O:List Tn):qk_ z (mcQ s t O []).1 (mcQ s t O []).2=z.2.2:=by
 have z0:∀(n:Nat) (a:List Rat),dot a (List.replicate n 0)=0:=by
  intro n
  induction n with
  |zero=>intro a;cases a<;>rfl
  |succ n ih=>intro a;cases a with
   |nil=>rfl
   |cons x a=>rw [List.replicate_succ,dot,ih];grind
 unfold qk_ mcQ
 rw [List.zip_nil_right,List.foldl_nil,z0,z0]
 grind
def aS (b:Bool):Str:=if b=true then "shim" else "size"
def gAh:List D->(D->Prop)->Prop:=λds P=>∃(S T:List (Rat×Rat)) (Z:List ZR) (O:List Tn) (V:List Rat),ds=[q9_ S T Z,.lst (O.map tnQ),frL V]/\PlO S T Z/\O.Perm (qby_ S.length T.length)/\V.length<=O.length/\Vals69 1400 V/\∀b:Bool,(WinC S T Z O V↔b=true)->P (.str (aS b))
theorem RIx.cof {z:ZR} {b:Bool} {k s t:Nat} {P:D->Prop} (l1:z.1.length=s) (l2:z.2.1.length=t) (hk:k<if b=true then t else s) (p:P (frD (cofT z (b,k)))):RIx (zQ z) (.int (if peq (D.str (if b=true then "shim" else "size")) (D.str "shim")=true then 1 else 0)) λx=>RIx x (.int (k:Nat)) P:=by
 cases b with
 |true=>
  have e:peq (D.str "shim") (D.str "shim")=true:=by decide+kernel
  show RIx (zQ z) (.int (if peq (D.str "shim") (D.str "shim")=true then 1 else 0)) _
  rw [e]
  exact RIx.frl (by rw [l2];exact hk) p
 |false=>
  have e:peq (D.str "size") (D.str "shim")=false:=by decide+kernel
  show RIx (zQ z) (.int (if peq (D.str "size") (D.str "shim")=true then 1 else 0)) _
  rw [e]
  exact RIx.frl (by rw [l1];exact hk) p
abbrev qc3_:Stmt:=top 62
theorem sc_law_ahead:FnScope ["plan","order","so_far","rows","row","worth","kind","k","one"] ["plan","order","so_far"] (qe_ qc3_):=⟨rfl,rfl,rfl,by decide+kernel,rfl,by decide+kernel,by decide+kernel⟩
theorem h__law_ahead (B:Bl mg) (F:Def K mg "_law_ahead" qc3_ ["plan","order","so_far"]) (F__law_rows:Has P w K mg base CX0 5 "_law_rows" ["plan","order","place"] (spW K (pur gLR))) (F__law_plus:hLP P w K mg base) (F__law_times:hLT P w K mg base):Has P w K mg base CX0 6 "_law_ahead" ["plan","order","so_far"] (spW K (pur gAh)):=by
 refine F.hasP sc_law_ahead (λds P h=>by obtain ⟨_,_,_,_,_,rfl,_⟩:=h;rfl) λf cdv A outer s H E hr=>?_
 have nd:=sc_law_ahead.nd
 refine ⟨_,(qc_ (qp_ (i:=3) nd rfl (Or.inl rfl) (j_h F__law_rows (hr.mono (by decide)) rfl (qa_ (jv 0) (qa_ (jv 1) (qa_ (qcu_ 2 rfl B.len) qb_)))))
  (qc_ (qbm_ PassesOwn.never rfl (qr_ (jv 3)) (qg_ (i:=4) nd rfl (Or.inl rfl))
  (qc_ (qp_ (i:=5) nd rfl (Or.inl rfl) (qh_ 4 qd_))
  (qc_ (qbm_ PassesOwn.never rfl (qgp_ rfl B.zip (qa_ (jv 1) (qa_ (jv 2) qb_))) (qba_ (n:=2) rfl (qj_ (qba_ (n:=2) rfl (qj_ (qg_ (i:=6) nd rfl (Or.inl rfl)) (qj_ (qg_ (i:=7) nd rfl (Or.inl rfl)) qy_))) (qj_ (qg_ (i:=8) nd rfl (Or.inl rfl)) qy_)))
  (qf_ (qp_ (i:=5) nd rfl (Or.inl rfl) (j_h F__law_plus (hr.mono (by decide)) rfl (qa_ (jv 5) (qa_ (j_h F__law_times (hr.mono (by decide)) rfl (qa_ (j_at (qh_ 4 (qh0_ rfl B.int (qa_ (j_eq hr (jv 6) qdf_) qb_))) (jv 7)) (qa_ (jv 8) qb_))) qb_))))))
  (qf_ (qcd_ (qlp_ (qh_ 5 qd_) qd_) (qf_ (qn_ qdf_)) qx_)))))
  (qf_ (qn_ qdf_)))),?_⟩
 rintro ds M Q ⟨S,T,Z,O,V,rfl,pl,pO,lV,vl,q⟩
 have lS:=pl.s
 have lT:=pl.t
 have od:=qir_ pO (by omega)
 have ndO:O.Nodup:=pO.nodup_iff.mpr (qei_ _ _)
 have od2:=od.drop V.length
 have l5:=od2.l
 have rw':=qhh_ pl _ od2
 obtain ⟨d0,sD⟩:=qka_ (O.drop V.length).length
 have lb:=(qis_ (i:=(O.drop V.length).length) l5).1
 have l3:(V.map frD).length=V.length:=List.length_map _
 refine ⟨S,T,Z,O,(V.map frD).length,rfl,pl,od,by omega,?_⟩
 rw [l3]
 unfold WinC at q
 generalize qbn_ S T Z (O.drop V.length)=R at rw' q
 obtain ⟨E0,e0,sE,wV⟩:=vl
 refine ⟨λi ρ M'=>M'=M/\(∀z∈R.take i,0<=qk_ z (mcQ S.length T.length O V).1 (mcQ S.length T.length O V).2)/\∃o4 o5 o6 o7 o8:Ent,ρ=[.sh (q9_ S T Z),.sh (.lst (O.map tnQ)),.sh (frL V),.sh (.lst (R.map zQ)),o4,o5,o6,o7,o8],⟨rfl,by simp,_,_,_,_,_,rfl⟩,?_,?_⟩
 ·rintro i d ρ M' hd ⟨rfl,hno,o4,o5,o6,o7,o8,rfl⟩
  obtain ⟨z,hz,rfl⟩:=qq_ hd
  have zR:=List.mem_of_getElem? hz
  have rz:=rw' z zR
  have part:∀j,SmR (bitO (O.drop V.length).length+1400+22) (qk_ z (mcQ S.length T.length O (V.take j)).1 (mcQ S.length T.length O (V.take j)).2):=λj=>by
   have w:=qmi_ (s:=S.length) (t:=T.length) (O:=O) (p:=λq=>Wh E0 1400 q) (qic_ _ _) (V:=V.take j) λx hx=>wV x (List.mem_of_mem_take hx)
   exact (qkm_ d0 sD e0 sE rz w.1 w.2 (by omega) (by omega) (by omega)).s
  have s0:Ent.sh (frD z.2.2)= .sh (frD (qk_ z (mcQ S.length T.length O (V.take 0)).1 (mcQ S.length T.length O (V.take 0)).2)):=by rw [List.take_zero,qqw_]
  refine ⟨λj ρ M2=>M2=M'/\∃o6 o7 o8:Ent,ρ=[.sh (q9_ S T Z),.sh (.lst (O.map tnQ)),.sh (frL V),.sh (.lst (R.map zQ)),.sh (zQ z),.sh (frD (qk_ z (mcQ S.length T.length O (V.take j)).1 (mcQ S.length T.length O (V.take j)).2)),o6,o7,o8],⟨rfl,o6,o7,o8,?_⟩,?_,?_⟩
  ·rw [<-s0];rfl
  ·rintro j d ρ M2 hd ⟨rfl,o6,o7,o8,rfl⟩
   obtain ⟨⟨⟨b,k⟩,v⟩,hx,xO,rfl⟩:=qpj_ hd
   obtain ⟨hO,hV⟩:=List.getElem?_zip_eq_some.mp hx
   have hk:=od.k _ xO
   have hj:=(List.getElem?_eq_some_iff.mp hV).1
   have lt:(V.take j).length=j:=by rw [List.length_take];omega
   have sv:SmR 1400 v:=(wV v (List.mem_of_getElem? hV)).smr e0 sE
   have sc:SmR (bitO (O.drop V.length).length) (cofT z (b,k)):=by
    unfold cofT
    cases b with
    |true=>exact (rz.b _ (q6_ (by rw [rz.t];exact hk))).smr d0 sD
    |false=>exact (rz.a _ (q6_ (by rw [rz.s];exact hk))).smr d0 sD
   refine ⟨rfl,rfl,Nat.zero_le _,?_⟩
   refine RIx.cof rz.s rz.t hk ?_
   refine ⟨_,v,rfl,Mx.of sc sv (by omega),_,_,rfl,Mx.of (part j) (qcc_ sc sv) (by omega),rfl,.sh (.str (if b=true then "shim" else "size")),.sh (.int (k:Nat)),.sh (frD v),?_⟩
   have e:=qk4_ (s:=S.length) (t:=T.length) (z:=z) (V:=V.take j) (v:=v) ndO (by rw [lt];exact hO) hk rz.s rz.t
   have e2:V.take (j+1)=V.take j++[v]:=by rw [List.take_add_one,hV];rfl
   rw [e2,e];rfl
  ·rintro ρ M2 ⟨rfl,o6,o7,o8,rfl⟩
   have el:(zipD (O.map tnQ) (V.map frD)).length=V.length:=by rw [qcf_,List.length_map,List.length_map];omega
   rw [el,List.take_length]
   show if decide ((qk_ z (mcQ S.length T.length O V).1 (mcQ S.length T.length O V).2).num<0)=true then _ else _
   rw [qex_]
   refine iteB (λc=>?_) (λc=>?_)
   ·have c:qk_ z (mcQ S.length T.length O V).1 (mcQ S.length T.length O V).2<0:=by simpa using c
    exact ⟨_,Sub.refl _,q false ⟨λh=>by have:=h z zR;grind,λh=>by cases h⟩⟩
   ·have c:¬qk_ z (mcQ S.length T.length O V).1 (mcQ S.length T.length O V).2<0:=by simpa using c
    refine ⟨rfl,λy hy=>?_,_,_,_,_,_,rfl⟩
    rw [List.take_add_one,hz,Option.toList_some] at hy
    rcases List.mem_append.mp hy with hy|hy
    ·exact hno y hy
    ·rw [List.mem_singleton.mp hy];grind
 ·rintro ρ M' ⟨rfl,hno,o4,o5,o6,o7,o8,rfl⟩
  rw [List.length_map,List.take_length] at hno
  exact ⟨_,Sub.refl _,q true ⟨λ_=>rfl,λ_=>hno⟩⟩

/-! ### k70:what is told at any stand -/
def qvs_:Option Rat->D
 |none=> .str "none"
 |some q=>frD q
def qre_:List D->(D->Prop)->Prop:=λds P=>∃(S T:List (Rat×Rat)) (Z:List ZR) (O:List Tn) (V:List Rat),ds=[q9_ S T Z,.lst (O.map tnQ),frL V]/\PlO S T Z/\OrdO S T O/\Vals69 1300 V/\P (qvs_ (qd4_ S T Z O V))
abbrev qdw_:Stmt:=top 63
theorem sc_law_told:FnScope ["plan","order","so_far","found"] ["plan","order","so_far"] (qe_ qdw_):=⟨rfl,rfl,rfl,by decide+kernel,rfl,by decide+kernel,by decide+kernel⟩
theorem h__law_told (B:Bl mg) (XC_NoChoice:ExC K mg "NoChoice") (HX:PySem.W.exmOne K (.ref (cOf mg "NoChoice")) (.ref (cOf mg "NoChoice"))=some true) (F:Def K mg "_law_told" qdw_ ["plan","order","so_far"]) (F_next_worth:Has P w K mg base (CX1 P w) 9 "next_worth" ["plan","order","so_far"] (spE K (cOf mg "NoChoice") gNW)):Has P w K mg base CX0 10 "_law_told" ["plan","order","so_far"] (spW K (pur qre_)):=by
 refine F.hasP sc_law_told (λds P h=>by obtain ⟨_,_,_,_,_,rfl,_⟩:=h;rfl) λf cdv A outer s H E hr=>?_
 have nd:=sc_law_told.nd
 refine ⟨_,(qc_ (qp_ (i:=3) nd rfl (Or.inl rfl) qvf_)
  (qc_ (qnw_ (i:=3) F_next_worth (hr.mono (by decide)) rfl nd rfl (Or.inl rfl) rfl XC_NoChoice.m HX (λ_ _=>(qa_ (jv 0) (qa_ (jv 1) (qa_ (jv 2) qb_)))) (λ_=>(qf_ (qp_ (i:=3) nd rfl (Or.inl rfl) qdf_))))
  (qf_ (qn_ (jv 3))))),?_⟩
 rintro ds M0 Q ⟨S,T,Zz,O,V,rfl,pl,od,vl,q⟩
 refine ⟨S,T,Zz,O,V,rfl,pl,od,vl,?_⟩
 cases e:qd4_ S T Zz O V with
 |some x=>
  rw [e] at q
  exact ⟨_,Sub.refl _,q⟩
 |none=>
  rw [e] at q
  intro p hp
  exact ⟨M0,(Sub.refl M0).mset hp,q⟩
def gBw:List D->(D->Prop)->Prop:=λds P=>∃(x:Rat×Rat) (c:Int),ds=[bQ x,.int c]/\Bd6 x/\∀q,x.1<=q->q<=x.2->Wh 42 12 q->P (frD q)
abbrev qb4_:Stmt:=top 64
theorem sc_law_between:FnScope ["bounds","cell","low","high","step"] ["bounds","cell"] (qe_ qb4_):=⟨rfl,rfl,rfl,by decide+kernel,rfl,by decide+kernel,by decide+kernel⟩
theorem h__law_between (B:Bl mg) (F:Def K mg "_law_between" qb4_ ["bounds","cell"]) (F__law_times:hLT P w K mg base) (F__law_plus:hLP P w K mg base) (F__law_fraction:hLF P w K mg base):Has P w K mg base CX0 3 "_law_between" ["bounds","cell"] (spW K (pur gBw)):=by
 refine F.hasP sc_law_between (λds P h=>by obtain ⟨_,_,rfl,_⟩:=h;rfl) λf cdv A outer s H E hr=>?_
 have nd:=sc_law_between.nd
 refine ⟨_,(qc_ (qe1_ (jv 0) (qba_ (n:=2) rfl (qj_ (qg_ (i:=2) nd rfl (Or.inl rfl)) (qj_ (qg_ (i:=3) nd rfl (Or.inl rfl)) qy_))))
  (qc_ (qp_ (i:=4) nd rfl (Or.inl rfl) (j_h F__law_times (hr.mono (by decide)) rfl (qa_ (j_h F__law_plus (hr.mono (by decide)) rfl (qa_ (jv 3) (qa_ (q7_ (qa_ (qks_ qd_ (qh_ 2 qd_)) (qa_ (qh_ 2 qd_) qb_))) qb_))) (qa_ (j_h F__law_fraction (hr.mono (by decide)) rfl (qa_ (qdj_ (qcs_ (jv 1) qd_) qd_) (qa_ qd_ qb_))) qb_))))
  (qf_ (qn_ (j_h F__law_plus (hr.mono (by decide)) rfl (qa_ (jv 2) (qa_ (jv 4) qb_))))))),?_⟩
 rintro ds M Q ⟨x,c,rfl,bd,q⟩
 have m1:=qbl_ (c.fdiv 4) (n:=8) (by decide)
 obtain ⟨r1,r2,r3⟩:=qqn_ m1.1 m1.2
 have s1:=sm6 bd.a
 have s2:=sm6 bd.b
 have sd:SmR 7 (x.2+ -x.1):=((bd.b.add (qhu_ bd.a)).smr (by decide) (by unfold Sm;decide))
 have sr:SmR 3 (Rat.divInt ((c.fdiv 4).fmod 8) 7):=r1.smr (by decide) (by unfold Sm;decide)
 have h42:=qvy_ bd.a bd.b r1
 have hin:=qt1_ bd.le r2 r3
 refine ⟨rfl,by show 2<=sizeLine;decide,x.2, -x.1,?_,Mx.of s2 (qhd_ s1),?_⟩
 ·rw [<-qga_]
 refine ⟨cdS (by decide) (by unfold Sm;decide),(by decide:(8:Int)≠0),_,_,rfl,by decide,(show Sm 10 (7:Int) by unfold Sm;decide).mono (by decide),?_⟩
 refine ⟨_,_,rfl,Mx.of sd sr,?_⟩
 exact ⟨x.1,_,rfl,Mx.of s1 (qcc_ sd sr),_,Sub.refl _,q _ hin.1 hin.2 h42⟩
def gWi:List D->(D->Prop)->Prop:=λds P=>∃(q:Rat) (x:Rat×Rat) (m:Nat),ds=[frD q,bQ x]/\SmR m q/\m<=8000/\Bd6 x/\x.1<=q/\q<=x.2/\P (.bl true)
abbrev qco_:Stmt:=top 65
theorem sc_law_within:FnScope ["found","bounds","low","high"] ["found","bounds"] (qe_ qco_):=⟨rfl,rfl,rfl,by decide+kernel,rfl,by decide+kernel,by decide+kernel⟩
theorem h__law_within (B:Bl mg) (F:Def K mg "_law_within" qco_ ["found","bounds"]):Has P w K mg base CX0 1 "_law_within" ["found","bounds"] (spW K (pur gWi)):=by
 refine F.hasP sc_law_within (λds P h=>by obtain ⟨_,_,_,rfl,_⟩:=h;rfl) λf cdv A outer s H E hr=>?_
 have nd:=sc_law_within.nd
 refine ⟨_,(qc_ (qe1_ (jv 1) (qba_ (n:=2) rfl (qj_ (qg_ (i:=2) nd rfl (Or.inl rfl)) (qj_ (qg_ (i:=3) nd rfl (Or.inl rfl)) qy_))))
  (qc_ (qcd_ (qrs_ (qbq_ (qh_ 2 qd_) (qh_ 0 qd_)) (qbq_ (qh_ 0 qd_) (qh_ 2 qd_))) (qf_ (qn_ j_bl)) qx_)
  (qf_ (qn_ (j_le (qbq_ (qh_ 0 qd_) (qh_ 3 qd_)) (qbq_ (qh_ 3 qd_) (qh_ 0 qd_))))))),?_⟩
 rintro ds M Q ⟨q,x,m,rfl,sq,hm,bd,h1,h2,k⟩
 have m1:=Mx.of (sm6 bd.a) sq (by omega)
 have m2:=Mx.of sq (sm6 bd.b) (by omega)
 refine ⟨rfl,m1.c1,m1.c2,?_⟩
 show if decide (q.num*(x.1.den:Int)<x.1.num*(q.den:Int))=true then _ else _
 have e1:decide (q.num*(x.1.den:Int)<x.1.num*(q.den:Int))=false:=by
  have:=(Rat.le_iff x.1 q).mp h1
  rw [decide_eq_false];omega
 rw [e1]
 refine iteN rfl ⟨m2.c1,m2.c2,_,Sub.refl _,?_⟩
 have e2:decide (q.num*(x.2.den:Int)<=x.2.num*(q.den:Int))=true:=decide_eq_true ((Rat.le_iff q x.2).mp h2)
 dsimp only
 rw [e2]
 exact k
theorem qqz_ (a b:Bool):peq (D.str (aS a)) (D.str (aS b))=decide (a=b):=by cases a<;>cases b<;>decide+kernel
structure StI (S T:List (Rat×Rat)) (O:List Tn) (V:List Rat) (i:Nat):Prop where
 l:V.length=i
 v:Vals69 (6+225*i) V
 b:∀(j:Nat) (t:Tn) (q:Rat),O[j]?=some t->V[j]?=some q->(bd S T t).1<=q/\q<=(bd S T t).2
theorem StI.snoc {S T:List (Rat×Rat)} {O:List Tn} {V:List Rat} {i:Nat} {t:Tn} {q:Rat} (h:StI S T O V i) (ht:O[i]?=some t) (h1:(bd S T t).1<=q) (h2:q<=(bd S T t).2) (hv:Vals69 (6+225*i+225) (V++[q])):StI S T O (V++[q]) (i+1):=by
 refine ⟨by rw [List.length_append,h.l];rfl,hv.mono (by omega),λj t' q' hj hq=>?_⟩
 rw [List.getElem?_append] at hq
 split at hq
 ·exact h.b j t' q' hj hq
 ·rename_i c
  have hj2:j - V.length<1:=(List.getElem?_eq_some_iff.mp hq).1
  have:j=i:=by have:=h.l;omega
  subst this
  rw [h.l,Nat.sub_self] at hq
  rw [ht] at hj
  cases hj
  cases (show q=q' from Option.some.inj hq)
  exact ⟨h1,h2⟩
def gSG:List D->(D->Prop)->Prop:=λds P=>∃(S T:List (Rat×Rat)) (Z:List ZR) (O:List Tn) (V:List Rat) (c:Int),ds=[q9_ S T Z,.lst (O.map tnQ),frL V,.int c]/\PlO S T Z/\O.Perm (qby_ S.length T.length)/\V.length<O.length/\Vals69 1175 V/\P (.bl true)
theorem RIx.bd {S T:List (Rat×Rat)} {Z:List ZR} {b:Bool} {k:Nat} {P:D->Prop} (hk:k<if b=true then T.length else S.length) (p:P (bQ (bd S T (b,k)))):RIx (q9_ S T Z) (.int (if peq (D.str (aS b)) (D.str "shim")=true then 1 else 0)) λx=>RIx x (.int (k:Nat)) P:=by
 cases b with
 |true=>
  have e:peq (D.str (aS true)) (D.str "shim")=true:=by decide+kernel
  rw [e]
  exact RIx.get (qkr_ hk) p
 |false=>
  have e:peq (D.str (aS false)) (D.str "shim")=false:=by decide+kernel
  rw [e]
  exact RIx.get (qkr_ hk) p
theorem qk0_ (V:List Rat) (x:Rat):frL (V++[x])= .lst (V.map frD++[frD x]):=by rw [frL,List.map_append];rfl
abbrev qbi_:Stmt:=top 66
theorem sc_law_stand_good:FnScope ["plan","order","so_far","cell","kind","k","bounds","ahead","found","worth"] ["plan","order","so_far","cell"] (qe_ qbi_):=⟨rfl,rfl,rfl,by decide+kernel,rfl,by decide+kernel,by decide+kernel⟩
theorem h__law_stand_good (B:Bl mg) (F:Def K mg "_law_stand_good" qbi_ ["plan","order","so_far","cell"]) (F__law_ahead:Has P w K mg base CX0 6 "_law_ahead" ["plan","order","so_far"] (spW K (pur gAh))) (F__law_told:Has P w K mg base CX0 10 "_law_told" ["plan","order","so_far"] (spW K (pur qre_))) (F__law_copy:Has P w K mg base CX0 1 "_law_copy" ["plan"] (spW K (pur ql8_))) (F__law_within:Has P w K mg base CX0 1 "_law_within" ["found","bounds"] (spW K (pur gWi))) (F__law_between:Has P w K mg base CX0 3 "_law_between" ["bounds","cell"] (spW K (pur gBw))):Has P w K mg base CX0 11 "_law_stand_good" ["plan","order","so_far","cell"] (spW K (pur gSG)):=by
 refine F.hasP sc_law_stand_good (λds P h=>by obtain ⟨_,_,_,_,_,_,rfl,_⟩:=h;rfl) λf cdv A outer s H E hr=>?_
 have nd:=sc_law_stand_good.nd
 refine ⟨_,(qc_ (qe1_ (qh_ 1 (qcu_ 2 rfl B.len)) (qba_ (n:=2) rfl (qj_ (qg_ (i:=4) nd rfl (Or.inl rfl)) (qj_ (qg_ (i:=5) nd rfl (Or.inl rfl)) qy_))))
  (qc_ (qp_ (i:=6) nd rfl (Or.inl rfl) (j_at (qh_ 0 (qh0_ rfl B.int (qa_ (j_eq hr (jv 4) qdf_) qb_))) (jv 5)))
  (qc_ (qp_ (i:=7) nd rfl (Or.inl rfl) (j_h F__law_ahead (hr.mono (by decide)) rfl (qa_ (jv 0) (qa_ (jv 1) (qa_ (jv 2) qb_)))))
  (qc_ (qp_ (i:=8) nd rfl (Or.inl rfl) (j_h F__law_told (hr.mono (by decide)) rfl (qa_ (j_h F__law_copy (hr.mono (by decide)) rfl (qa_ (jv 0) qb_)) (qa_ (j_fz (qbd_ rfl B.list (qa_ (jv 1) qb_))) (qa_ (j_fz (qbd_ rfl B.list (qa_ (jv 2) qb_))) qb_)))))
  (qc_ (qcd_ (qgc_ hr (jv 7) (jv 4)) (qc_ (qcd_ (JW.jt (qqr_ (qfs_ (jt (qvk_ (T:="tuple") qt4_ quh_ rfl B.isinstance rfl B.tuple boot_tuple (jv 8)))) (qmx_ (qfs_ (jt (j_h F__law_within (hr.mono (by decide)) rfl (qa_ (jv 8) (qa_ (jv 6) qb_)))))))) (qf_ (qn_ j_bl)) qx_)
  (qf_ (qn_ (j_eq hr (j_h F__law_ahead (hr.mono (by decide)) rfl (qa_ (jv 0) (qa_ (jv 1) (qa_ (j_fz (qdk_ (jv 2) (j_fz (qbf_ (qa_ (jv 8) qb_))))) qb_)))) (jv 4))))) qx_)
  (qc_ (qcd_ (ql5_ hr (jv 8) qdf_) (qf_ (qn_ j_bl)) qx_)
  (qc_ (qbm_ PassesOwn.never rfl (qr_ (j_fz (qbf_ (qa_ (qh_ 6 qd_) (qa_ (qh_ 6 qd_) (qa_ (j_h F__law_between (hr.mono (by decide)) rfl (qa_ (jv 6) (qa_ (jv 3) qb_))) qb_)))))) (qg_ (i:=9) nd rfl (Or.inl rfl))
  (qf_ (qcd_ (qgc_ hr (j_h F__law_ahead (hr.mono (by decide)) rfl (qa_ (jv 0) (qa_ (jv 1) (qa_ (j_fz (qdk_ (jv 2) (j_fz (qbf_ (qa_ (jv 9) qb_))))) qb_)))) (jv 4)) (qf_ (qn_ j_bl)) qx_)))
  (qf_ (qn_ j_bl))))))))),?_⟩
 rintro ds M Q ⟨S,T,Z,O,V,c,rfl,pl,pO,lV,vl,q⟩
 have lS:=pl.s
 have lT:=pl.t
 have lZ:=pl.z
 have od:=qir_ pO (by omega)
 have l5:=od.l
 obtain ⟨⟨b,k⟩,ht⟩:∃t,O[V.length]?=some t:=⟨_,List.getElem?_eq_getElem lV⟩
 have hk:=od.k _ (List.mem_of_getElem? ht)
 have b6:=bd6 pl hk
 have g:=qhp_ (V:=V) pl pO ht
 have hm:(O.map tnQ)[(V.map frD).length]?=some (D.tup [.str (aS b),.int (k:Nat)]):=by rw [List.length_map,List.getElem?_map,ht];rfl
 refine RIx.get hm ⟨rfl,Nat.zero_le _,?_⟩
 refine RIx.bd hk ?_
 refine ⟨S,T,Z,O,V,rfl,pl,pO,by omega,vl.mono (by decide),λwin hw=>?_⟩
 refine ⟨S,T,Z,rfl,by omega,S,T,Z,O,V,rfl,pl,od,vl.mono (by decide),Nat.zero_le _,?_⟩
 show if peq (D.str (aS win)) (D.str (aS b))=true then _ else _
 rw [qqz_]
 have iw:((b=true)↔WinC S T Z O V)↔win=b:=by rw [hw];cases b<;>cases win<;>simp
 have lv2:∀x:Rat,(V++[x]).length<=O.length:=λx=>by rw [List.length_append];show V.length+1<=_;omega
 refine iteB (λe=>?_) (λe=>?_)
 ·have e:win=b:=of_decide_eq_true e
  obtain ⟨x,h1,h2,h3,h4⟩:=g.1 (iw.mpr e)
  rw [h1]
  have vn:=qo1_ pl od vl (by decide) h1
  have sx:=vn.smr (List.mem_append_right _ (.head _))
  have same:∀w2:Bool,(WinC S T Z O (V++[x])↔w2=true)->w2=b:=λw2 h=>by
   have:(w2=true)↔(win=true):=h.symm.trans (h4.trans hw)
   rw [<-e]
   cases w2<;>cases win<;>simp_all
  refine ⟨x,_,_,rfl,sx,by decide,b6,h2,h3,?_⟩
  refine ⟨by show 1<=sizeLine;decide,by rw [List.length_map];exact Nat.le_of_lt (qi_ (show V.length+1<=1000 by omega)),S,T,Z,O,V++[x],by rw [qk0_];rfl,pl,pO,lv2 x,vn,λw2 hw2=>⟨Nat.zero_le _,_,Sub.refl _,?_⟩⟩
  show Q (.bl (peq (D.str (aS w2)) (D.str (aS b)))) _
  rw [qqz_,decide_eq_true (same w2 hw2)]
  exact q
 ·have e:¬win=b:=of_decide_eq_false e
  obtain ⟨h1,h4⟩:=g.2 (λz=>e (iw.mp z))
  rw [h1]
  refine ⟨Nat.zero_le _,?_⟩
  show if (!peq (D.str "none") (D.str "none"))=true then _ else _
  rw [qcw_]
  refine iteN rfl ?_
  refine ⟨_,_,rfl,b6,λy y1 y2 wy=>?_⟩
  have all3:∀d∈[frD (bd S T (b,k)).1,frD (bd S T (b,k)).2,frD y],∃x,d=frD x/\(bd S T (b,k)).1<=x/\x<=(bd S T (b,k)).2/\Wh 42 12 x:=λd hd=>by
   simp only [List.mem_cons,List.not_mem_nil,or_false] at hd
   rcases hd with rfl|rfl|rfl
   ·exact ⟨_,rfl,Rat.le_refl,b6.le,wh42 b6.a⟩
   ·exact ⟨_,rfl,b6.le,Rat.le_refl,wh42 b6.b⟩
   ·exact ⟨_,rfl,y1,y2,wy⟩
  refine ⟨by show 3<=sizeLine;decide,λi ρ M'=>M'=M/\∃o9:Ent,ρ=[.sh (q9_ S T Z),.sh (.lst (O.map tnQ)),.sh (frL V),.sh (.int c),.sh (.str (aS b)),.sh (.int (k:Nat)),.sh (bQ (bd S T (b,k))),.sh (.str (aS win)),.sh (.str "none"),o9],⟨rfl,_,rfl⟩,?_,?_⟩
  ·rintro i d ρ M' hd ⟨rfl,o9,rfl⟩
   obtain ⟨x,rfl,x1,x2,wx⟩:=all3 d (List.mem_of_getElem? hd)
   refine ⟨by show 1<=sizeLine;decide,by rw [List.length_map];exact Nat.le_of_lt (qi_ (show V.length+1<=1000 by omega)),S,T,Z,O,V++[x],by rw [qk0_],pl,pO,lv2 x,vl.btw wx,λw2 hw2=>⟨Nat.zero_le _,?_⟩⟩
   show if peq (D.str (aS w2)) (D.str (aS b))=true then _ else _
   have:w2≠b:=λz=>e (by
    have:(w2=true)↔(win=true):=hw2.symm.trans ((h4 x x1 x2).trans hw)
    rw [<-z]
    cases w2<;>cases win<;>simp_all)
   rw [qqz_,decide_eq_false this]
   exact ⟨rfl,_,rfl⟩
  ·rintro ρ M' ⟨rfl,o9,rfl⟩
   exact ⟨_,Sub.refl _,q⟩

def qnh_ (K:PySem.W.Frag):Sp:=λvs H Q _=>∃(a:Addr) (ns:List Int),vs=[.ref a]/\SqL K H a (ns.map V.int)/\ns.length<=63/\∀H',Q (.bl true) H'

/-! ### k70 -/
abbrev qe5_:Stmt:=top 67
theorem sc_law:FnScope ["script","plan","order","so_far","place","kind","k","cell","bounds","told","ends","made","choice"] ["script"] (qe_ qe5_):=⟨rfl,rfl,rfl,by decide+kernel,rfl,by decide+kernel,by decide+kernel⟩
theorem fn_law {e:Addr} {ed:FuncData} (B:Bl2 mg) (F:Fun K "law" "law" qe5_ e ed) (F__law_plan:Has P w K mg base CX0 4 "_law_plan" ["script"] (spD K (Scr K) qo4_)) (F__law_order:Has P w K mg base CX0 1 "_law_order" ["plan","cell"] (spW K (pur gOrd))) (F__law_cell_at:Has P w K mg base CX0 1 "_law_cell_at" ["script","k"] (spD K (Scr K) qq9_)) (F__law_stand_good:Has P w K mg base CX0 11 "_law_stand_good" ["plan","order","so_far","cell"] (spW K (pur gSG))) (F__law_copy:Has P w K mg base CX0 1 "_law_copy" ["plan"] (spW K (pur ql8_))) (F__law_told:Has P w K mg base CX0 10 "_law_told" ["plan","order","so_far"] (spW K (pur qre_))) (F__law_between:Has P w K mg base CX0 3 "_law_between" ["bounds","cell"] (spW K (pur gBw))) (F__law_ahead:Has P w K mg base CX0 6 "_law_ahead" ["plan","order","so_far"] (spW K (pur gAh))) (F_fits:Has P w K mg base CX0 7 "fits" ["plan","made","choice"] (spW K (pur gFt))):FnOk P w K mg base CX0 12 e ed ["script"] (qnh_ K):=by
 refine F.ok sc_law (λvs H Q E h=>by obtain ⟨a,ns,rfl,_⟩:=h;rfl) (λcdv A outer s H vs Q E hr h=>?_)
 obtain ⟨a,ns,rfl,hS,h63,q⟩:=h
 have nd:=sc_law.nd
 refine ⟨_,JSs.h (qc_ (qp_ (i:=1) nd rfl (Or.inl rfl) (j_hD 0 F__law_plan (hr.mono (by decide)) rfl qb_))
  (qc_ (qp_ (i:=2) nd rfl (Or.inl rfl) (j_h F__law_order (hr.mono (by decide)) rfl (qa_ (jv 1) (qa_ (j_hD 0 F__law_cell_at (hr.mono (by decide)) rfl (qa_ qd_ qb_)) qb_))))
  (qc_ (qfg_ (i:=3) nd rfl (Or.inl rfl) (qe2_ (qih_ (qbf_ qb_))))
  (qc_ (qbm_ PassesOwn.never rfl (qph_ rfl B.enumerate (qa_ (jv 2) qb_)) (qba_ (n:=2) rfl (qj_ (qg_ (i:=4) nd rfl (Or.inl rfl)) (qj_ (qba_ (n:=2) rfl (qj_ (qg_ (i:=5) nd rfl (Or.inl rfl)) (qj_ (qg_ (i:=6) nd rfl (Or.inl rfl)) qy_))) qy_)))
  (qc_ (qp_ (i:=7) nd rfl (Or.inl rfl) (j_hD 0 F__law_cell_at (hr.mono (by decide)) rfl (qa_ (qcp_ qd_ (jv 4)) qb_)))
  (qc_ (qcd_ (qs8_ 3 (qfs_ (jt (j_h F__law_stand_good (hr.mono (by decide)) rfl (qa_ (jv 1) (qa_ (jv 2) (qa_ (jv 3) (qa_ (jv 7) qb_)))))))) (qf_ (qn_ j_bl)) qx_)
  (qc_ (qp_ (i:=8) nd rfl (Or.inl rfl) (j_at (qh_ 1 (qh0_ rfl B.int (qa_ (j_eq hr (jv 5) qdf_) qb_))) (jv 6)))
  (qc_ (qp_ (i:=9) nd rfl (Or.inl rfl) (j_h F__law_told (hr.mono (by decide)) rfl (qa_ (j_h F__law_copy (hr.mono (by decide)) rfl (qa_ (jv 1) qb_)) (qa_ (j_fz (qbd_ rfl B.list (qa_ (jv 2) qb_))) (qa_ (j_fz (qva_ 3 (qbd_ rfl B.list (qa_ (jv 3) qb_)))) qb_)))))
  (qc_ (qs3_ (qcd_ (qgc_ hr (jv 9) qdf_) (qf_ (qp_ (i:=9) nd rfl (Or.inl rfl) (qh_ 8 qd_))) qx_))
  (qf_ (qg1_ (ju_v 3) (ju_d (j_at (j_fz (qbf_ (qa_ (qh_ 8 qd_) (qa_ (qh_ 8 qd_) (qa_ (j_h F__law_between (hr.mono (by decide)) rfl (qa_ (jv 8) (qa_ (jv 7) qb_))) (qa_ (jv 9) qb_)))))) (qdj_ (jv 7) qd_)))))))))))
  (qc_ (quw_ 3 (qcd_ (ql5_ hr (j_h F__law_told (hr.mono (by decide)) rfl (qa_ (j_h F__law_copy (hr.mono (by decide)) rfl (qa_ (jv 1) qb_)) (qa_ (j_fz (qbd_ rfl B.list (qa_ (jv 2) qb_))) (qa_ (j_fz (qbd_ rfl B.list (qa_ (jv 3) qb_))) qb_)))) qdf_) (qf_ (qn_ j_bl)) qx_))
  (qc_ (qqi_ (i:=10) rfl B.dict rfl B.zip rfl hr nd rfl (Or.inr rfl) (qa_ (jv 2) (qa_ (jv 3) qb_)))
  (qc_ (qc8_ (k:=11) nd rfl (Or.inl rfl) ["k","ends"] [none,some 10] ⟨rfl,by decide+kernel,by decide+kernel,rfl,rfl,q3_ rfl⟩ rfl (qcr_ rfl B.range (qa_ (qkk_ rfl B.len (qa_ (qh_ 1 qd_) qb_)) qb_)) (λ_ _ _ _ _=>(qg_ (i:=0) (show List.Nodup [("k":Str),("ends":Str)] by decide+kernel) rfl (Or.inl rfl))) (λ_ _ _ _ _=>q4_) (λ_ _ _ _ _=>(qs1_ K P w 1 hr (q7_ (qa_ qdf_ (qa_ (jv 0) qb_))))))
  (qc_ (qc8_ (k:=12) nd rfl (Or.inl rfl) ["k","ends"] [none,some 10] ⟨rfl,by decide+kernel,by decide+kernel,rfl,rfl,q3_ rfl⟩ rfl (qcr_ rfl B.range (qa_ (qkk_ rfl B.len (qa_ (qh_ 1 qd_) qb_)) qb_)) (λ_ _ _ _ _=>(qg_ (i:=0) (show List.Nodup [("k":Str),("ends":Str)] by decide+kernel) rfl (Or.inl rfl))) (λ_ _ _ _ _=>q4_) (λ_ _ _ _ _=>(qs1_ K P w 1 hr (q7_ (qa_ qdf_ (qa_ (jv 0) qb_))))))
  (qf_ (qn_ (j_eq hr (j_h F_fits (hr.mono (by decide)) rfl (qa_ (j_h F__law_copy (hr.mono (by decide)) rfl (qa_ (jv 1) qb_)) (qa_ (jv 11) (qa_ (jv 12) qb_)))) (j_eq hr (j_h F__law_ahead (hr.mono (by decide)) rfl (qa_ (jv 1) (qa_ (jv 2) (qa_ (jv 3) qb_)))) qdf_)))))))))))),?_⟩
 obtain ⟨M0,ag,hM⟩:=Scr.start (K:=K) (N:=["script","plan","order","so_far","place","kind","k","cell","bounds","told","ends","made","choice"]) h63 hS
 refine ⟨λ_=>none,λ_=>none,qd5_ ["script","plan","order","so_far","place","kind","k","cell","bounds","told","ends","made","choice"] a [],M0,⟨λ_ _=>False,rtD λx _=>x= .bl true,λ_ _=>False,λ_ _=>False⟩,ag,?_,⟨λ_ _ _ _ _ _ _ z=>z.elim,λ_ _ _ _ _ _ _ z=>z.elim,λ_ _ _ _ _ _ _ z=>z.elim,λv H' F' u M' _ _ r e=>by
  obtain ⟨d,r,e⟩:=qju_ (M:=M') (q:=λx _=>x= .bl true) e r
  subst e;rw [Rp] at r;subst r;exact q H'⟩⟩
 clear ag
 refine ⟨⟨ns,hM⟩,rfl,λS T Z pl=>?_⟩
 have lS:=pl.s
 have lT:=pl.t
 have lZ:=pl.z
 refine ⟨⟨ns,hM⟩,10,rfl,by decide,λc0=>⟨S,T,Z,c0,rfl,by omega,by omega,λO pO=>?_⟩⟩
 have od:=qir_ pO (by omega)
 have l5:=od.l
 have ndO:O.Nodup:=pO.nodup_iff.mpr (qei_ _ _)
 refine ⟨by show 0<=sizeLine;decide,λp hp=>⟨λi ρ M'=>∃(V:List Rat) (o4 o5 o6 o7 o8 o9 o10 o11 o12:Ent),M'=mset M0 p (ownL V)/\ρ=[.rf a,.sh (q9_ S T Z),.sh (.lst (O.map tnQ)),.ut (.adr p),o4,o5,o6,o7,o8,o9,o10,o11,o12]/\StI S T O V i,⟨[],_,_,_,_,_,_,_,_,_,rfl,rfl,⟨rfl,⟨1,by decide,by unfold Sm;decide,by simp⟩,λj t v _ h=>by simp at h⟩⟩,?_,?_⟩⟩
 ·rintro i d ρ M' hd ⟨V,o4,o5,o6,o7,o8,o9,o10,o11,o12,rfl,rfl,iv⟩
  obtain ⟨x,hx,rfl⟩:=qfa_ hd
  obtain ⟨⟨b,k⟩,ht,rfl⟩:=qq_ hx
  have hi:=(List.getElem?_eq_some_iff.mp ht).1
  have hk:=turnsT_mem.mp (pO.mem_iff.mp (List.mem_of_getElem? ht))
  have g:=qhp_ (V:=V) pl pO (by rw [iv.l];exact ht)
  have b6:=bd6 pl hk
  have hl:=iv.l
  have hM2:ScrN K (mset M0 p (ownL V)) a ns:=hM.keep (.inl hp)
  rw [show tnQ (b,k)=D.tup [.str (aS b),.int (k:Nat)] from rfl]
  refine ⟨rfl,rfl,⟨ns,hM2⟩,_,rfl,by omega,λc=>?_⟩
  refine ⟨frL V,[p],qfe_ qm_,S,T,Z,O,V,c,rfl,pl,pO,by omega,iv.v.mono (by omega),?_⟩
  refine ⟨Nat.zero_le _,?_⟩
  dsimp only [wNil,RInt]
  refine RIx.bd hk ?_
  refine ⟨S,T,Z,rfl,by omega,frL V,[p],qfe_ qm_,qdv_ λ_=>rfl,S,T,Z,O,V,rfl,pl,od,iv.v.mono (by omega),?_⟩
  refine ⟨λρ M'=>M'=mset M0 p (ownL V)/\∃tv:Rat,(bd S T (b,k)).1<=tv/\tv<=(bd S T (b,k)).2/\Vals69 (6+225*i+225) (V++[tv])/\ρ=[.rf a,.sh (q9_ S T Z),.sh (.lst (O.map tnQ)),.ut (.adr p),.sh (.int ((0+i:Nat):Int)),.sh (.str (aS b)),.sh (.int (k:Nat)),.sh (.int c),.sh (bQ (bd S T (b,k))),.sh (frD tv),o10,o11,o12],?_,?_⟩
  ·cases en:qd4_ S T Z O V with
   |none=>
    refine ⟨Nat.zero_le _,?_⟩
    show if peq (D.str "none") (D.str "none")=true then _ else _
    rw [qcw_]
    refine iteY rfl ⟨rfl,(bd S T (b,k)).1,Rat.le_refl,b6.le,iv.v.btw (wh42 b6.a),rfl⟩
   |some x=>
    have wl:((b,k):Tn).1=true↔WinC S T Z O V:=by
     rcases Classical.em (((b,k):Tn).1=true↔WinC S T Z O V) with h|h
     ·exact h
     ·have:=(g.2 h).1
      rw [en] at this
      cases this
    obtain ⟨y,h1,h2,h3,_⟩:=g.1 wl
    rw [en] at h1
    cases h1
    refine ⟨Nat.le_trans (qcm_ x) (by decide),?_⟩
    show if peq (frD x) (D.str "none")=true then _ else _
    refine iteN rfl ⟨rfl,x,h2,h3,qo1_ pl od iv.v (by omega) en,rfl⟩
  rintro ρ M' ⟨rfl,tv,t1,t2,vt,rfl⟩
  have m4:=qbl_ c (n:=4) (by decide)
  refine ⟨⟨_,qm_⟩,_,_,rfl,b6,λy y1 y2 wy=>⟨by show 4<=sizeLine;decide,(by decide:(4:Int)≠0),RIx.lst m4.1 m4.2 λd hd=>?_⟩⟩
  have all4:∃x,d=frD x/\(bd S T (b,k)).1<=x/\x<=(bd S T (b,k)).2/\Vals69 (6+225*i+225) (V++[x]):=by
   simp only [List.mem_cons,List.not_mem_nil,or_false] at hd
   rcases hd with rfl|rfl|rfl|rfl
   ·exact ⟨_,rfl,Rat.le_refl,b6.le,iv.v.btw (wh42 b6.a)⟩
   ·exact ⟨_,rfl,b6.le,Rat.le_refl,iv.v.btw (wh42 b6.b)⟩
   ·exact ⟨_,rfl,y1,y2,iv.v.btw wy⟩
   ·exact ⟨_,rfl,t1,t2,vt⟩
  obtain ⟨x,rfl,x1,x2,vx⟩:=all4
  refine ⟨_,qm_,by rw [List.length_map,List.length_map];exact qi_ (by omega),?_⟩
  refine ⟨V++[x],_,_,_,_,_,_,_,_,_,?_,rfl,iv.snoc ht x1 x2 vx⟩
  rw [qcb_,ownL,List.map_append,List.map_append];rfl
 ·rintro ρ M' ⟨V,o4,o5,o6,o7,o8,o9,o10,o11,o12,rfl,rfl,iv⟩
  have el:(enuD 0 (O.map tnQ)).length=O.length:=by rw [qem_,List.length_map]
  rw [el] at iv
  have vl:Vals69 1300 V:=iv.v.mono (by omega)
  have nn:qd4_ S T Z O V=none:=by unfold qd4_;rw [iv.l,List.getElem?_eq_none (Nat.le_refl _)]
  refine ⟨frL V,[p],qfe_ qm_,?_⟩
  rw [qf7_ hp]
  have ml:=qfv_ S.length T.length O V
  obtain ⟨E0,dh⟩:=qvc_ (O:=O) pl vl (by decide)
  obtain ⟨in1,in2⟩:=qvh_ pO iv.l iv.b
  have hh:WinC S T Z O V↔qec_ Z (mcQ S.length T.length O V).1 (mcQ S.length T.length O V).2=true:=by
   unfold WinC
   rw [iv.l,List.drop_length]
   exact holds_iff.symm
  have at1:∀i,i<S.length->∃v,(mcQ S.length T.length O V).1[i]?=some v/\getW (qes_ O V) (keyT (false,i))=some (frD v):=λi hi=>by
   obtain ⟨j,v,h1,h2⟩:=qha_ (t:=(false,i)) pO iv.l hi
   exact ⟨v,qod_ (s:=S.length) (t:=T.length) ndO h1 h2 hi,qi9_ ndO h1 h2⟩
  have at2:∀i,i<T.length->∃v,(mcQ S.length T.length O V).2[i]?=some v/\getW (qes_ O V) (keyT (true,i))=some (frD v):=λi hi=>by
   obtain ⟨j,v,h1,h2⟩:=qha_ (t:=(true,i)) pO iv.l hi
   exact ⟨v,qod_ (s:=S.length) (t:=T.length) ndO h1 h2 hi,qi9_ ndO h1 h2⟩
  generalize mcQ S.length T.length O V=mc at ml dh in1 in2 hh at1 at2
  refine ⟨S,T,Z,rfl,by omega,S,T,Z,O,V,rfl,pl,od,vl,by rw [nn];exact Nat.zero_le _,?_⟩
  rw [nn]
  show if (!peq (D.str "none") (D.str "none"))=true then _ else _
  rw [qcw_]
  refine iteN rfl ?_
  have ek:=qmz_ (O:=O) (V:=V) iv.l
  refine ⟨qes_ O V,by rw [ek.1,ek.2],?_,qmn_ ndO,λp2 hp2=>?_⟩
  ·unfold qes_
   rw [List.length_map,List.length_zip];omega
  have l1:(S.map bQ).length=S.length:=List.length_map _
  have l2:(T.map bQ).length=T.length:=List.length_map _
  refine ⟨⟨by omega,by omega⟩,λi out ρ M2=>M2=mset M0 p2 (dW K P w p2 (qes_ O V))/\out=(mc.1.take i).map frD/\∃o,ρ=[o,.rf p2],⟨rfl,rfl,_,rfl⟩,?_,?_⟩
  ·rintro i d out ρ M2 hd ⟨rfl,rfl,o,rfl⟩
   obtain ⟨rfl,hi⟩:=qb2_ hd
   obtain ⟨v,h1,h2⟩:=at1 i (by rw [List.length_map] at hi;omega)
   exact ⟨by show 2<=sizeLine;decide,_,keyT (false,i),_,qm_,rfl,h2,by rw [List.length_map,List.length_take];exact qi_ (by omega),rfl,q1_ (f:=frD) h1,_,rfl⟩
  rintro out ρ M2 ⟨rfl,rfl,o,rfl⟩
  rw [qc1_,Int.toNat_natCast,l1,<-ml.1,List.take_length]
  refine ⟨⟨by omega,by omega⟩,λi out ρ M3=>M3=mset M0 p2 (dW K P w p2 (qes_ O V))/\out=(mc.2.take i).map frD/\∃o,ρ=[o,.rf p2],⟨rfl,rfl,_,rfl⟩,?_,?_⟩
  ·rintro i d out ρ M3 hd ⟨rfl,rfl,o,rfl⟩
   obtain ⟨rfl,hi⟩:=qb2_ hd
   obtain ⟨v,h1,h2⟩:=at2 i (by rw [List.length_map] at hi;omega)
   exact ⟨by show 2<=sizeLine;decide,_,keyT (true,i),_,qm_,rfl,h2,by rw [List.length_map,List.length_take];exact qi_ (by omega),rfl,q1_ (f:=frD) h1,_,rfl⟩
  rintro out ρ M3 ⟨rfl,rfl,o,rfl⟩
  rw [qc1_,Int.toNat_natCast,l2,<-ml.2,List.take_length]
  refine ⟨S,T,Z,rfl,by omega,S,T,Z,mc.1,mc.2,E0,1300,rfl,dh,in1,in2,λx hx=>⟨(pl.bs x hx).1,(pl.bs x hx).2.1⟩,λx hx=>⟨(pl.bt x hx).1,(pl.bt x hx).2.1⟩,?_⟩
  refine ⟨S,T,Z,O,V,rfl,pl,pO,by rw [iv.l];exact Nat.le_refl _,vl.mono (by decide),λb hb=>?_⟩
  have eb:qec_ Z mc.1 mc.2=b:=by
   have:=hh.symm.trans hb
   cases b<;>cases h:qec_ Z mc.1 mc.2<;>simp_all
  refine ⟨Nat.zero_le _,Nat.zero_le _,?_⟩
  have e1:peq (D.str (aS b)) (D.str "shim")=b:=by cases b<;>decide+kernel
  show L3.D.bl (peq (.bl (qec_ Z mc.1 mc.2)) (.bl (peq (D.str (aS b)) (D.str "shim"))))= .bl true
  rw [e1,eb,qcw_]




end
structure At (K:PySem.W.Frag) (x:Str) (st:Stmt):Prop where
 ex:∃(f:Addr) (od an:Option Addr) (sl:Array (Option Value)) (oc kV dc pm cd ct:Value),PySem.W.nsIn K mainGlobals x=some (some (.ref f))/\K.lookup f=some ⟨oc,od,.func (PySem.W.fnOf x x (qdc_ st) (q8_ st) (qe_ st) .none kV dc pm an cd ct),sl⟩/\PySem.W.codeIn K cd x=true/\PySem.W.keepIn K (.ref f)=true
theorem At.of {K:PySem.W.Frag} {x:Str} {st:Stmt} {f:Addr} {od an:Option Addr} {sl:Array (Option Value)} {oc kV dc pm cd ct:Value} (a:PySem.W.nsIn K mainGlobals x=some (some (.ref f))) (l:K.lookup f=some ⟨oc,od,.func (PySem.W.fnOf x x (qdc_ st) (q8_ st) (qe_ st) .none kV dc pm an cd ct),sl⟩) (c:PySem.W.codeIn K cd x=true) (k:PySem.W.keepIn K (.ref f)=true):At K x st:=⟨f,od,an,sl,oc,kV,dc,pm,cd,ct,a,l,c,k⟩
theorem At.dfn {K:PySem.W.Frag} {h:Heap} {mg:Str->Option Value} {x:Str} {st:Stmt} {ps:List Str} (X:K.In h) (G:h.Ns mainGlobals mg) (A:At K x st) (hb:∀(kV doc pm:Value) (an:Option Addr) (cdv ct:Value) (us:List Value),us.length=ps.length->PySem.bindArgs (PySem.W.fnOf x x (qdc_ st) (q8_ st) (qe_ st) .none kV doc pm an cdv ct) {pos:=us}=pure (ps.zip us)):Def K mg x st ps:=by
 obtain ⟨f,od,an,sl,oc,kV,dc,pm,cd,ct,a,l,c,k⟩:=A.ex
 exact ⟨_,_,qh1_ l c k,(qh1_ l c k).binds hb,PySem.W.mg_of X G a⟩
theorem all_mk {l:PySem.W.OpenLaw} {w:World} {K:PySem.W.Frag} {h:Heap} {mg:Str->Option Value} {fa:Addr} (X:K.In h) (G:h.Ns mainGlobals mg) (hfa:mg "law"=some (.ref fa))
  (A0:At K "common_divisor" qbj_) (A1:At K "fraction" qdx_) (A2:At K "plus" qj5_) (A3:At K "opposite" qdz_) (A4:At K "times" qgv_) (A5:At K "over" qji_) (A6:At K "below" qgy_) (A7:At K "copied_rows" qb7_) (A8:At K "is_between" qch_) (A9:At K "within_bounds" qbo_) (A10:At K "weighed_sum" qb5_) (A11:At K "demand_worth" qbx_) (A12:At K "worths" qe8_) (A13:At K "fits" qj6_) (A14:At K "all_but_one_0" qbp_) (A15:At K "bound_rows" qcl_) (A16:At K "says_nothing" qbt_) (A17:At K "put_on" qff_) (A18:At K "shim_rows" qcy_) (A19:At K "mixed" qgs_) (A20:At K "put_together" qbu_) (A21:At K "taken_out" qc9_) (A22:At K "least_let" qc0_) (A23:At K "greatest_of" qb6_) (A24:At K "worst_end" qc6_) (A25:At K "own_rows" qdp_) (A26:At K "size_put" qdq_) (A27:At K "turn_taken_out" qbg_) (A28:At K "rows_at" qeo_) (A29:At K "made_and_chosen" qbc_) (A30:At K "makers_worth" qbv_) (A31:At K "choosers_worth" qbh_) (A32:At K "next_worth" qcj_) (A33:At K "_law_cell_at" qb1_) (A34:At K "_law_mixed" qc4_) (A35:At K "_law_fraction" qbw_) (A36:At K "_law_plus" qdo_) (A37:At K "_law_times" qc2_) (A38:At K "_law_bounds" qck_) (A39:At K "_law_shares" qcn_) (A40:At K "_law_plan" qd1_) (A41:At K "_law_order" qda_) (A42:At K "_law_copy" qds_) (A43:At K "_law_put" qep_) (A44:At K "_law_single" qcg_) (A45:At K "_law_sums" qd2_) (A46:At K "_law_no_shim" qca_) (A47:At K "_law_no_size" qb8_) (A48:At K "_law_rows" qdy_) (A49:At K "_law_ahead" qc3_) (A50:At K "_law_told" qdw_) (A51:At K "_law_between" qb4_) (A52:At K "_law_within" qco_) (A53:At K "_law_stand_good" qbi_)
  {f54:Addr} {od54 an54:Option Addr} {sl54:Array (Option Value)} {oc54 kV54 dc54 pm54 cd54 ct54:Value} (a54:PySem.W.nsIn K mainGlobals "law"=some (some (.ref f54))) (l54:K.lookup f54=some ⟨oc54,od54,.func (PySem.W.fnOf "law" "law" (qdc_ qe5_) (q8_ qe5_) (qe_ qe5_) .none kV54 dc54 pm54 an54 cd54 ct54),sl54⟩) (c54:PySem.W.codeIn K cd54 "law"=true) (k54:PySem.W.keepIn K (.ref f54)=true)
  (z_len:PySem.W.nsIn K mainGlobals "len"=some none)
  (z_abs:PySem.W.nsIn K mainGlobals "abs"=some none)
  (z_isinstance:PySem.W.nsIn K mainGlobals "isinstance"=some none)
  (z_tuple:PySem.W.nsIn K mainGlobals "tuple"=some none)
  (z_list:PySem.W.nsIn K mainGlobals "list"=some none)
  (z_int:PySem.W.nsIn K mainGlobals "int"=some none)
  (z_bool:PySem.W.nsIn K mainGlobals "bool"=some none)
  (z_str:PySem.W.nsIn K mainGlobals "str"=some none)
  (z_range:PySem.W.nsIn K mainGlobals "range"=some none)
  (z_zip:PySem.W.nsIn K mainGlobals "zip"=some none)
  (z_all:PySem.W.nsIn K mainGlobals "all"=some none)
  (z_any:PySem.W.nsIn K mainGlobals "any"=some none)
  (z_ValueError:PySem.W.nsIn K mainGlobals "ValueError"=some none)
  (z_enumerate:PySem.W.nsIn K mainGlobals "enumerate"=some none)
  (z_sum:PySem.W.nsIn K mainGlobals "sum"=some none)
  (z_min:PySem.W.nsIn K mainGlobals "min"=some none)
  (z_max:PySem.W.nsIn K mainGlobals "max"=some none)
  (z_sorted:PySem.W.nsIn K mainGlobals "sorted"=some none)
  (z_reversed:PySem.W.nsIn K mainGlobals "reversed"=some none)
  (z_dict:PySem.W.nsIn K mainGlobals "dict"=some none)
  {c_ZERO:Addr} {od_ZERO:Option Addr} {sl_ZERO:Array (Option Value)} {n_ZERO:Nat} {t0_ZERO t1_ZERO:Tok} (b_ZERO:PySem.W.nsIn K mainGlobals "ZERO"=some (some (.ref c_ZERO))) (m_ZERO:K.lookup c_ZERO=some ⟨.type "tuple",od_ZERO,.seq #[.int 0 t0_ZERO,.int 1 t1_ZERO] n_ZERO,sl_ZERO⟩)
  {c_ONE:Addr} {od_ONE:Option Addr} {sl_ONE:Array (Option Value)} {n_ONE:Nat} {t0_ONE t1_ONE:Tok} (b_ONE:PySem.W.nsIn K mainGlobals "ONE"=some (some (.ref c_ONE))) (m_ONE:K.lookup c_ONE=some ⟨.type "tuple",od_ONE,.seq #[.int 1 t0_ONE,.int 1 t1_ONE] n_ONE,sl_ONE⟩)
  {C_NoChoice:Addr} (e_NoChoice:PySem.W.nsIn K mainGlobals "NoChoice"=some (some (.ref C_NoChoice))) (q_NoChoice:PySem.W.excIn K C_NoChoice qlj_ "ValueError.__new__"=true) (x0_NoChoice:PySem.W.findIn K (.ref C_NoChoice) "__getattribute__"=some (some (.builtin "BaseException.__getattribute__"))) (x1_NoChoice:PySem.W.findIn K (.ref C_NoChoice) "__getattr__"=some none) (x2_NoChoice:PySem.W.findIn K (.ref C_NoChoice) "__class__"=some (some (.builtin "object.__class__"))) (x3_NoChoice:PySem.W.specialIn K (.builtin "object.__class__") "__get__"=some (some (.builtin "getset_descriptor.__get__"))) (x4_NoChoice:PySem.W.takesIn K (.builtin "object.__class__")=some true) (x5_NoChoice:PySem.W.mroIn K C_NoChoice (.type "object")=some true) (x6_NoChoice:PySem.W.mroIn K C_NoChoice (.type "BaseException")=some true) (x7_NoChoice:PySem.W.typeIn K (.ref C_NoChoice)=some (.type "type")) (x8_NoChoice:PySem.W.subIn K (.ref C_NoChoice) (.type "BaseException")=some true)
  (s_NoChoice_NoChoice:PySem.W.subIn K (.ref C_NoChoice) (.ref C_NoChoice)=some true)
  (s_NoChoice_ValueError:PySem.W.subIn K (.ref C_NoChoice) (.type "ValueError")=some true)
  :∃fd:FuncData,(∀(s:Shared) (v:Value),BindsTo s fd ⟨[v],[]⟩ [("script",v)])/\∀base:Heap,K.In base->base.Ns mainGlobals mg->FnOk l.prog w K mg base CX0 12 fa fd ["script"] (qnh_ K):=by
 have e:=hfa.symm.trans (PySem.W.mg_of X G a54)
 cases e
 have B:Bl mg:=⟨PySem.W.mg_none_of X G z_len,PySem.W.mg_none_of X G z_abs,PySem.W.mg_none_of X G z_isinstance,PySem.W.mg_none_of X G z_tuple,PySem.W.mg_none_of X G z_list,PySem.W.mg_none_of X G z_int,PySem.W.mg_none_of X G z_bool,PySem.W.mg_none_of X G z_str,PySem.W.mg_none_of X G z_range,PySem.W.mg_none_of X G z_zip,PySem.W.mg_none_of X G z_all,PySem.W.mg_none_of X G z_any,PySem.W.mg_none_of X G z_ValueError⟩
 have B2:Bl2 mg:=⟨B,PySem.W.mg_none_of X G z_enumerate,PySem.W.mg_none_of X G z_sum,PySem.W.mg_none_of X G z_min,PySem.W.mg_none_of X G z_max,PySem.W.mg_none_of X G z_sorted,PySem.W.mg_none_of X G z_reversed,PySem.W.mg_none_of X G z_dict⟩
 have C_ZERO:Zero4 K mg:=Zero4.of (PySem.W.mg_of X G b_ZERO) m_ZERO
 have C_ONE:One4 K mg:=One4.of (PySem.W.mg_of X G b_ONE) m_ONE
 have XC_NoChoice:ExC K mg "NoChoice":=ExC.of (PySem.W.mg_of X G e_NoChoice) q_NoChoice ⟨x0_NoChoice,x1_NoChoice,x2_NoChoice,x3_NoChoice,x4_NoChoice,x5_NoChoice,x6_NoChoice,x7_NoChoice,x8_NoChoice⟩
 have Z:Exs K mg:=⟨XC_NoChoice,by simp only [qk3_ (PySem.W.mg_of X G e_NoChoice)];exact s_NoChoice_NoChoice,by simp only [qk3_ (PySem.W.mg_of X G e_NoChoice)];exact s_NoChoice_ValueError⟩
 have d_common_divisor:Def K mg "common_divisor" qbj_ ["one","other"]:=A0.dfn X G λ_ _ _ _ _ _ us hl=>by obtain ⟨_,_,rfl⟩:=len2 hl;rfl
 have d_fraction:Def K mg "fraction" qdx_ ["top","bottom"]:=A1.dfn X G λ_ _ _ _ _ _ us hl=>by obtain ⟨_,_,rfl⟩:=len2 hl;rfl
 have d_plus:Def K mg "plus" qj5_ ["q","r"]:=A2.dfn X G λ_ _ _ _ _ _ us hl=>by obtain ⟨_,_,rfl⟩:=len2 hl;rfl
 have d_opposite:Def K mg "opposite" qdz_ ["q"]:=A3.dfn X G λ_ _ _ _ _ _ us hl=>by obtain ⟨_,rfl⟩:=len1 hl;rfl
 have d_times:Def K mg "times" qgv_ ["q","r"]:=A4.dfn X G λ_ _ _ _ _ _ us hl=>by obtain ⟨_,_,rfl⟩:=len2 hl;rfl
 have d_over:Def K mg "over" qji_ ["q","r"]:=A5.dfn X G λ_ _ _ _ _ _ us hl=>by obtain ⟨_,_,rfl⟩:=len2 hl;rfl
 have d_below:Def K mg "below" qgy_ ["q","r"]:=A6.dfn X G λ_ _ _ _ _ _ us hl=>by obtain ⟨_,_,rfl⟩:=len2 hl;rfl
 have d_copied_rows:Def K mg "copied_rows" qb7_ ["rows"]:=A7.dfn X G λ_ _ _ _ _ _ us hl=>by obtain ⟨_,rfl⟩:=len1 hl;rfl
 have d_is_between:Def K mg "is_between" qch_ ["q","low","high"]:=A8.dfn X G λ_ _ _ _ _ _ us hl=>by obtain ⟨_,_,_,rfl⟩:=len3 hl;rfl
 have d_within_bounds:Def K mg "within_bounds" qbo_ ["bounds","told"]:=A9.dfn X G λ_ _ _ _ _ _ us hl=>by obtain ⟨_,_,rfl⟩:=len2 hl;rfl
 have d_weighed_sum:Def K mg "weighed_sum" qb5_ ["factors","told"]:=A10.dfn X G λ_ _ _ _ _ _ us hl=>by obtain ⟨_,_,rfl⟩:=len2 hl;rfl
 have d_demand_worth:Def K mg "demand_worth" qbx_ ["demand","made","choice"]:=A11.dfn X G λ_ _ _ _ _ _ us hl=>by obtain ⟨_,_,_,rfl⟩:=len3 hl;rfl
 have d_worths:Def K mg "worths" qe8_ ["plan","made","choice"]:=A12.dfn X G λ_ _ _ _ _ _ us hl=>by obtain ⟨_,_,_,rfl⟩:=len3 hl;rfl
 have d_fits:Def K mg "fits" qj6_ ["plan","made","choice"]:=A13.dfn X G λ_ _ _ _ _ _ us hl=>by obtain ⟨_,_,_,rfl⟩:=len3 hl;rfl
 have d_all_but_one_0:Def K mg "all_but_one_0" qbp_ ["length","place","q"]:=A14.dfn X G λ_ _ _ _ _ _ us hl=>by obtain ⟨_,_,_,rfl⟩:=len3 hl;rfl
 have d_bound_rows:Def K mg "bound_rows" qcl_ ["shims"]:=A15.dfn X G λ_ _ _ _ _ _ us hl=>by obtain ⟨_,rfl⟩:=len1 hl;rfl
 have d_says_nothing:Def K mg "says_nothing" qbt_ ["row"]:=A16.dfn X G λ_ _ _ _ _ _ us hl=>by obtain ⟨_,rfl⟩:=len1 hl;rfl
 have d_put_on:Def K mg "put_on" qff_ ["rows"]:=A17.dfn X G λ_ _ _ _ _ _ us hl=>by obtain ⟨_,rfl⟩:=len1 hl;rfl
 have d_shim_rows:Def K mg "shim_rows" qcy_ ["plan"]:=A18.dfn X G λ_ _ _ _ _ _ us hl=>by obtain ⟨_,rfl⟩:=len1 hl;rfl
 have d_mixed:Def K mg "mixed" qgs_ ["q","one","r","other"]:=A19.dfn X G λ_ _ _ _ _ _ us hl=>by obtain ⟨_,_,_,_,rfl⟩:=len4 hl;rfl
 have d_put_together:Def K mg "put_together" qbu_ ["low","high","k"]:=A20.dfn X G λ_ _ _ _ _ _ us hl=>by obtain ⟨_,_,_,rfl⟩:=len3 hl;rfl
 have d_taken_out:Def K mg "taken_out" qc9_ ["rows","k"]:=A21.dfn X G λ_ _ _ _ _ _ us hl=>by obtain ⟨_,_,rfl⟩:=len2 hl;rfl
 have d_least_let:Def K mg "least_let" qc0_ ["low","k","made","others"]:=A22.dfn X G λ_ _ _ _ _ _ us hl=>by obtain ⟨_,_,_,_,rfl⟩:=len4 hl;rfl
 have d_greatest_of:Def K mg "greatest_of" qb6_ ["fractions"]:=A23.dfn X G λ_ _ _ _ _ _ us hl=>by obtain ⟨_,rfl⟩:=len1 hl;rfl
 have d_worst_end:Def K mg "worst_end" qc6_ ["q","pair"]:=A24.dfn X G λ_ _ _ _ _ _ us hl=>by obtain ⟨_,_,rfl⟩:=len2 hl;rfl
 have d_own_rows:Def K mg "own_rows" qdp_ ["plan","k"]:=A25.dfn X G λ_ _ _ _ _ _ us hl=>by obtain ⟨_,_,rfl⟩:=len2 hl;rfl
 have d_size_put:Def K mg "size_put" qdq_ ["row","k","q"]:=A26.dfn X G λ_ _ _ _ _ _ us hl=>by obtain ⟨_,_,_,rfl⟩:=len3 hl;rfl
 have d_turn_taken_out:Def K mg "turn_taken_out" qbg_ ["plan","rows","turn"]:=A27.dfn X G λ_ _ _ _ _ _ us hl=>by obtain ⟨_,_,_,rfl⟩:=len3 hl;rfl
 have d_rows_at:Def K mg "rows_at" qeo_ ["plan","order","place"]:=A28.dfn X G λ_ _ _ _ _ _ us hl=>by obtain ⟨_,_,_,rfl⟩:=len3 hl;rfl
 have d_made_and_chosen:Def K mg "made_and_chosen" qbc_ ["plan","order","so_far"]:=A29.dfn X G λ_ _ _ _ _ _ us hl=>by obtain ⟨_,_,_,rfl⟩:=len3 hl;rfl
 have d_makers_worth:Def K mg "makers_worth" qbv_ ["plan","rows","k","told"]:=A30.dfn X G λ_ _ _ _ _ _ us hl=>by obtain ⟨_,_,_,_,rfl⟩:=len4 hl;rfl
 have d_choosers_worth:Def K mg "choosers_worth" qbh_ ["plan","rows","k","told"]:=A31.dfn X G λ_ _ _ _ _ _ us hl=>by obtain ⟨_,_,_,_,rfl⟩:=len4 hl;rfl
 have d_next_worth:Def K mg "next_worth" qcj_ ["plan","order","so_far"]:=A32.dfn X G λ_ _ _ _ _ _ us hl=>by obtain ⟨_,_,_,rfl⟩:=len3 hl;rfl
 have d__law_cell_at:Def K mg "_law_cell_at" qb1_ ["script","k"]:=A33.dfn X G λ_ _ _ _ _ _ us hl=>by obtain ⟨_,_,rfl⟩:=len2 hl;rfl
 have d__law_mixed:Def K mg "_law_mixed" qc4_ ["cell","k"]:=A34.dfn X G λ_ _ _ _ _ _ us hl=>by obtain ⟨_,_,rfl⟩:=len2 hl;rfl
 have d__law_fraction:Def K mg "_law_fraction" qbw_ ["top","bottom"]:=A35.dfn X G λ_ _ _ _ _ _ us hl=>by obtain ⟨_,_,rfl⟩:=len2 hl;rfl
 have d__law_plus:Def K mg "_law_plus" qdo_ ["q","r"]:=A36.dfn X G λ_ _ _ _ _ _ us hl=>by obtain ⟨_,_,rfl⟩:=len2 hl;rfl
 have d__law_times:Def K mg "_law_times" qc2_ ["q","r"]:=A37.dfn X G λ_ _ _ _ _ _ us hl=>by obtain ⟨_,_,rfl⟩:=len2 hl;rfl
 have d__law_bounds:Def K mg "_law_bounds" qck_ ["left"]:=A38.dfn X G λ_ _ _ _ _ _ us hl=>by obtain ⟨_,rfl⟩:=len1 hl;rfl
 have d__law_shares:Def K mg "_law_shares" qcn_ ["left","many"]:=A39.dfn X G λ_ _ _ _ _ _ us hl=>by obtain ⟨_,_,rfl⟩:=len2 hl;rfl
 have d__law_plan:Def K mg "_law_plan" qd1_ ["script"]:=A40.dfn X G λ_ _ _ _ _ _ us hl=>by obtain ⟨_,rfl⟩:=len1 hl;rfl
 have d__law_order:Def K mg "_law_order" qda_ ["plan","cell"]:=A41.dfn X G λ_ _ _ _ _ _ us hl=>by obtain ⟨_,_,rfl⟩:=len2 hl;rfl
 have d__law_copy:Def K mg "_law_copy" qds_ ["plan"]:=A42.dfn X G λ_ _ _ _ _ _ us hl=>by obtain ⟨_,rfl⟩:=len1 hl;rfl
 have d__law_put:Def K mg "_law_put" qep_ ["rows","a","b","c"]:=A43.dfn X G λ_ _ _ _ _ _ us hl=>by obtain ⟨_,_,_,_,rfl⟩:=len4 hl;rfl
 have d__law_single:Def K mg "_law_single" qcg_ ["many","k","worth"]:=A44.dfn X G λ_ _ _ _ _ _ us hl=>by obtain ⟨_,_,_,rfl⟩:=len3 hl;rfl
 have d__law_sums:Def K mg "_law_sums" qd2_ ["ones","p","others","q"]:=A45.dfn X G λ_ _ _ _ _ _ us hl=>by obtain ⟨_,_,_,_,rfl⟩:=len4 hl;rfl
 have d__law_no_shim:Def K mg "_law_no_shim" qca_ ["plan","rows","k"]:=A46.dfn X G λ_ _ _ _ _ _ us hl=>by obtain ⟨_,_,_,rfl⟩:=len3 hl;rfl
 have d__law_no_size:Def K mg "_law_no_size" qb8_ ["plan","rows","k"]:=A47.dfn X G λ_ _ _ _ _ _ us hl=>by obtain ⟨_,_,_,rfl⟩:=len3 hl;rfl
 have d__law_rows:Def K mg "_law_rows" qdy_ ["plan","order","place"]:=A48.dfn X G λ_ _ _ _ _ _ us hl=>by obtain ⟨_,_,_,rfl⟩:=len3 hl;rfl
 have d__law_ahead:Def K mg "_law_ahead" qc3_ ["plan","order","so_far"]:=A49.dfn X G λ_ _ _ _ _ _ us hl=>by obtain ⟨_,_,_,rfl⟩:=len3 hl;rfl
 have d__law_told:Def K mg "_law_told" qdw_ ["plan","order","so_far"]:=A50.dfn X G λ_ _ _ _ _ _ us hl=>by obtain ⟨_,_,_,rfl⟩:=len3 hl;rfl
 have d__law_between:Def K mg "_law_between" qb4_ ["bounds","cell"]:=A51.dfn X G λ_ _ _ _ _ _ us hl=>by obtain ⟨_,_,rfl⟩:=len2 hl;rfl
 have d__law_within:Def K mg "_law_within" qco_ ["found","bounds"]:=A52.dfn X G λ_ _ _ _ _ _ us hl=>by obtain ⟨_,_,rfl⟩:=len2 hl;rfl
 have d__law_stand_good:Def K mg "_law_stand_good" qbi_ ["plan","order","so_far","cell"]:=A53.dfn X G λ_ _ _ _ _ _ us hl=>by obtain ⟨_,_,_,_,rfl⟩:=len4 hl;rfl
 have d_law:Def K mg "law" qe5_ ["script"]:=⟨_,_,qh1_ (st:=qe5_) l54 c54 k54,(qh1_ (st:=qe5_) l54 c54 k54).binds (ps:=["script"]) λ_ _ _ _ _ _ us hl=>by obtain ⟨_,rfl⟩:=len1 hl;rfl,PySem.W.mg_of X G a54⟩
 refine ⟨PySem.W.fnOf "law" "law" (qdc_ qe5_) (q8_ qe5_) (qe_ qe5_) .none kV54 dc54 pm54 an54 cd54 ct54,λs v=> .of_eq rfl,λbase _ _=>?_⟩
 have h_common_divisor:=M.h_common_divisor (P:=l.prog) (w:=w) (base:=base) B d_common_divisor 
 have h_opposite:=M.h_opposite (P:=l.prog) (w:=w) (base:=base) B d_opposite 
 have h_below:=M.h_below (P:=l.prog) (w:=w) (base:=base) B d_below 
 have h_copied_rows:=M.h_copied_rows (P:=l.prog) (w:=w) (base:=base) B d_copied_rows 
 have h_all_but_one_0:=M.h_all_but_one_0 (P:=l.prog) (w:=w) (base:=base) B d_all_but_one_0  (C_ZERO:=C_ZERO)
 have h_made_and_chosen:=M.h_made_and_chosen (P:=l.prog) (w:=w) (base:=base) B d_made_and_chosen  (C_ZERO:=C_ZERO)
 have h__law_cell_at:=M.h__law_cell_at (P:=l.prog) (w:=w) (base:=base) B d__law_cell_at 
 have h__law_mixed:=M.h__law_mixed (P:=l.prog) (w:=w) (base:=base) B d__law_mixed 
 have h__law_fraction:=M.h__law_fraction (P:=l.prog) (w:=w) (base:=base) B2 d__law_fraction 
 have h__law_shares:=M.h__law_shares (P:=l.prog) (w:=w) (base:=base) B d__law_shares 
 have h__law_order:=M.h__law_order (P:=l.prog) (w:=w) (base:=base) B d__law_order 
 have h__law_copy:=M.h__law_copy (P:=l.prog) (w:=w) (base:=base) B d__law_copy 
 have h__law_put:=M.h__law_put (P:=l.prog) (w:=w) (base:=base) B d__law_put 
 have h__law_single:=M.h__law_single (P:=l.prog) (w:=w) (base:=base) B d__law_single 
 have h__law_within:=M.h__law_within (P:=l.prog) (w:=w) (base:=base) B d__law_within 
 have h_fraction:=M.h_fraction (P:=l.prog) (w:=w) (base:=base) B d_fraction (F_common_divisor:=h_common_divisor)
 have h_is_between:=M.h_is_between (P:=l.prog) (w:=w) (base:=base) B d_is_between (F_below:=h_below)
 have h_bound_rows:=M.h_bound_rows (P:=l.prog) (w:=w) (base:=base) B2 d_bound_rows (F_all_but_one_0:=h_all_but_one_0) (F_opposite:=h_opposite) (C_ONE:=C_ONE)
 have h_says_nothing:=M.h_says_nothing (P:=l.prog) (w:=w) (base:=base) B d_says_nothing (F_below:=h_below) (C_ZERO:=C_ZERO)
 have h_greatest_of:=M.h_greatest_of (P:=l.prog) (w:=w) (base:=base) B d_greatest_of (F_below:=h_below)
 have h_worst_end:=M.h_worst_end (P:=l.prog) (w:=w) (base:=base) B d_worst_end (F_below:=h_below) (C_ZERO:=C_ZERO)
 have h__law_plus:=M.h__law_plus (P:=l.prog) (w:=w) (base:=base) B d__law_plus (F__law_fraction:=h__law_fraction)
 have h__law_times:=M.h__law_times (P:=l.prog) (w:=w) (base:=base) B d__law_times (F__law_fraction:=h__law_fraction)
 have h_plus:=M.h_plus (P:=l.prog) (w:=w) (base:=base) B d_plus (F_fraction:=h_fraction)
 have h_times:=M.h_times (P:=l.prog) (w:=w) (base:=base) B d_times (F_fraction:=h_fraction)
 have h_over:=M.h_over (P:=l.prog) (w:=w) (base:=base) B d_over (F_fraction:=h_fraction)
 have h_within_bounds:=M.h_within_bounds (P:=l.prog) (w:=w) (base:=base) B d_within_bounds (F_is_between:=h_is_between)
 have h_put_on:=M.h_put_on (P:=l.prog) (w:=w) (base:=base) B d_put_on (F_says_nothing:=h_says_nothing)
 have h_shim_rows:=M.h_shim_rows (P:=l.prog) (w:=w) (base:=base) B d_shim_rows (F_bound_rows:=h_bound_rows) (C_ZERO:=C_ZERO)
 have h__law_bounds:=M.h__law_bounds (P:=l.prog) (w:=w) (base:=base) B d__law_bounds (F__law_fraction:=h__law_fraction) (F__law_plus:=h__law_plus)
 have h__law_sums:=M.h__law_sums (P:=l.prog) (w:=w) (base:=base) B d__law_sums (F__law_plus:=h__law_plus) (F__law_times:=h__law_times)
 have h__law_no_size:=M.h__law_no_size (P:=l.prog) (w:=w) (base:=base) B d__law_no_size (F__law_put:=h__law_put) (F__law_plus:=h__law_plus) (F__law_times:=h__law_times)
 have h__law_between:=M.h__law_between (P:=l.prog) (w:=w) (base:=base) B d__law_between (F__law_times:=h__law_times) (F__law_plus:=h__law_plus) (F__law_fraction:=h__law_fraction)
 have h_weighed_sum:=M.h_weighed_sum (P:=l.prog) (w:=w) (base:=base) B d_weighed_sum (F_plus:=h_plus) (F_times:=h_times) (C_ZERO:=C_ZERO)
 have h_mixed:=M.h_mixed (P:=l.prog) (w:=w) (base:=base) B d_mixed (F_plus:=h_plus) (F_times:=h_times)
 have h_own_rows:=M.h_own_rows (P:=l.prog) (w:=w) (base:=base) B d_own_rows (F_shim_rows:=h_shim_rows)
 have h_size_put:=M.h_size_put (P:=l.prog) (w:=w) (base:=base) B d_size_put (F_plus:=h_plus) (F_times:=h_times) (C_ZERO:=C_ZERO)
 have h__law_plan:=M.h__law_plan (P:=l.prog) (w:=w) (base:=base) B d__law_plan (F__law_cell_at:=h__law_cell_at) (F__law_bounds:=h__law_bounds) (F__law_mixed:=h__law_mixed) (F__law_shares:=h__law_shares) (F__law_fraction:=h__law_fraction)
 have h__law_no_shim:=M.h__law_no_shim (P:=l.prog) (w:=w) (base:=base) B d__law_no_shim (F__law_put:=h__law_put) (F__law_single:=h__law_single) (F__law_sums:=h__law_sums)
 have h_demand_worth:=M.h_demand_worth (P:=l.prog) (w:=w) (base:=base) B d_demand_worth (F_plus:=h_plus) (F_weighed_sum:=h_weighed_sum)
 have h_put_together:=M.h_put_together (P:=l.prog) (w:=w) (base:=base) B d_put_together (F_opposite:=h_opposite) (F_mixed:=h_mixed) (F_plus:=h_plus) (F_times:=h_times)
 have h__law_rows:=M.h__law_rows (P:=l.prog) (w:=w) (base:=base) B2 d__law_rows (F__law_no_shim:=h__law_no_shim) (F__law_no_size:=h__law_no_size)
 have h_worths:=M.h_worths (P:=l.prog) (w:=w) (base:=base) B d_worths (F_demand_worth:=h_demand_worth)
 have h_taken_out:=M.h_taken_out (P:=l.prog) (w:=w) (base:=base) B d_taken_out (F_put_on:=h_put_on) (F_below:=h_below) (F_put_together:=h_put_together) (C_ZERO:=C_ZERO)
 have h_least_let:=M.h_least_let (P:=l.prog) (w:=w) (base:=base) B d_least_let (F_over:=h_over) (F_opposite:=h_opposite) (F_demand_worth:=h_demand_worth)
 have h_makers_worth:=M.h_makers_worth (P:=l.prog) (w:=w) (base:=base) B d_makers_worth (F_worst_end:=h_worst_end) (F_below:=h_below) (F_demand_worth:=h_demand_worth) (F_size_put:=h_size_put) (C_ZERO:=C_ZERO) (XC:=XC_NoChoice)
 have h__law_ahead:=M.h__law_ahead (P:=l.prog) (w:=w) (base:=base) B d__law_ahead (F__law_rows:=h__law_rows) (F__law_plus:=h__law_plus) (F__law_times:=h__law_times)
 have h_fits:=M.h_fits (P:=l.prog) (w:=w) (base:=base) B d_fits (F_within_bounds:=h_within_bounds) (F_below:=h_below) (F_worths:=h_worths) (C_ZERO:=C_ZERO)
 have h_turn_taken_out:=M.h_turn_taken_out (P:=l.prog) (w:=w) (base:=base) B d_turn_taken_out (F_put_on:=h_put_on) (F_taken_out:=h_taken_out) (F_size_put:=h_size_put) (F_worst_end:=h_worst_end) (F_own_rows:=h_own_rows)
 have h_choosers_worth:=M.h_choosers_worth (P:=l.prog) (w:=w) (base:=base) B d_choosers_worth (F_greatest_of:=h_greatest_of) (F_own_rows:=h_own_rows) (F_below:=h_below) (F_least_let:=h_least_let) (F_demand_worth:=h_demand_worth) (C_ZERO:=C_ZERO) (XC:=XC_NoChoice)
 have h_rows_at:=M.h_rows_at (P:=l.prog) (w:=w) (base:=base) B2 d_rows_at (F_copied_rows:=h_copied_rows) (F_turn_taken_out:=h_turn_taken_out)
 have h_next_worth:=M.h_next_worth (P:=l.prog) (w:=w) (base:=base) B d_next_worth (F_rows_at:=h_rows_at) (F_made_and_chosen:=h_made_and_chosen) (F_choosers_worth:=h_choosers_worth) (F_makers_worth:=h_makers_worth) (XC:=XC_NoChoice)
 have h__law_told:=M.h__law_told (P:=l.prog) (w:=w) (base:=base) B d__law_told (F_next_worth:=h_next_worth) (XC_NoChoice:=XC_NoChoice) (HX:=qqv_ Z.NoChoice.c Z.s_NoChoice_NoChoice)
 have h__law_stand_good:=M.h__law_stand_good (P:=l.prog) (w:=w) (base:=base) B d__law_stand_good (F__law_ahead:=h__law_ahead) (F__law_told:=h__law_told) (F__law_copy:=h__law_copy) (F__law_between:=h__law_between) (F__law_within:=h__law_within)
 exact M.fn_law (P:=l.prog) (w:=w) (base:=base) B2 (qh1_ (st:=qe5_) l54 c54 k54) (F__law_plan:=h__law_plan) (F__law_order:=h__law_order) (F__law_cell_at:=h__law_cell_at) (F__law_told:=h__law_told) (F_fits:=h_fits) (F__law_stand_good:=h__law_stand_good) (F__law_copy:=h__law_copy) (F__law_ahead:=h__law_ahead) (F__law_between:=h__law_between)
theorem walk {l:PySem.W.OpenLaw} {q:Program} {loose:List Str} {XP:(Str->Option Value)->Heap->Prop} {YP:World->Heap->Prop} {d:DefRec} {K:Params->PySem.W.Frag} (hn:l.most=some 63) (hdf:d.params.defaults=[])
  (hY:∀(w:World) (h:Heap),YP w h->(K w.params).In h)
  (F:∀(w:World) (mg:Str->Option Value) (fa:Addr) (h:Heap),(K w.params).In h->h.Ns mainGlobals mg->mg d.name=some (.ref fa)->
   ∃fd:FuncData,(∀(s:Shared) (u:Value),BindsTo s fd ⟨[u],[]⟩ [("script",u)])/\∀base:Heap,(K w.params).In base->base.Ns mainGlobals mg->FnOk l.prog w (K w.params) mg base CX0 12 fa fd ["script"] (qnh_ (K w.params))):
  PySem.W.WalkO q loose XP YP l.row.toRowW d [] (λf vs=>PySem.call f vs):=
 L2.walk_of (n:=63) (k:=12) (x:="script") (CX:=λ_=>CX0) (sp:=λw=>qnh_ (K w.params)) hn (by decide) hdf ⟨rfl,by decide,by decide⟩ hY F (λ_ _ a ns hl _ hS=>⟨a,ns,rfl,hS,hl,λ_=>rfl⟩) λ_ _ _ _ _ z=>z
end M
-- the head would lay twins of the heap, of trees and of texts here; with their names taken it lays none and goes on without them, and the compiled file stays small
theorem PySem.W.Fast.tw34245959987005946:True:=trivial
theorem PySem.W.Fast.tw6413806186979482007:True:=trivial
theorem PySem.W.Fast.tw16224560219034982580:True:=trivial
theorem PySem.W.Fast.tw8268442249739146695:True:=trivial
theorem PySem.W.Fast.tw14009521148689011405:True:=trivial
theorem PySem.W.Fast.tw14163630270043161265:True:=trivial
theorem PySem.W.Fast.tw13384379579405081719:True:=trivial
theorem PySem.W.Fast.tw487539594505104418:True:=trivial
theorem PySem.W.Fast.tw807704546584731735:True:=trivial
theorem PySem.W.Fast.tw4378581265544408021:True:=trivial
noncomputable def PySem.W.Fast.tw1194622145029449732 : PySem.Program := PySem.Challenge.pw_shimright_k70_whole_any_stand
theorem PySem.W.Fast.te1194622145029449732 : PySem.Challenge.pw_shimright_k70_whole_any_stand = PySem.W.Fast.tw1194622145029449732 := rfl
theorem PySem.W.Fast.te18258395575180622855:True:=trivial
theorem PySem.W.Fast.tw6432571292385036568:True:=trivial
theorem PySem.W.Fast.tw16722775950577574309:True:=trivial
namespace M
end M
open PySem PySem.W PyProof.Rows
set_option maxRecDepth 100000 in
set_option maxHeartbeats 0 in
theorem PySem.Challenge.cw_shimright_k70_whole_any_stand_holds : PySem.Challenge.rw_shimright_k70_whole_any_stand.Holds := by
  w_on; o_law; k_head; (case hw => w_witness2)
  k_fill
  refine M.walk (l := PySem.Challenge.rw_shimright_k70_whole_any_stand) rfl rfl (fun w h Y => PySem.W.kIn_of Y) ?F
  case F =>
    intro w mg fa h KX G hmg
    refine' M.all_mk KX G hmg ?A0 ?A1 ?A2 ?A3 ?A4 ?A5 ?A6 ?A7 ?A8 ?A9 ?A10 ?A11 ?A12 ?A13 ?A14 ?A15 ?A16 ?A17 ?A18 ?A19 ?A20 ?A21 ?A22 ?A23 ?A24 ?A25 ?A26 ?A27 ?A28 ?A29 ?A30 ?A31 ?A32 ?A33 ?A34 ?A35 ?A36 ?A37 ?A38 ?A39 ?A40 ?A41 ?A42 ?A43 ?A44 ?A45 ?A46 ?A47 ?A48 ?A49 ?A50 ?A51 ?A52 ?A53 ?a54 ?l54 ?c54 ?k54 ?z_len ?z_abs ?z_isinstance ?z_tuple ?z_list ?z_int ?z_bool ?z_str ?z_range ?z_zip ?z_all ?z_any ?z_ValueError ?z_enumerate ?z_sum ?z_min ?z_max ?z_sorted ?z_reversed ?z_dict ?b_ZERO ?m_ZERO ?b_ONE ?m_ONE ?e_NoChoice ?q_NoChoice ?x0_NoChoice ?x1_NoChoice ?x2_NoChoice ?x3_NoChoice ?x4_NoChoice ?x5_NoChoice ?x6_NoChoice ?x7_NoChoice ?x8_NoChoice ?s_NoChoice_NoChoice ?s_NoChoice_ValueError
    (case A0 => (refine' M.At.of ?a ?l ?c ?k; (case a => k_is); (case l => k_is); (case c => k_is); case k => k_is))
    (case A1 => (refine' M.At.of ?a ?l ?c ?k; (case a => k_is); (case l => k_is); (case c => k_is); case k => k_is))
    (case A2 => (refine' M.At.of ?a ?l ?c ?k; (case a => k_is); (case l => k_is); (case c => k_is); case k => k_is))
    (case A3 => (refine' M.At.of ?a ?l ?c ?k; (case a => k_is); (case l => k_is); (case c => k_is); case k => k_is))
    (case A4 => (refine' M.At.of ?a ?l ?c ?k; (case a => k_is); (case l => k_is); (case c => k_is); case k => k_is))
    (case A5 => (refine' M.At.of ?a ?l ?c ?k; (case a => k_is); (case l => k_is); (case c => k_is); case k => k_is))
    (case A6 => (refine' M.At.of ?a ?l ?c ?k; (case a => k_is); (case l => k_is); (case c => k_is); case k => k_is))
    (case A7 => (refine' M.At.of ?a ?l ?c ?k; (case a => k_is); (case l => k_is); (case c => k_is); case k => k_is))
    (case A8 => (refine' M.At.of ?a ?l ?c ?k; (case a => k_is); (case l => k_is); (case c => k_is); case k => k_is))
    (case A9 => (refine' M.At.of ?a ?l ?c ?k; (case a => k_is); (case l => k_is); (case c => k_is); case k => k_is))
    (case A10 => (refine' M.At.of ?a ?l ?c ?k; (case a => k_is); (case l => k_is); (case c => k_is); case k => k_is))
    (case A11 => (refine' M.At.of ?a ?l ?c ?k; (case a => k_is); (case l => k_is); (case c => k_is); case k => k_is))
    (case A12 => (refine' M.At.of ?a ?l ?c ?k; (case a => k_is); (case l => k_is); (case c => k_is); case k => k_is))
    (case A13 => (refine' M.At.of ?a ?l ?c ?k; (case a => k_is); (case l => k_is); (case c => k_is); case k => k_is))
    (case A14 => (refine' M.At.of ?a ?l ?c ?k; (case a => k_is); (case l => k_is); (case c => k_is); case k => k_is))
    (case A15 => (refine' M.At.of ?a ?l ?c ?k; (case a => k_is); (case l => k_is); (case c => k_is); case k => k_is))
    (case A16 => (refine' M.At.of ?a ?l ?c ?k; (case a => k_is); (case l => k_is); (case c => k_is); case k => k_is))
    (case A17 => (refine' M.At.of ?a ?l ?c ?k; (case a => k_is); (case l => k_is); (case c => k_is); case k => k_is))
    (case A18 => (refine' M.At.of ?a ?l ?c ?k; (case a => k_is); (case l => k_is); (case c => k_is); case k => k_is))
    (case A19 => (refine' M.At.of ?a ?l ?c ?k; (case a => k_is); (case l => k_is); (case c => k_is); case k => k_is))
    (case A20 => (refine' M.At.of ?a ?l ?c ?k; (case a => k_is); (case l => k_is); (case c => k_is); case k => k_is))
    (case A21 => (refine' M.At.of ?a ?l ?c ?k; (case a => k_is); (case l => k_is); (case c => k_is); case k => k_is))
    (case A22 => (refine' M.At.of ?a ?l ?c ?k; (case a => k_is); (case l => k_is); (case c => k_is); case k => k_is))
    (case A23 => (refine' M.At.of ?a ?l ?c ?k; (case a => k_is); (case l => k_is); (case c => k_is); case k => k_is))
    (case A24 => (refine' M.At.of ?a ?l ?c ?k; (case a => k_is); (case l => k_is); (case c => k_is); case k => k_is))
    (case A25 => (refine' M.At.of ?a ?l ?c ?k; (case a => k_is); (case l => k_is); (case c => k_is); case k => k_is))
    (case A26 => (refine' M.At.of ?a ?l ?c ?k; (case a => k_is); (case l => k_is); (case c => k_is); case k => k_is))
    (case A27 => (refine' M.At.of ?a ?l ?c ?k; (case a => k_is); (case l => k_is); (case c => k_is); case k => k_is))
    (case A28 => (refine' M.At.of ?a ?l ?c ?k; (case a => k_is); (case l => k_is); (case c => k_is); case k => k_is))
    (case A29 => (refine' M.At.of ?a ?l ?c ?k; (case a => k_is); (case l => k_is); (case c => k_is); case k => k_is))
    (case A30 => (refine' M.At.of ?a ?l ?c ?k; (case a => k_is); (case l => k_is); (case c => k_is); case k => k_is))
    (case A31 => (refine' M.At.of ?a ?l ?c ?k; (case a => k_is); (case l => k_is); (case c => k_is); case k => k_is))
    (case A32 => (refine' M.At.of ?a ?l ?c ?k; (case a => k_is); (case l => k_is); (case c => k_is); case k => k_is))
    (case A33 => (refine' M.At.of ?a ?l ?c ?k; (case a => k_is); (case l => k_is); (case c => k_is); case k => k_is))
    (case A34 => (refine' M.At.of ?a ?l ?c ?k; (case a => k_is); (case l => k_is); (case c => k_is); case k => k_is))
    (case A35 => (refine' M.At.of ?a ?l ?c ?k; (case a => k_is); (case l => k_is); (case c => k_is); case k => k_is))
    (case A36 => (refine' M.At.of ?a ?l ?c ?k; (case a => k_is); (case l => k_is); (case c => k_is); case k => k_is))
    (case A37 => (refine' M.At.of ?a ?l ?c ?k; (case a => k_is); (case l => k_is); (case c => k_is); case k => k_is))
    (case A38 => (refine' M.At.of ?a ?l ?c ?k; (case a => k_is); (case l => k_is); (case c => k_is); case k => k_is))
    (case A39 => (refine' M.At.of ?a ?l ?c ?k; (case a => k_is); (case l => k_is); (case c => k_is); case k => k_is))
    (case A40 => (refine' M.At.of ?a ?l ?c ?k; (case a => k_is); (case l => k_is); (case c => k_is); case k => k_is))
    (case A41 => (refine' M.At.of ?a ?l ?c ?k; (case a => k_is); (case l => k_is); (case c => k_is); case k => k_is))
    (case A42 => (refine' M.At.of ?a ?l ?c ?k; (case a => k_is); (case l => k_is); (case c => k_is); case k => k_is))
    (case A43 => (refine' M.At.of ?a ?l ?c ?k; (case a => k_is); (case l => k_is); (case c => k_is); case k => k_is))
    (case A44 => (refine' M.At.of ?a ?l ?c ?k; (case a => k_is); (case l => k_is); (case c => k_is); case k => k_is))
    (case A45 => (refine' M.At.of ?a ?l ?c ?k; (case a => k_is); (case l => k_is); (case c => k_is); case k => k_is))
    (case A46 => (refine' M.At.of ?a ?l ?c ?k; (case a => k_is); (case l => k_is); (case c => k_is); case k => k_is))
    (case A47 => (refine' M.At.of ?a ?l ?c ?k; (case a => k_is); (case l => k_is); (case c => k_is); case k => k_is))
    (case A48 => (refine' M.At.of ?a ?l ?c ?k; (case a => k_is); (case l => k_is); (case c => k_is); case k => k_is))
    (case A49 => (refine' M.At.of ?a ?l ?c ?k; (case a => k_is); (case l => k_is); (case c => k_is); case k => k_is))
    (case A50 => (refine' M.At.of ?a ?l ?c ?k; (case a => k_is); (case l => k_is); (case c => k_is); case k => k_is))
    (case A51 => (refine' M.At.of ?a ?l ?c ?k; (case a => k_is); (case l => k_is); (case c => k_is); case k => k_is))
    (case A52 => (refine' M.At.of ?a ?l ?c ?k; (case a => k_is); (case l => k_is); (case c => k_is); case k => k_is))
    (case A53 => (refine' M.At.of ?a ?l ?c ?k; (case a => k_is); (case l => k_is); (case c => k_is); case k => k_is))
    (case a54 => k_is)
    (case l54 => k_is)
    (case c54 => k_is)
    (case k54 => k_is)
    (case z_len => k_is)
    (case z_abs => k_is)
    (case z_isinstance => k_is)
    (case z_tuple => k_is)
    (case z_list => k_is)
    (case z_int => k_is)
    (case z_bool => k_is)
    (case z_str => k_is)
    (case z_range => k_is)
    (case z_zip => k_is)
    (case z_all => k_is)
    (case z_any => k_is)
    (case z_ValueError => k_is)
    (case z_enumerate => k_is)
    (case z_sum => k_is)
    (case z_min => k_is)
    (case z_max => k_is)
    (case z_sorted => k_is)
    (case z_reversed => k_is)
    (case z_dict => k_is)
    (case b_ZERO => k_is)
    (case m_ZERO => k_is)
    (case b_ONE => k_is)
    (case m_ONE => k_is)
    (case e_NoChoice => k_is)
    (case q_NoChoice => k_exc)
    (case x0_NoChoice => k_is)
    (case x1_NoChoice => k_is)
    (case x2_NoChoice => k_is)
    (case x3_NoChoice => k_is)
    (case x4_NoChoice => k_is)
    (case x5_NoChoice => k_is)
    (case x6_NoChoice => k_is)
    (case x7_NoChoice => k_is)
    (case x8_NoChoice => k_is)
    (case s_NoChoice_NoChoice => k_is)
    (case s_NoChoice_ValueError => k_is)
#print axioms PySem.Challenge.cw_shimright_k70_whole_any_stand_holds
