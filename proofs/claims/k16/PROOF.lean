import PyProof.Rows.All
import Wide.All
import OpenK.AllK
import Wide.FinOn
import Lean
import PyProof.EqAt
import PyProof.EqKinds
import PyProof.TupleCall
import OpenK.KRaise
import KE.KIsAll
import PyProof.ExcAttrAll.ValueError
import PyProof.NsDelKeeps
import PyProof.ExcClass2
import PyProof.FactsLen
import PySem.Challenge.RW_lodgefair_k16_spoilt_texts
set_option linter.all false
set_option maxRecDepth 100000
set_option maxHeartbeats 1000000
noncomputable section
set_option Elab.async false
namespace L2
open PySem PySem.Spec PyProof.Rows
abbrev Key:=Sum Int Str
def Qbc:Key->Value->Bool
 |.inl k,v=>Value.isInt k v
 |.inr x,v=>Value.isStrOf x v
def Qii(w:World):Key->Int
 |.inl k=>hashInt k
 |.inr x=>hashStr w x
theorem Bj:∀{k:Key} {v:Value},Qbc k v=true->(∃i t,k=Sum.inl i/\v=Value.int i t)\/(∃x t,k=Sum.inr x/\v=Value.str x t)
 |.inl i,v,h=>by
  obtain⟨t,e⟩:=Value.isInt_shape (k:=i) (v:=v) h;exact .inl ⟨i,t,rfl,e⟩
 |.inr x,v,h=>by
  obtain⟨t,e⟩:=Value.isStrOf_shape (x:=x) (v:=v) h;exact .inr ⟨x,t,rfl,e⟩
theorem Qc2(a b:Int):decide ((Sum.inl a:Key)=Sum.inl b)=(a==b):=by
 by_cases e:a=b
 ·subst e;simp
 ·have h:¬(Sum.inl a:Key)=Sum.inl b:=λq=>e (Sum.inl.inj q)
  rw[decide_eq_false h];exact(beq_eq_false_iff_ne.mpr e).symm
theorem Qc3(a b:Str):decide ((Sum.inr a:Key)=Sum.inr b)=decide (a=b):=by
 by_cases e:a=b
 ·subst e;simp
 ·have h:¬(Sum.inr a:Key)=Sum.inr b:=λq=>e (Sum.inr.inj q)
  rw[decide_eq_false h,decide_eq_false e]
theorem Qc4(a:Int)(b:Str):decide ((Sum.inl a:Key)=Sum.inr b)=false:=decide_eq_false (λq=>nomatch q)
theorem Qc5(a:Str)(b:Int):decide ((Sum.inr a:Key)=Sum.inl b)=false:=decide_eq_false (λq=>nomatch q)
def Mm(prog:Program)(w:World):PySem.KeyKind prog w Key where
 is:=Qbc
 hash:=Qii w
 inj:=λv a b ha hb=>by
  rcases Bj ha with⟨i,t,rfl,rfl⟩|⟨x,t,rfl,rfl⟩
  ·rcases Bj hb with⟨j,u,rfl,e⟩|⟨y,u,rfl,e⟩
   ·injection e with e1 _;rw[e1]
   ·exact nomatch e
  ·rcases Bj hb with⟨j,u,rfl,e⟩|⟨y,u,rfl,e⟩
   ·exact nomatch e
   ·injection e with e1 _;rw[e1]
 byValue:=λk v h=>by
  rcases Bj h with⟨i,t,rfl,rfl⟩|⟨x,t,rfl,rfl⟩<;>rfl
 pyHash:=λhv h=>by
  rcases Bj hv with⟨i,t,rfl,rfl⟩|⟨x,t,rfl,rfl⟩
  ·exact wpAny_pyHash_int h
  ·exact wpAny_pyHash_str h
 eqBool:=λhu hv h=>by
  rcases Bj hu with⟨i,t,rfl,rfl⟩|⟨x,t,rfl,rfl⟩
  ·rcases Bj hv with⟨j,u,rfl,rfl⟩|⟨y,u,rfl,rfl⟩
   ·rw[Qc2] at h;exact wpAny_eqBool_int h
   ·rw[Qc4] at h;exact SeqAt.EqAt.int_str i t y u _ _ _ _ h
  ·rcases Bj hv with⟨j,u,rfl,rfl⟩|⟨y,u,rfl,rfl⟩
   ·rw[Qc5] at h;exact SeqAt.EqAt.str_int x t j u _ _ _ _ h
   ·rw[Qc3] at h;exact wpAny_eqBool_str h
 «strs»:=λk x t v h=>by
  rcases Bj h with⟨i,u,rfl,e⟩|⟨y,u,rfl,e⟩
  ·exact nomatch e
  ·injection e with e1 _
   subst e1;cases v<;>rfl
inductive V where
 |non|bl (b:Bool)|int (i:Int)|str (x:Str)|byt (b:Array UInt8)|flt (b:UInt64)|ref (a:Addr)|ty (n:String)
 deriving DecidableEq
def An:V->Value->Prop
 |.non,u=>u=Value.none
 |.bl b,u=>u=Value.bool b
 |.int i,u=>∃t,u=Value.int i t
 |.str x,u=>∃t,u=Value.str x t
 |.byt b,u=>∃t,u=Value.bytes b t
 |.flt b,u=>∃t,u=Value.float b t
 |.ref a,u=>u=Value.ref a
 |.ty n,u=>u=Value.type n
abbrev Ab:List V->List Value->Prop:=Paired An
theorem Ab.length{xs:List V}{us:List Value}(r:Ab xs us):xs.length=us.length:=Paired.length r
theorem Ab.get:∀{xs:List V} {us:List Value} {i:Nat} {x:V},Ab xs us->xs[i]?=some x->∃u,us[i]?=some u/\An x u
 |_,_,_,_,.nil,e=>by simp at e
 |_,_,0,_,.cons r _,e=>by simp at e;subst e;exact⟨_,rfl,r⟩
 |_,_,i+1,x,.cons _ t,e=>by
  obtain⟨u,h1,h2⟩:=Ab.get (i:=i) (x:=x) t (by simpa using e)
  exact⟨u,by simpa using h1,h2⟩
theorem Ab.set{x:V}{u:Value}(r:An x u):∀{xs:List V} {us:List Value} (i:Nat),Ab xs us->Ab (xs.set i x) (us.set i u)
 |_,_,_,.nil=>.nil
 |_,_,0,.cons _ t=>.cons r t
 |_,_,i+1,.cons q t=>.cons q (Ab.set r i t)
theorem Ab.append:∀{xs ys:List V} {us ws:List Value},Ab xs us->Ab ys ws->Ab (xs++ys) (us++ws)
 |_,_,_,_,.nil,s=>s
 |_,_,_,_,.cons r t,s=>.cons r (Ab.append t s)
theorem Ab.take:∀{xs:List V} {us:List Value} (n:Nat),Ab xs us->Ab (xs.take n) (us.take n)
 |_,_,0,_=>.nil
 |_,_,_+1,.nil=>.nil
 |_,_,n+1,.cons r t=>.cons r (Ab.take n t)
theorem Ab.drop:∀{xs:List V} {us:List Value} (n:Nat),Ab xs us->Ab (xs.drop n) (us.drop n)
 |_,_,0,r=>r
 |_,_,_+1,.nil=>.nil
 |_,_,n+1,.cons _ t=>Ab.drop n t
def Qf9:Option V->Option Value->Prop
 |some v,some u=>An v u
 |none,none=>True
 |_,_=>False
def KV{κ:Type}:List (κ×V)->List (κ×Value)->Prop:=Paired λ(p:κ×V) (q:κ×Value)=>p.1=q.1/\An p.2 q.2
def kV:Key->V
 |.inl i=>.int i
 |.inr x=>.str x
inductive HO where
 /-- a list -/
 |lst (xs:List V)
 /-- a tuple (never changes) -/
 |tup (xs:List V)
 /-- a dict whose keys are ints and texts;one whose keys are tuples of ints and texts (the empty one is both) -/
 |dK (kvs:List (Key×V))|dT (kvs:List (List Key×V))
 /-- a set of ints: its members,its size -/
 |set (S:Int->Bool) (n:Nat)
 /-- an instance of the class at C,its dict at dx,its attributes -/
 |ins (C dx:Addr) (fs:List (Str×V))
 /-- the dict of the instance at x -/
 |own (x:Addr)
 /-- the dict of an exception -/
 |xd (fs:List (Str×V))
 /-- a bound method,f of x -/
 |met (f x:Addr)
 /-- a range object lo,lo+1,.. below hi -/
 |rng (lo hi:Int)
 /-- a thing that is known to the object (the script;a dict while a loop walks it): read,never written while it is so -/
 |frz (o:Obj) (u:HO)
 /-- a code object's table -/
 |tbl (ps:Array Value)
 /-- any other thing,by what is true of its one object (a def of one's own: SetO a S n:=HO.ext λh=>..) -/
 |ext (φ:Heap->Prop)
abbrev Hp:=Addr->Option HO
def upd(H:Hp)(a:Addr)(o:HO):Hp:=λb=>if b=a then some o else H b
theorem Az{H:Hp}{a:Addr}{o:HO}:upd H a o a=some o:=by unfold upd;rw[if_pos rfl]
theorem A7{H:Hp}{a b:Addr}{o:HO}(h:b≠a):upd H a o b=H b:=by unfold upd;rw[if_neg h]
theorem A8{H:Hp}{a b:Addr}{o:HO}(h:H a=some o)(h':H b=none):a≠b:=by
 intro e;subst e;rw[h] at h';cases h'
section
variable(P:Program)(w:World)
def C6(H:Hp)(h:Heap)(a:Addr):HO->Prop
 |.lst xs=>xs.length<=sizeLine/\∃(its:List Value) (n:Nat),Ab xs its/\h.get? a=some { cls:=.type "list",data:=.seq its.toArray n }
 |.tup xs=>xs.length<=sizeLine/\(∃its:List Value,Ab xs its/\IsTup h a its.toArray)/\∀o,h.get? a=some o->o.dict=none
 |.dK kvs=>kvs.length<=sizeLine/\(a==sysModules)=false/\∃vs,KV kvs vs/\h.DictOf (Mm P w) a vs
 |.dT kvs=>kvs.length<=sizeLine/\(a==sysModules)=false/\∃xs:List (List Key×Addr×Value),
   Paired (λ(p:List Key×V) (q:List Key×Addr×Value)=>p.1=q.1/\H q.2.1=some (.tup (p.1.map kV))/\An p.2 q.2.2) kvs xs /\
   ∃o es ep,h.get? a=some o/\o.ExactDict/\o.data=.dict es ep/\es.toList=xs.map (entryOfKey (tupleKind (Mm P w)))/\(xs.map (·.1)).Nodup
 |.set S n=>h.SetOf (intKind P w) a S n
 |.ins C dx fs=>H dx=some (.own a)/\fs.length<=1000/\dx≠a/\h.get? a=some (PySem.W.instObj C dx) /\
   ∃mA,h.Ns1 dx mA/\(∀f,Qf9 (fs.lookup f) (mA f))/\PySem.Within mA (fs.map (·.1))
 |.own _=>∃o,h.get? a=some o
 |.xd fs=>∃mA,h.Ns1 a mA/\∀f,Qf9 (fs.lookup f) (mA f)
 |.rng lo hi=>∃t u v,h.get? a=some { cls:=.type "range",data:=.fields #[.int lo t,.int hi u,.int 1 v] }
 |.frz o u=>h.get? a=some o/\C6 H h a u
 |.tbl qs=>∃ps:Array Value,h.get? a=some { cls:=.none,data:=.fields ps }/\TriplesOk ps.toList/\∀pos cv,codeAmong pos ps.toList=some cv->∃c o vs q t t',cv=.ref c/\H c=some (.frz o (.own c))/\o.data=.fields vs/\vs[1]?=some (.str q t)/\qs[0]?=some (.str q t')
 |.met f x=>h.get? a=some (PySem.W.methodObj (.ref f) (.ref x))
 |.ext φ=>φ h/\(∃o,h.get? a=some o)/\∀h1 h2:Heap,φ h1->(∀o,h1.get? a=some o->h2.get? a=some o)->φ h2
def HOk(H:Hp)(h:Heap):Prop:=∀a o,H a=some o->C6 P w H h a o
end
section
variable{P:Program}{w:World}{H H':Hp}{h h':Heap}{a:Addr}{o:HO}
theorem C6.lt(x:C6 P w H h a o):a<h.objs.size:=by
 cases o with
 |lst xs=>obtain⟨_,_,_,_,e⟩:=x;exact Heap.lt_size e
 |tup xs=>obtain⟨_,⟨_,_,p⟩,_⟩:=x;exact p.lt
 |dK kvs=>obtain⟨_,_,_,_,o,_,_,e,_⟩:=x;exact Heap.lt_size e
 |dT kvs=>obtain⟨_,_,_,_,o,_,_,e,_⟩:=x;exact Heap.lt_size e
 |set S n=>obtain⟨o,_,_,_,e,_⟩:=x;exact Heap.lt_size e
 |ins C dx fs=>obtain⟨_,_,_,e,_⟩:=x;exact Heap.lt_size e
 |own y=>obtain⟨_,e⟩:=x;exact Heap.lt_size e
 |xd fs=>obtain⟨_,⟨_,_,_,e,_⟩,_⟩:=x;exact Heap.lt_size e
 |rng lo hi=>obtain⟨_,_,_,e⟩:=x;exact Heap.lt_size e
 |frz ob u=>obtain⟨e,_⟩:=x;exact Heap.lt_size e
 |tbl ps=>obtain⟨_,e,_⟩:=x;exact Heap.lt_size e
 |met f y=>exact Heap.lt_size (show h.get? a=some _ from x)
 |ext φ=>obtain⟨_,⟨_,e⟩,_⟩:=x;exact Heap.lt_size e
theorem Paired.mapP{α β:Type}{F G:α->β->Prop}:∀{l₁:List α} {l₂:List β},Paired F l₁ l₂->(∀a b,F a b->G a b)->Paired G l₁ l₂
 |_,_,.nil,_=>.nil
 |_,_,.cons r t,f=>.cons (f _ _ r) (Paired.mapP t f)
theorem C6.stay(x:C6 P w H h a o)(k:∀b u,(b=a\/H b=some (.own a))->h.get? b=some u->h'.get? b=some u)
  (ho:∀b,H b=some (.own a)->H' b=some (.own a)) (ht:∀b xs,H b=some (.tup xs)->H' b=some (.tup xs)) (hz:∀b o u,H b=some (.frz o u)->H' b=some (.frz o u)):C6 P w H' h' a o:=by
 induction o with
 |lst xs=>obtain⟨z,its,n,r,e⟩:=x;exact⟨z,its,n,r,k _ _ (.inl rfl) e⟩
 |tup xs=>obtain⟨z,⟨its,r,ob,e,c⟩,dd⟩:=x;exact⟨z,⟨its,r,ob,k _ _ (.inl rfl) e,c⟩,λo q=>by rw[k _ _ (.inl rfl) e] at q;cases q;exact dd _ e⟩
 |dK kvs=>obtain⟨z,y,vs,r,ob,es,ep,e,c⟩:=x;exact⟨z,y,vs,r,ob,es,ep,k _ _ (.inl rfl) e,c⟩
 |dT kvs=>
  obtain⟨z,y,xs,r,ob,es,ep,e,c⟩:=x;exact⟨z,y,xs,Paired.mapP r λp q z=>⟨z.1,ht _ _ z.2.1,z.2.2⟩,ob,es,ep,k _ _ (.inl rfl) e,c⟩
 |set S n=>obtain⟨ob,es,ep,t,e,c⟩:=x;exact⟨ob,es,ep,t,k _ _ (.inl rfl) e,c⟩
 |ins C dx fs=>
  obtain⟨d,z,ne,e,mA,⟨od,es,ep,e2,c⟩,r⟩:=x;exact⟨ho _ d,z,ne,k _ _ (.inl rfl) e,mA,⟨od,es,ep,k _ _ (.inr d) e2,c⟩,r⟩
 |own y=>obtain⟨ob,e⟩:=x;exact⟨ob,k _ _ (.inl rfl) e⟩
 |xd fs=>obtain⟨mA,⟨od,es,ep,e,c⟩,r⟩:=x;exact⟨mA,⟨od,es,ep,k _ _ (.inl rfl) e,c⟩,r⟩
 |rng lo hi=>obtain⟨t,u,v,e⟩:=x;exact⟨t,u,v,k _ _ (.inl rfl) e⟩
 |frz ob u ih=>obtain⟨e,q⟩:=x;exact⟨k _ _ (.inl rfl) e,ih q⟩
 |tbl ps=>
  obtain⟨qs,e,e1,e2⟩:=x;exact⟨qs,k a _ (.inl rfl) e,e1,λpos cv e3=>by
   obtain⟨c,o,vs,q,t,t',p1,p2,p3⟩:=e2 pos cv e3;exact⟨c,o,vs,q,t,t',p1,hz _ _ _ p2,p3⟩⟩
 |met f y=>
  have e:h.get? a=some (PySem.W.methodObj (.ref f) (.ref y)):=x
  show h'.get? a=some (PySem.W.methodObj (.ref f) (.ref y))
  exact k a _ (.inl rfl) e
 |ext φ=>obtain⟨p,⟨o,e⟩,st⟩:=x;exact⟨st _ _ p λo q=>k _ _ (.inl rfl) q,⟨o,k _ _ (.inl rfl) e⟩,st⟩
theorem HOk.lt(x:HOk P w H h)(e:H a=some o):a<h.objs.size:=(x a o e).lt
theorem HOk.fresh(x:HOk P w H h)(e:h.objs.size<=a):H a=none:=by
 cases q:H a with
 |none=>rfl
 |some u=>exact absurd (Nat.lt_of_lt_of_le (x.lt q) e) (Nat.lt_irrefl _)
theorem HOk.kept(x:HOk P w H h)(k:∀b u,h.get? b=some u->h'.get? b=some u):HOk P w H h':=λa o e=>
 (x a o e).stay (λb u _ q=>k b u q) (λ_ q=>q) (λ_ _ q=>q) λ_ _ _ q=>q
theorem HOk.laid(x:HOk P w H h)(k:∀b u,h.get? b=some u->h'.get? b=some u)(hp:h.objs.size<=a)(new:C6 P w (upd H a o) h' a o):HOk P w (upd H a o) h':=λb u e=>by
 have hn:=x.fresh hp;by_cases hb:b=a
 ·subst hb;rw[Az] at e;cases e;exact new
 ·rw[A7 hb] at e
  exact(x b u e).stay (λc v _ q=>k c v q) (λc q=>by rw[A7 (A8 q hn)];exact q) (λc xs q=>by rw[A7 (A8 q hn)];exact q) λc o u q=>by rw[A7 (A8 q hn)];exact q
end
def Rd(H:Hp)(a:Addr)(u:HO):Prop:=H a=some u\/∃o,H a=some (.frz o u)
theorem Rd.ok{P:Program}{w:World}{H:Hp}{h:Heap}{a:Addr}{u:HO}(r:Rd H a u)(x:HOk P w H h):C6 P w H h a u:=by
 rcases r with r|⟨o,r⟩
 ·exact x a u r
 ·obtain⟨_,q⟩:=x a _ r
  exact q
def Mut:Option HO->Prop
 |some (.lst _)=>True
 |some (.dK _)=>True
 |some (.dT _)=>True
 |some (.set _ _)=>True
 |some (.ins _ _ _)=>True
 |some (.ext _)=>True
 |_=>False
section
variable{P:Program}{w:World}{H:Hp}{h h':Heap}{x e:Addr}{o':HO}
theorem HOk.write(ok:HOk P w H h)(mu:Mut (H x))(he:e=x\/H e=some (.own x))(k:∀b u,b≠e->h.get? b=some u->h'.get? b=some u)(heo:∃u,h'.get? e=some u)
  (new:C6 P w (upd H x o') h' x o'):HOk P w (upd H x o') h':=λb u q=>by
 have nown:∀c y,H c=some (.own y)->c≠x:=λc y r z=>by subst z;rw[r] at mu;exact mu
 have ntup:∀c xs,H c=some (.tup xs)->c≠x:=λc xs r z=>by subst z;rw[r] at mu;exact mu
 by_cases hb:b=x
 ·subst hb;rw[Az] at q;cases q;exact new
 ·rw[A7 hb] at q
  by_cases hbe:b=e
  ·have q':H b=some (.own x):=by
    rcases he with z|z
    ·exact absurd (hbe.trans z) hb
    ·rw[hbe];exact z
   rw[q] at q';cases q';obtain⟨v,hv⟩:=heo;exact⟨v,by rw[hbe];exact hv⟩
  ·refine(ok b u q).stay (λc v hc r=>k c v ?_ r) (λc r=>by rw[A7 (nown c b r)];exact r) (λc xs r=>by rw[A7 (ntup c xs r)];exact r) λc oz uz r=>by rw[A7 (λz=>by subst z;rw[r] at mu;exact mu)];exact r
   rcases hc with rfl|hc
   ·exact hbe
   ·rintro rfl
    rcases he with z|z
    ·exact nown c b hc z
    ·rw[hc] at z;cases z;exact hb rfl
end
structure Un(fs ex:List Addr)(H H':Hp)(h h':Heap):Prop where
 keep:∀b o,h.get? b=some o->H b=none->b∉fs->b∉ex->h'.get? b=some o
 slot:∀b o,h.get? b=some o->H b=none->b∈fs->b∉ex->∃sl,h'.get? b=some { o with slots:=sl }
 free:∀b o,h.get? b=some o->H b=none->b∉ex->H' b=none
 there:∀b o,h.get? b=some o->b∉ex->∃o',h'.get? b=some o'
 tups:∀b xs,H b=some (.tup xs)->H' b=some (.tup xs)
 frzs:∀b o u,H b=some (.frz o u)->H' b=some (.frz o u)
 tbls:∀b ps,H b=some (.tbl ps)->∃more,H' b=some (.tbl (ps++more))
section
variable{fs fs' ex ex':List Addr}{H H1 H2:Hp}{h h1 h2 h':Heap}{a x e:Addr}{o:HO}
theorem Un.any(u:Un fs ex H H1 h h1){b:Addr}{ob:Obj}(q:h.get? b=some ob)(n:H b=none)(hx:b∉ex):∃sl,h1.get? b=some { ob with slots:=sl }:=by
 by_cases hb:b∈fs
 ·exact u.slot b ob q n hb hx
 ·exact⟨ob.slots,u.keep b ob q n hb hx⟩
theorem Un.trans(a:Un fs ex H H1 h h1)(b:Un fs ex H1 H2 h1 h2):Un fs ex H H2 h h2 where
 keep:=λc ob q n hc hx=>b.keep c ob (a.keep c ob q n hc hx) (a.free c ob q n hx) hc hx
 slot:=λc ob q n hc hx=>by
  obtain⟨sl,e1⟩:=a.slot c ob q n hc hx;obtain⟨sl',e2⟩:=b.slot c _ e1 (a.free c ob q n hx) hc hx;exact⟨sl',e2⟩
 free:=λc ob q n hx=>by
  obtain⟨o',e1⟩:=a.there c ob q hx;exact b.free c o' e1 (a.free c ob q n hx) hx
 there:=λc ob q hx=>by
  obtain⟨o',e1⟩:=a.there c ob q hx;exact b.there c o' e1 hx
 tups:=λc xs q=>b.tups c xs (a.tups c xs q)
 frzs:=λc ob xs q=>b.frzs c ob xs (a.frzs c ob xs q)
 tbls:=λc ps q=>by
  obtain⟨m1,e1⟩:=a.tbls c ps q;obtain⟨m2,e2⟩:=b.tbls c _ e1;exact⟨m1++m2,by rw[e2,Array.append_assoc]⟩
theorem Un.kept(k:∀b u,h.get? b=some u->h'.get? b=some u):Un fs ex H H h h':=
 ⟨λb ob q _ _ _=>k b ob q,λb ob q _ _ _=>⟨ob.slots,k b ob q⟩,λ_ _ _ n _=>n,λb ob q _=>⟨ob,k b ob q⟩,λ_ _ q=>q,λ_ _ _ q=>q,λ_ ps q=>⟨#[],by rw[q];simp⟩⟩
theorem Un.refl:Un fs ex H H h h:=Un.kept λ_ _ q=>q
theorem Un.laid(k:∀b u,h.get? b=some u->h'.get? b=some u)(hp:h.objs.size<=a)(hn:H a=none):Un fs ex H (upd H a o) h h' where
 keep:=λb u q _ _ _=>k b u q
 slot:=λb u q _ _ _=>⟨u.slots,k b u q⟩
 free:=λb u q n _=>by rw[A7 (Nat.ne_of_lt (Nat.lt_of_lt_of_le (Heap.lt_size q) hp))];exact n
 there:=λb u q _=>⟨u,k b u q⟩
 tups:=λb xs q=>by rw[A7 (A8 q hn)];exact q
 frzs:=λb u xs q=>by rw[A7 (A8 q hn)];exact q
 tbls:=λb ps q=>⟨#[],by rw[A7 (A8 q hn),q];simp⟩
theorem Un.write(mu:Mut (H x))(he:e=x\/H e=some (.own x))(k:∀b u,b≠e->h.get? b=some u->h'.get? b=some u)(heo:∃u,h'.get? e=some u):Un fs ex H (upd H x o) h h':=by
 have hx:∀b,H b=none->b≠x:=λb n z=>by subst z;rw[n] at mu;exact mu
 have hb:∀b,H b=none->b≠e:=λb n z=>by
  subst z;rcases he with r|r
  ·exact hx b n r
  ·rw[n] at r;cases r
 have hm:∀b u,H b=some u->¬Mut (some u)->b≠x:=λb u q nm z=>by subst z;rw[q] at mu;exact nm mu
 refine⟨λb u q n _ _=>k b u (hb b n) q,λb u q n _ _=>⟨u.slots,k b u (hb b n) q⟩,λb u q n _=>by rw[A7 (hx b n)];exact n,λb u q _=>?_,
  λb xs q=>by rw[A7 (hm b _ q λz=>z)];exact q,λb u xs q=>by rw[A7 (hm b _ q λz=>z)];exact q,λb ps q=>⟨#[],by rw[A7 (hm b _ q λz=>z),q];simp⟩⟩
 by_cases hbe:b=e
 ·subst hbe;exact heo
 ·exact⟨u,k b u hbe q⟩
end
def trk(h:Heap)(H:Hp):List Addr:=(List.range h.objs.size).filter λa=>(H a).isSome
def Mn(h:Heap)(H:Hp):Heap:=PySem.W.hideAll h (trk h H)
theorem Ss(h:Heap)(H:Hp):(Mn h H).objs.size=h.objs.size:=PySem.W.hideAll_size _ _
theorem Ud{h:Heap}{H:Hp}{b:Addr}{o:Obj}(e:h.get? b=some o)(n:H b=none):(Mn h H).get? b=some o:=
 PySem.W.hideAll_get _ e λhm=>by
  have q:(H b).isSome=true:=(List.mem_filter.mp hm).2;rw[n] at q;simp at q
theorem Y7{h:Heap}{H:Hp}{b:Addr}{o:Obj}(e:(Mn h H).get? b=some o):h.get? b=some o/\H b=none:=by
 have e':h.get? b=some o:=PySem.W.of_hideAll (trk h H) e;refine⟨e',?_⟩
 cases q:H b with
 |none=>rfl
 |some x=>
  have hm:b∈trk h H:=List.mem_filter.mpr ⟨List.mem_range.mpr (Heap.lt_size e'),by simp[q]⟩
  have z:(Mn h H).get? b=none:=PySem.W.hideAll_none (trk h H) hm;rw[z] at e;cases e
def J1(g h:Heap)(L:Addr):List (Addr×Obj):=(List.range h.objs.size).filterMap λa=>if a=L\/(g.get? a).isSome=true then none else (h.get? a).map λo=>(a,o)
theorem O2{g h:Heap}{L a:Addr}{o:Obj}(h1:a≠L)(h2:g.get? a=none)(h3:h.get? a=some o):(a,o)∈J1 g h L:=
 List.mem_filterMap.mpr ⟨a,List.mem_range.mpr (Heap.lt_size h3),by simp[h1,h2,h3]⟩
theorem Jn{g h:Heap}{L:Addr}{p:Addr×Obj}(hp:p∈J1 g h L):p.1≠L/\g.get? p.1=none/\h.get? p.1=some p.2:=by
 obtain⟨b,_,e⟩:=List.mem_filterMap.mp hp;split at e
 ·cases e
 ·rename_i hn
  cases q:h.get? b with
  |none=>rw[q] at e;simp at e
  |some u=>
   rw[q] at e;simp only[Option.map_some,Option.some.injEq] at e;subst e;refine⟨λz=>hn (.inl z),?_,q⟩
   show g.get? b=none
   cases r:g.get? b with
   |none=>rfl
   |some v=>exact(hn (.inr (by simp[r]))).elim
theorem Ue{g h:Heap}{L:Addr}:News g L h (J1 g h L):=λp hp=>let ⟨a,b,c⟩:=Jn hp;⟨c,a,b⟩
structure Mod(K:PySem.W.Frag)(mg:Str->Option Value)(base:Heap):Prop where
 kin:K.In base
 glob:base.Ns mainGlobals mg
 blt:∃mb,base.Ns builtinsNs mb/\∀x:Str,x ≠ "__name__" -> mb x=bootBuiltins x
 nolimit:base.NoLimit
structure Cx where
 prog:Program
 w:World
 K:PySem.W.Frag
 mg:Str->Option Value
 base:Heap
 A:Around
 N:List Str
 s₀:Shared
 H₀:Hp
 env:Env
 outer:List Env
 stack:List Env
 ex:List Addr
 fn:Str->Bool
 calm:Bool
 pn:List (Addr×Obj)
 xe:Value->Shared->Prop
def frs(l:List Env):List Addr:=l.filterMap (·.frame)
abbrev Cx.fs(X:Cx):List Addr:=frs X.outer
def Vis(sc:Scope)(x:Str):Prop:=sc.names.lookup x=some .local\/sc.names.lookup x=some .cell\/sc.names.lookup x=some .free
def Loc(sc:Scope)(x:Str):Prop:=sc.names.lookup x=some .local\/sc.names.lookup x=some .cell
def Qfa(env:Env)(h:Heap)(m:Str->Option Value)(x:Str)(u:Value):Prop:=
 (env.kindOf x=some .local/\m x=some u)\/((env.kindOf x=some .cell\/env.kindOf x=some .free)/\∃c,env.cells.lookup x=some c/\h.IsCell c (some u))
structure Cx.Ok(X:Cx):Prop where
 mod:Mod X.K X.mg X.base
 kind:X.env.scope.kind=.function
 glob:X.env.globals=mainGlobals
 blt:X.env.builtins=builtinsNs
 above:X.s₀.heap.objs.size<=X.env.locals
 inj:∀x y c,X.env.cells.lookup x=some c->X.env.cells.lookup y=some c->x=y
 has:∀x,(X.env.kindOf x=some .cell\/X.env.kindOf x=some .free)->∃c,X.env.cells.lookup x=some c
 cab:∀x c,X.fn x=true->X.env.cells.lookup x=some c->X.s₀.heap.objs.size<=c
 hd:X.calm=true->X.A.handled=none
 frames:X.A.frames=some X.stack
 stk:X.stack=X.outer\/(X.stack=X.env::X.outer/\X.env.frame=some X.env.locals)
 exf:∀b∈X.ex,b≠X.env.locals/\∀x c,X.env.cells.lookup x=some c->c≠b
 bs:∀b o,X.base.get? b=some o->X.s₀.heap.get? b=some o/\X.H₀ b=none
 bsz:X.base.objs.size<=X.s₀.heap.objs.size
 noex:∀b o,X.base.get? b=some o->b∉X.ex
 exfs:∀b∈X.ex,b∉X.fs
 funs:X.s₀.heap.FunFrames X.base X.outer
 frf:∀b∈X.fs,X.H₀ b=none
structure Inv(X:Cx)(pins:List (Addr×Obj))(σ:List (Option V))(H:Hp)(s:Shared):Prop where
 ok:X.Ok
 os:s.os=X.s₀.os
 bare:AllBare s.gens
 base:Un X.fs X.ex X.H₀ H X.s₀.heap s.heap
 loc:∃m,s.heap.Ns X.env.locals m/\∀(i:Nat) (x:Str) (v:V),X.N[i]?=some x->σ[i]?=some (some v)->Vis X.env.scope x->∃u,An v u/\Qfa X.env s.heap m x u
 cell:∀x c,X.env.cells.lookup x=some c->∃v,s.heap.IsCell c v
 free:H X.env.locals=none
 freeC:∀x c,X.env.cells.lookup x=some c->H c=none
 pin:∀p∈X.pn++pins,s.heap.get? p.1=some p.2/\H p.1=none/\p.1≠X.env.locals/\p.1∉X.fs/\∀v,p.2.data≠.cell v
 hok:HOk X.prog X.w H s.heap
 len:σ.length=X.N.length
section
variable{X:Cx}{pins:List (Addr×Obj)}{σ:List (Option V)}{H H':Hp}{s:Shared}{h':Heap}
theorem Cx.Ok.nofr(ok:X.Ok){b:Addr}{o:Obj}(e:X.base.get? b=some o):b∉X.fs:=λhb=>by
 have:=(ok.funs.mem hb).1;rw[e] at this;cases this
theorem Inv.bs(I:Inv X pins σ H s):∀b o,X.base.get? b=some o->s.heap.get? b=some o/\H b=none:=λb o e=>
 ⟨I.base.keep b o (I.ok.bs b o e).1 (I.ok.bs b o e).2 (I.ok.nofr e) (I.ok.noex b o e),I.base.free b o (I.ok.bs b o e).1 (I.ok.bs b o e).2 (I.ok.noex b o e)⟩
theorem Inv.bk(I:Inv X pins σ H s):∀b o,X.base.get? b=some o->s.heap.get? b=some o:=λb o e=>(I.bs b o e).1
theorem Inv.mod(I:Inv X pins σ H s):Mod X.K X.mg X.base:=I.ok.mod
theorem Inv.kIn(I:Inv X pins σ H s):X.K.In s.heap:=I.ok.mod.kin.keeps I.bk
theorem Inv.lt(I:Inv X pins σ H s):X.env.locals<s.heap.objs.size:=let ⟨_,hn,_⟩:=I.loc;hn.lt
theorem Inv.sz(I:Inv X pins σ H s):X.s₀.heap.objs.size<=s.heap.objs.size:=Nat.le_trans I.ok.above (Nat.le_of_lt I.lt)
theorem Inv.nofs(I:Inv X pins σ H s){a:Addr}(h:s.heap.objs.size<=a):a∉X.fs:=λhb=>by
 obtain⟨_,o,ho,_⟩:=I.ok.funs.mem hb;exact absurd (Nat.lt_of_lt_of_le (Heap.lt_size ho) (Nat.le_trans I.sz h)) (Nat.lt_irrefl _)
theorem Inv.cne(I:Inv X pins σ H s):∀x c,X.env.cells.lookup x=some c->c≠X.env.locals:=λx c e z=>by
 obtain⟨v,o,ho,hd⟩:=I.cell x c e;obtain⟨m,⟨o',es,ep,ho',hd',_⟩,_⟩:=I.loc;rw[z,ho'] at ho;cases ho;rw[hd'] at hd;cases hd
theorem Inv.funs(I:Inv X pins σ H s):s.heap.FunFrames X.base X.outer:=by
 have all:∀(l:List Env),(∀b∈frs l,b∈X.fs)->X.s₀.heap.FunFrames X.base l->s.heap.FunFrames X.base l:=by
  intro l
  induction l with
  |nil=>intro _ _;trivial
  |cons env r ih=>
   intro hs hl;obtain⟨hk,⟨L,o,hf,hn,ho,hd⟩,hr⟩:=hl;have hL:L∈X.fs:=hs L (by unfold frs;rw[List.filterMap_cons,hf];exact List.mem_cons_self)
   obtain⟨sl,e⟩:=I.base.slot L o ho (I.ok.frf L hL) hL λz=>I.ok.exfs L z hL
   exact⟨hk,⟨L,_,hf,hn,e,hd⟩,ih (λb hb=>hs b (by unfold frs;rw[List.filterMap_cons,hf];exact List.mem_cons_of_mem _ hb)) hr⟩
 exact all X.outer (λ_ hb=>hb) I.ok.funs
theorem Inv.stack(I:Inv X pins σ H s):s.heap.FunFrames X.base X.stack:=by
 rcases I.ok.stk with e|⟨e,hf⟩
 ·rw[e];exact I.funs
 ·rw[e]
  obtain⟨m,hn,_⟩:=I.loc;refine .cons (by rw[I.ok.kind];decide) hf hn ?_ I.funs
  exact Heap.get?_none_of_le (Nat.le_trans I.ok.bsz I.ok.above)
theorem Inv.stkSub(I:Inv X pins σ H s):∀b∈frs X.stack,b∈X.env.locals::X.fs:=λb hb=>by
 rcases I.ok.stk with e|⟨e,hf⟩
 ·rw[e] at hb;exact List.mem_cons_of_mem _ hb
 ·rw[e] at hb
  unfold frs at hb;rw[List.filterMap_cons,hf] at hb;exact hb
theorem Inv.stkFree(I:Inv X pins σ H s):∀b∈frs X.stack,H b=none:=λb hb=>by
 rcases List.mem_cons.mp (I.stkSub b hb) with e|hb
 ·rw[e];exact I.free
 ·obtain⟨_,o,ho,_⟩:=I.ok.funs.mem hb
  exact I.base.free b o ho (I.ok.frf b hb) λz=>I.ok.exfs b z hb
theorem Inv.step{g':Array GenState}{t':Nat}{d':Drawn}{ch:List Addr}(I:Inv X pins σ H s)
  (hch:∀b∈ch,(b∈X.ex\/X.s₀.heap.objs.size<=b)/\b≠X.env.locals/\(∀x c,X.env.cells.lookup x=some c->c≠b)/\∀p∈X.pn++pins,p.1≠b)
  (keep:∀b o,b≠X.env.locals->b∉X.fs->b∉ch->s.heap.get? b=some o->H b=none->h'.get? b=some o)
  (slot:∀b o,b≠X.env.locals->b∈X.fs->b∉ch->s.heap.get? b=some o->H b=none->∃sl,h'.get? b=some { o with slots:=sl }) (free:∀b o,b∉ch->s.heap.get? b=some o->H b=none->H' b=none)
  (there:∀b o,b∉ch->s.heap.get? b=some o->∃o',h'.get? b=some o')
  (tups:∀b xs,H b=some (.tup xs)->H' b=some (.tup xs)) (frzs:∀b o u,H b=some (.frz o u)->H' b=some (.frz o u)) (tbls:∀b ps,H b=some (.tbl ps)->∃more,H' b=some (.tbl (ps++more)))
  (ns:∀m,s.heap.Ns X.env.locals m->h'.Ns X.env.locals m) (hok:HOk X.prog X.w H' h') (hg:AllBare g') :
  Inv X pins σ H' { s with heap:=h',gens:=g',drawn:=d',toks:=t' }:=by
 have neL:∀b o,X.s₀.heap.get? b=some o->b≠X.env.locals:=λb o e=>Nat.ne_of_lt (Nat.lt_of_lt_of_le (Heap.lt_size e) I.ok.above)
 have neC:∀b o,X.s₀.heap.get? b=some o->b∉X.ex->b∉ch:=λb o e hx hb=>by
  rcases(hch b hb).1 with z|z
  ·exact hx z
  ·exact absurd (Nat.lt_of_lt_of_le (Heap.lt_size e) z) (Nat.lt_irrefl _)
 have cellK:∀x c,X.env.cells.lookup x=some c->∀v,s.heap.IsCell c v->h'.IsCell c v:=λx c e v ⟨o,ho,hd⟩=>by
  have nch:c∉ch:=λz=>(hch c z).2.2.1 x c e rfl
  by_cases hc:c∈X.fs
  ·obtain⟨sl,q⟩:=slot c o (I.cne x c e) hc nch ho (I.freeC x c e)
   exact⟨_,q,hd⟩
  ·exact⟨o,keep c o (I.cne x c e) hc nch ho (I.freeC x c e),hd⟩
 refine⟨I.ok,I.os,hg,⟨λb o e n hb hx=>?_,λb o e n hb hx=>?_,λb o e n hx=>?_,λb o e hx=>?_,λb xs e=>tups b xs (I.base.tups b xs e),λb o xs e=>frzs b o xs (I.base.frzs b o xs e),λb ps e=>?_⟩,?_,λx c e=>?_,?_,λx c e=>?_,λp hp=>?_,hok,I.len⟩
 ·exact keep b o (neL b o e) hb (neC b o e hx) (I.base.keep b o e n hb hx) (I.base.free b o e n hx)
 ·obtain⟨sl,e1⟩:=I.base.slot b o e n hb hx
  obtain⟨sl',e2⟩:=slot b _ (neL b o e) hb (neC b o e hx) e1 (I.base.free b o e n hx);exact⟨sl',e2⟩
 ·obtain⟨o',e1⟩:=I.base.there b o e hx
  exact free b o' (neC b o e hx) e1 (I.base.free b o e n hx)
 ·obtain⟨o',e1⟩:=I.base.there b o e hx
  exact there b o' (neC b o e hx) e1
 ·obtain⟨m1,e1⟩:=I.base.tbls b ps e
  obtain⟨m2,e2⟩:=tbls b _ e1;exact⟨m1++m2,by rw[e2,Array.append_assoc]⟩
 ·obtain⟨m,hn,hl⟩:=I.loc
  refine⟨m,ns m hn,λi x v e1 e2 e3=>?_⟩
  obtain⟨u,r,l⟩:=hl i x v e1 e2 e3;refine⟨u,r,?_⟩;rcases l with l|⟨k,c,e,z⟩
  ·exact .inl l
  ·exact .inr ⟨k,c,e,cellK x c e _ z⟩
 ·obtain⟨v,z⟩:=I.cell x c e
  exact⟨v,cellK x c e v z⟩
 ·obtain⟨m,⟨o,_,_,ho,_⟩,_⟩:=I.loc
  exact free _ o (λz=>(hch _ z).2.1 rfl) ho I.free
 ·obtain⟨v,o,ho,hd⟩:=I.cell x c e
  exact free c o (λz=>(hch c z).2.2.1 x c e rfl) ho (I.freeC x c e)
 ·obtain⟨e,n,ne,nf,d⟩:=I.pin p hp
  have nch:p.1∉ch:=λz=>(hch p.1 z).2.2.2 p hp rfl
  exact⟨keep p.1 p.2 ne nf nch e n,free p.1 p.2 nch e n,ne,nf,d⟩
theorem Inv.un{t':Nat}(I:Inv X pins σ H s)(u:Un X.fs [] H H' s.heap h')(hok:HOk X.prog X.w H' h'):Inv X pins σ H' { s with heap:=h',toks:=t' }:=by
 obtain⟨m,⟨o,es,ep,ho,r⟩,_⟩:=id I.loc;obtain⟨sl,hL⟩:=u.any ho I.free (by simp)
 exact I.step (g':=s.gens) (d':=s.drawn) (ch:=[]) (λ_ z=>nomatch z) (λb o _ hb _ e n=>u.keep b o e n hb (by simp)) (λb o _ hb _ e n=>u.slot b o e n hb (by simp)) (λb o _ e n=>u.free b o e n (by simp)) (λb o _ e=>u.there b o e (by simp)) u.tups u.frzs u.tbls (λm' hm=>by
  obtain⟨o',es',ep',ho',r'⟩:=hm;rw[ho] at ho';cases ho';exact⟨_,es',ep',hL,r'⟩) hok I.bare
theorem Inv.call{g':Array GenState}{t':Nat}{d':Drawn}{ch:List Addr}(I:Inv X pins σ H s)(u:Un (frs X.stack) ch H H' s.heap h')(hok:HOk X.prog X.w H' h')(hg:AllBare g')
  (hch:∀b∈ch,(b∈X.ex\/X.s₀.heap.objs.size<=b)/\b≠X.env.locals/\(∀x c,X.env.cells.lookup x=some c->c≠b)/\∀p∈X.pn++pins,p.1≠b) :
  Inv X pins σ H' { s with heap:=h',gens:=g',drawn:=d',toks:=t' }:=by
 obtain⟨m,⟨o,es,ep,ho,r⟩,_⟩:=id I.loc;obtain⟨sl,hL⟩:=u.any ho I.free λz=>(hch _ z).2.1 rfl
 exact I.step (ch:=ch) hch (λb o hL hb hc e n=>u.keep b o e n (λz=>(List.mem_cons.mp (I.stkSub b z)).elim hL hb) hc) (λb o _ _ hc e n=>u.any e n hc) (λb o hc e n=>u.free b o e n hc) (λb o hc e=>u.there b o e hc) u.tups u.frzs u.tbls (λm' hm=>by
  obtain⟨o',es',ep',ho',r'⟩:=hm;rw[ho] at ho';cases ho';exact⟨_,es',ep',hL,r'⟩) hok hg
theorem Inv.turned{t':Nat}{it:Addr}(I:Inv X pins σ H s)(k:∀b o,b≠it->s.heap.get? b=some o->h'.get? b=some o)(hn:H it=none)(hL:it≠X.env.locals)
  (h1:it∈X.ex\/X.s₀.heap.objs.size<=it) (h2:∀x c,X.env.cells.lookup x=some c->c≠it) (h3:∀p∈X.pn++pins,p.1≠it):Inv X pins σ H { s with heap:=h',toks:=t' }:=by
 have nit:∀b u,H b=some u->b≠it:=λb u e z=>by rw[z,hn] at e;cases e
 refine I.step (g':=s.gens) (d':=s.drawn) (ch:=[it]) (λb hb=>?_) (λb o _ _ hc e _=>k b o (λz=>hc (by simp[z])) e) (λb o _ _ hc e _=>⟨o.slots,k b o (λz=>hc (by simp[z])) e⟩) (λ_ _ _ _ n=>n)
  (λb o hc e=>⟨o,k b o (λz=>hc (by simp[z])) e⟩) (λ_ _ e=>e) (λ_ _ _ e=>e) (λb ps e=>⟨#[],by rw[e];simp⟩) (λm hm=>?_) (λb u e=>?_) I.bare
 ·have e:b=it:=by simpa using hb
  subst e;exact⟨h1,hL,h2,h3⟩
 ·obtain⟨o,es,ep,ho,r⟩:=hm
  exact⟨o,es,ep,k _ o (Ne.symm hL) ho,r⟩
 ·refine(I.hok b u e).stay (λc v hc q=>k c v ?_ q) (λ_ q=>q) (λ_ _ q=>q) λ_ _ _ q=>q
  rcases hc with z|z
  ·rw[z];exact nit b u e
  ·exact nit c _ z
theorem Inv.tok(I:Inv X pins σ H s)(t:Nat):Inv X pins σ H { s with toks:=t }:=I.un (h':=s.heap) (t':=t) Un.refl I.hok
theorem Inv.kept{t':Nat}(I:Inv X pins σ H s)(k:∀b u,s.heap.get? b=some u->h'.get? b=some u):Inv X pins σ H { s with heap:=h',toks:=t' }:=I.un (Un.kept k) (I.hok.kept k)
theorem Inv.laid{a:Addr}{o:HO}{t':Nat}(I:Inv X pins σ H s)(k:∀b u,s.heap.get? b=some u->h'.get? b=some u)(hp:s.heap.objs.size<=a)(new:C6 X.prog X.w (upd H a o) h' a o) :
  Inv X pins σ (upd H a o) { s with heap:=h',toks:=t' }:=I.un (Un.laid k hp (I.hok.fresh hp)) (I.hok.laid k hp new)
theorem Inv.write{x e:Addr}{o:HO}{t':Nat}(I:Inv X pins σ H s)(mu:Mut (H x))(he:e=x\/H e=some (.own x))(k:∀b u,b≠e->s.heap.get? b=some u->h'.get? b=some u)(heo:∃u,h'.get? e=some u)
  (new:C6 X.prog X.w (upd H x o) h' x o):Inv X pins σ (upd H x o) { s with heap:=h',toks:=t' }:=I.un (Un.write mu he k heo) (I.hok.write mu he k heo new)
theorem Inv.pins_of{pins':List (Addr×Obj)}(I:Inv X pins σ H s)(h:∀p∈pins',s.heap.get? p.1=some p.2/\H p.1=none/\p.1≠X.env.locals/\p.1∉X.fs/\∀v,p.2.data≠.cell v):Inv X pins' σ H s:=
 ⟨I.ok,I.os,I.bare,I.base,I.loc,I.cell,I.free,I.freeC,λp hp=>(List.mem_append.mp hp).elim (λz=>I.pin p (List.mem_append_left _ z)) (h p),I.hok,I.len⟩
theorem O3{N:List Str}(hN:N.Nodup){i j:Nat}{x:Str}(a:N[i]?=some x)(b:N[j]?=some x):i=j:=by
 obtain⟨h1,e1⟩:=List.getElem?_eq_some_iff.mp a;obtain⟨h2,e2⟩:=List.getElem?_eq_some_iff.mp b;exact(List.getElem_inj hN).mp (e1.trans e2.symm)
theorem Lb{M:Model}{A:Around}{E:Value->Shared->Prop}{i:Nat}{x:Str}{v:V}{u:Value}{Q:Unit->Shared->Prop}(I:Inv X pins σ H s)(hN:X.N.Nodup)(hi:X.N[i]?=some x)(hx:Loc X.env.scope x)(r:An v u)
  (h:∀s',Inv X pins (σ.set i (some v)) H s'->(∃a,Heap.SameBut a s.heap s'.heap/\(a=X.env.locals\/X.env.cells.lookup x=some a))->Q () s') (hf:X.fn x=true\/X.env.scope.names.lookup x=some .local:=by first|exact .inl rfl|exact .inr rfl|assumption):wpAny M A (storeName X.env x u) Q E s:=by
 obtain⟨m,hn,hl⟩:=id I.loc;have hcls:(X.env.scope.kind==.class||(X.env.scope.kind==.module&&X.env.locals != X.env.globals))=false:=by rw[I.ok.kind];rfl
 have hiσ:i < σ.length:=by rw[I.len];exact(List.getElem?_eq_some_iff.mp hi).1
 have cne:=I.cne;have tracked:∀{a:Addr} {h':Heap},(∃o,s.heap.get? a=some o/\H a=none)->Heap.SameBut a s.heap h'->HOk X.prog X.w H h':=λ{a h'} ha hs b ob e=>by
  obtain⟨_,_,hfree⟩:=ha;refine(I.hok b ob e).stay (λc w' hc q=>(hs.2 c ?_).trans q) (λ_ q=>q) (λ_ _ q=>q) λ_ _ _ q=>q
  rintro rfl
  rcases hc with rfl|hc
  ·rw[hfree] at e;cases e
  ·rw[hfree] at hc;cases hc
 rcases hx with hk|hk
 ·refine wpAny_storeName_local hk hn (λh' hn' hs=>?_) hcls
  obtain⟨oL,_,_,hoL,_⟩:=id hn;refine h _ ⟨I.ok,I.os,I.bare,⟨λb o e n hb hx=>?_,λb o e n hb hx=>?_,I.base.free,λb o e hx=>?_,I.base.tups,I.base.frzs,I.base.tbls⟩,⟨_,hn',λj y v' e1 e2 e3=>?_⟩,λy c e=>?_,I.free,I.freeC,λp hp=>?_,tracked ⟨oL,hoL,I.free⟩ hs,by simpa using I.len⟩ ⟨_,hs,.inl rfl⟩
  ·exact(hs.2 b (Nat.ne_of_lt (Nat.lt_of_lt_of_le (Heap.lt_size e) I.ok.above))).trans (I.base.keep b o e n hb hx)
  ·obtain⟨sl,e1⟩:=I.base.slot b o e n hb hx
   exact⟨sl,(hs.2 b (Nat.ne_of_lt (Nat.lt_of_lt_of_le (Heap.lt_size e) I.ok.above))).trans e1⟩
  ·obtain⟨o',e1⟩:=I.base.there b o e hx
   exact⟨o',(hs.2 b (Nat.ne_of_lt (Nat.lt_of_lt_of_le (Heap.lt_size e) I.ok.above))).trans e1⟩
  ·by_cases hj:j=i
   ·subst hj
    rw[hi] at e1;cases e1;rw[List.getElem?_set_self hiσ] at e2;cases e2;exact⟨u,r,.inl ⟨hk,by simp⟩⟩
   ·rw[List.getElem?_set_ne (Ne.symm hj)] at e2
    obtain⟨u',r',q⟩:=hl j y v' e1 e2 e3;refine⟨u',r',?_⟩;rcases q with⟨k,e⟩|⟨k,c,e,z⟩
    ·refine .inl ⟨k,?_⟩
     have:y≠x:=λe=>hj (O3 hN e1 (e ▸ hi))
     simp[this,e]
    ·exact .inr ⟨k,c,e,z.sameBut hs (cne y c e)⟩
  ·obtain⟨w',z⟩:=I.cell y c e
   exact⟨w',z.sameBut hs (cne y c e)⟩
  ·obtain⟨e,n,ne,nf,d⟩:=I.pin p hp
   exact⟨(hs.2 p.1 ne).trans e,n,ne,nf,d⟩
 ·have hfn:X.fn x=true:=by
   rcases hf with z|z
   ·exact z
   ·rw[z] at hk;cases hk
  obtain⟨c,hc⟩:=I.ok.has x (.inl hk);obtain⟨w',z⟩:=I.cell x c hc;refine wpAny_storeName_cell I.ok.kind hk hc z (λh' hc' hs=>?_)
  obtain⟨oc,hoc,hocd⟩:=id z;refine h { s with heap:=h' } ⟨I.ok,I.os,I.bare,⟨λb o e n hb hx=>?_,λb o e n hb hx=>?_,I.base.free,λb o e hx=>?_,I.base.tups,I.base.frzs,I.base.tbls⟩,⟨m,hn.sameBut hs (Ne.symm (cne x c hc)),λj y v' e1 e2 e3=>?_⟩,λy c' e=>?_,I.free,I.freeC,λp hp=>?_,tracked ⟨oc,hoc,I.freeC x c hc⟩ hs,by simpa using I.len⟩ ⟨c,hs,.inr hc⟩
  ·exact(hs.2 b (Nat.ne_of_lt (Nat.lt_of_lt_of_le (Heap.lt_size e) (I.ok.cab x c hfn hc)))).trans (I.base.keep b o e n hb hx)
  ·obtain⟨sl,e1⟩:=I.base.slot b o e n hb hx
   exact⟨sl,(hs.2 b (Nat.ne_of_lt (Nat.lt_of_lt_of_le (Heap.lt_size e) (I.ok.cab x c hfn hc)))).trans e1⟩
  ·obtain⟨o',e1⟩:=I.base.there b o e hx
   exact⟨o',(hs.2 b (Nat.ne_of_lt (Nat.lt_of_lt_of_le (Heap.lt_size e) (I.ok.cab x c hfn hc)))).trans e1⟩
  ·by_cases hj:j=i
   ·subst hj
    rw[hi] at e1;cases e1;rw[List.getElem?_set_self hiσ] at e2;cases e2;exact⟨u,r,.inr ⟨.inl hk,c,hc,hc'⟩⟩
   ·rw[List.getElem?_set_ne (Ne.symm hj)] at e2
    obtain⟨u',r',q⟩:=hl j y v' e1 e2 e3;refine⟨u',r',?_⟩;rcases q with q|⟨k,c',e,z'⟩
    ·exact .inl q
    ·refine .inr ⟨k,c',e,z'.sameBut hs ?_⟩
     rintro rfl
     exact hj (O3 hN e1 (I.ok.inj _ _ _ e hc ▸ hi))
  ·by_cases hcc:c'=c
   ·subst hcc;exact⟨_,hc'⟩
   ·obtain⟨w2,z2⟩:=I.cell y c' e
    exact⟨w2,z2.sameBut hs hcc⟩
  ·obtain⟨e,n,ne,nf,d⟩:=I.pin p hp
   refine⟨(hs.2 p.1 ?_).trans e,n,ne,nf,d⟩;intro q;rw[q,hoc] at e;have q':oc=p.2:=Option.some.inj e;exact d w' (by rw[<-q'];exact hocd)
theorem Jo{M:Model}{A:Around}{E:Value->Shared->Prop}{i:Nat}{x:Str}{v:V}{u:Value}{Q:Unit->Shared->Prop}(I:Inv X pins σ H s)(hN:X.N.Nodup)(hi:X.N[i]?=some x)(hx:Loc X.env.scope x)(r:An v u)
  (h:∀s',Inv X pins (σ.set i (some v)) H s'->Q () s') (hf:X.fn x=true\/X.env.scope.names.lookup x=some .local:=by first|exact .inl rfl|exact .inr rfl|assumption):wpAny M A (storeName X.env x u) Q E s:=
 Lb I hN hi hx r (λs' I' _=>h s' I') hf
theorem Inv.call'{s':Shared}{ch:List Addr}(I:Inv X pins σ H s)(ho:s'.os=s.os)(u:Un (frs X.stack) ch H H' s.heap s'.heap)(hok:HOk X.prog X.w H' s'.heap)(hg:AllBare s'.gens)
  (hch:∀b∈ch,(b∈X.ex\/X.s₀.heap.objs.size<=b)/\b≠X.env.locals/\(∀x c,X.env.cells.lookup x=some c->c≠b)/\∀p∈X.pn++pins,p.1≠b):Inv X pins σ H' s':=by
 obtain⟨h',g',d',t',o'⟩:=s';have e:o'=s.os:=ho;subst e;exact I.call (g':=g') (t':=t') (d':=d') u hok hg hch
end
abbrev XK:=Value->Option Addr->Hp->Prop
abbrev St:=List (Option V)
abbrev VK:=V->Hp->Prop
abbrev TE:=St->Hp->VK->Prop
abbrev TT:=St->Hp->(Bool->Hp->Prop)->Prop
abbrev TA:=St->Hp->(List V->Hp->Prop)->Prop
structure Ends where
 nx:St->Hp->Prop
 rt:VK
 bk:St->Hp->Prop:=λ_ _=>False
 ct:St->Hp->Prop:=λ_ _=>False
abbrev TS:=Ends->St->Hp->Prop
def EP(X:Cx)(pins:List (Addr×Obj))(σ:St)(Q:VK)(u:Value)(s':Shared):Prop:=∃v H',Inv X pins σ H' s'/\An v u/\Q v H'
def TP(X:Cx)(pins:List (Addr×Obj))(σ:St)(Q:Bool->Hp->Prop)(b:Bool)(s':Shared):Prop:=∃H',Inv X pins σ H' s'/\Q b H'
def AP(X:Cx)(pins:List (Addr×Obj))(σ:St)(Q:List V->Hp->Prop)(us:List Value)(s':Shared):Prop:=∃vs H',Inv X pins σ H' s'/\Ab vs us/\Q vs H'
def SP(X:Cx)(pins:List (Addr×Obj))(D:Ends)(f:Flow)(s':Shared):Prop:=
 match f with
 |.next=>∃σ' H',Inv X pins σ' H' s'/\D.nx σ' H'
 |.brk=>∃σ' H',Inv X pins σ' H' s'/\D.bk σ' H'
 |.cont=>∃σ' H',Inv X pins σ' H' s'/\D.ct σ' H'
 |.ret u=>∃v σ' H',Inv X pins σ' H' s'/\An v u/\D.rt v H'
def PE(X:Cx)(e:Expr)(t:TE):Prop:=
 ∀(pins:List (Addr×Obj)) (s:Shared) (σ:St) (H:Hp) (Q:VK),Inv X pins σ H s->t σ H Q->wpAny (model X.prog X.w) X.A (eval e X.env) (EP X pins σ Q) X.xe s
def PT(X:Cx)(e:Expr)(t:TT):Prop:=
 ∀(pins:List (Addr×Obj)) (s:Shared) (σ:St) (H:Hp) (Q:Bool->Hp->Prop),Inv X pins σ H s->t σ H Q->wpAny (model X.prog X.w) X.A (isTrue e X.env (eval e X.env)) (TP X pins σ Q) X.xe s
def PW(X:Cx)(e:Expr)(t:TT):Prop:=
 ∀(whole:Sem Value) (pins:List (Addr×Obj)) (s:Shared) (σ:St) (H:Hp) (Q:Bool->Hp->Prop),Inv X pins σ H s->t σ H Q->wpAny (model X.prog X.w) X.A (isTrue e X.env whole) (TP X pins σ Q) X.xe s
theorem PW.pt{X:Cx}{e:Expr}{t:TT}(h:PW X e t):PT X e t:=h _
def PA(X:Cx)(es:List Expr)(t:TA):Prop:=
 ∀(pos:Pos) (pins:List (Addr×Obj)) (s:Shared) (σ:St) (H:Hp) (Q:List V->Hp->Prop),Inv X pins σ H s->t σ H Q->wpAny (model X.prog X.w) X.A (spliced (backTo pos (starEach es X.env))) (AP X pins σ Q) X.xe s
def PS(X:Cx)(st:Stmt)(t:TS):Prop:=
 ∀(pins:List (Addr×Obj)) (s:Shared) (σ:St) (H:Hp) (D:Ends),Inv X pins σ H s->t D σ H->wpAny (model X.prog X.w) X.A (exec st X.env) (SP X pins D) X.xe s
def PSs(X:Cx)(st:List Stmt)(t:TS):Prop:=
 ∀(pins:List (Addr×Obj)) (s:Shared) (σ:St) (H:Hp) (D:Ends),Inv X pins σ H s->t D σ H->wpAny (model X.prog X.w) X.A (execs st X.env) (SP X pins D) X.xe s
theorem thn{α:Type}{t:Sem α}{Q Q':α->Shared->Prop}{M:Model}{A:Around}{E:Value->Shared->Prop}{s:Shared}(h:wpAny M A t Q E s)(hQ:∀a s,Q a s->Q' a s):wpAny M A t Q' E s:=wpAny_mono h hQ λ_ _ x=>x
section
variable{X:Cx}
def Uf(i:Nat):TE:=λσ H Q=>∃v,σ[i]?=some (some v)/\Q v H
def tC(v:V):TE:=λ_ H Q=>Q v H
theorem Jp{i:Nat}{x:Str}{pos:Pos}(hN:X.N[i]?=some x)(hv:Vis X.env.scope x)(hd:(x==("__debug__" : Str))=false:=by decide)(hcd:(x==("__classdict__" : Str))=false:=by decide):PE X (.Name x pos) (Uf i):=by
 intro pins s σ H Q I h;obtain⟨v,e,h⟩:=h;obtain⟨m,hn,hl⟩:=I.loc;obtain⟨u,r,l⟩:=hl i x v hN e hv;have fin:EP X pins σ Q u s:=⟨v,H,I,r,h⟩;rcases l with⟨hk,hm⟩|⟨hk,c,hc,hcell⟩
 ·exact wpAny_Name (wpAny_loadName_local I.ok.kind hk hn hm fin) hd
 ·rcases hk with hk|hk
  ·exact wpAny_Name (wpAny_loadName_cell I.ok.kind hk hc hcell fin) hd
  ·exact wpAny_Name (wpAny_loadName_free I.ok.kind hk hc hcell fin hcd) hd
theorem Ug{i j pos}:PE X (.Constant (.int i) j pos) (tC (.int i)):=λ_ _ _ H _ I h=>wpAny_Constant_int ⟨.int i,H,I.tok _,⟨_,rfl⟩,h⟩
theorem Qfb{b j pos}:PE X (.Constant (.bool b) j pos) (tC (.bl b)):=λ_ _ _ H _ I h=>Constant_bool ⟨.bl b,H,I,rfl,h⟩
theorem Qc6{j pos}:PE X (.Constant .none j pos) (tC .non):=λ_ _ _ H _ I h=>Constant_none ⟨.non,H,I,rfl,h⟩
theorem Ps{x j pos}:PE X (.Constant (.str x) j pos) (tC (.str x)):=λ_ _ _ H _ I h=>Calls.Constant_str ⟨.str x,H,I.tok _,⟨_,rfl⟩,h⟩
def Gl(X:Cx)(x:Str):Prop:=X.env.kindOf x=some .globalImplicit
theorem D8{E:Value->Shared->Prop}{pins:List (Addr×Obj)}{s:Shared}{σ:St}{H:Hp}{x:Str}{u:Value}{pos:Pos}{Q:Value->Shared->Prop}(I:Inv X pins σ H s)(hg:Gl X x)(hm:X.mg x=some u)(h:Q u s)
  (hd:(x==("__debug__" : Str))=false:=by decide):wpAny (model X.prog X.w) X.A (eval (.Name x pos) X.env) Q E s:=
 Calls.Name_function_global I.ok.kind hg (Calls.loadGlobal_global (by rw[I.ok.glob];exact I.mod.glob.keeps I.bk) hm h) hd
theorem Dh{E:Value->Shared->Prop}{pins:List (Addr×Obj)}{s:Shared}{σ:St}{H:Hp}{x:Str}{u:Value}{pos:Pos}{Q:Value->Shared->Prop}(I:Inv X pins σ H s)(hg:Gl X x)(hm:X.mg x=none)(hv:bootBuiltins x=some u)(h:Q u s)
  (hn:x ≠ "__name__":=by decide) (hd:(x==("__debug__" : Str))=false:=by decide):wpAny (model X.prog X.w) X.A (eval (.Name x pos) X.env) Q E s:=by
 obtain⟨mb,h1,h2⟩:=I.mod.blt;exact Calls.Name_function_global I.ok.kind hg (Calls.loadGlobal_builtin (by rw[I.ok.glob];exact I.mod.glob.keeps I.bk) hm (by rw[I.ok.blt];exact h1.keeps I.bk) ((h2 x hn).trans hv) h) hd
theorem R0{x:Str}{v:V}{u:Value}{pos:Pos}(hg:Gl X x)(hm:X.mg x=some u)(r:An v u)(hd:(x==("__debug__" : Str))=false:=by decide):PE X (.Name x pos) (tC v):=
 λ_ _ _ H _ I h=>D8 I hg hm ⟨v,H,I,r,h⟩ hd
theorem R3{x:Str}{v:V}{u:Value}{pos:Pos}(hg:Gl X x)(hm:X.mg x=none)(hv:bootBuiltins x=some u)(r:An v u)(hn:x ≠ "__name__":=by decide)(hd:(x==("__debug__" : Str))=false:=by decide):PE X (.Name x pos) (tC v):=
 λ_ _ _ H _ I h=>Dh I hg hm hv ⟨v,H,I,r,h⟩ hn hd
variable{a b:Expr}{ta tb:TE}{pos:Pos}
def PC(X:Cx)(op:CmpOp)(a b:Expr)(t:TE):Prop:=
 ∀(pins:List (Addr×Obj)) (s:Shared) (σ:St) (H:Hp) (Q:VK),Inv X pins σ H s->t σ H Q ->
  wpAny (model X.prog X.w) X.A (eval a X.env) (λv s₁=>wpAny (model X.prog X.w) X.A (eval b X.env) (λu s₂=>wpAny (model X.prog X.w) X.A (compareOp op v u) (EP X pins σ Q) X.xe s₂) X.xe s₁) X.xe s
theorem O4(b:Expr){op:CmpOp}(h:op≠.In)(h2:op≠.NotIn):behindInMarks op b=false:=by
 have e1:(op==CmpOp.In)=false:=by cases op<;>first|rfl|exact absurd rfl h
 have e2:(op==CmpOp.NotIn)=false:=by cases op<;>first|rfl|exact absurd rfl h2
 cases b<;>simp[behindInMarks,e1,e2]
def Qij(ta:TE):TE:=λσ H Q=>ta σ H λx H1=>Q (.bl (decide (x=.non))) H1
def Qfc(ta:TE):TE:=λσ H Q=>ta σ H λx H1=>Q (.bl (!decide (x=.non))) H1
theorem An.none_iff{x:V}{v:Value}(r:An x v):(v==Value.none)=decide (x=.non):=by
 cases x with
 |non=>cases r;rfl
 |bl _=>cases r;rfl
 |int _=>obtain⟨t,rfl⟩:=r;rfl
 |str _=>obtain⟨t,rfl⟩:=r;rfl
 |byt _=>obtain⟨t,rfl⟩:=r;rfl
 |flt _=>obtain⟨t,rfl⟩:=r;rfl
 |ref _=>cases r;rfl
 |ty _=>cases r;rfl
theorem Uh{j pos'}(ha:PE X a ta):PC X .Is a (.Constant .none j pos') (Qij ta):=by
 intro pins s σ H Q I h;refine thn (ha pins s σ H _ I h) λv s1 ⟨x,H1,I1,r1,q1⟩=>?_
 exact Constant_none (is_none_gen ⟨.bl _,H1,I1,by rw[r1.none_iff];rfl,q1⟩)
theorem R4{j pos'}(ha:PE X a ta):PC X .IsNot a (.Constant .none j pos') (Qfc ta):=by
 intro pins s σ H Q I h;refine thn (ha pins s σ H _ I h) λv s1 ⟨x,H1,I1,r1,q1⟩=>?_
 exact Constant_none (isnot_none_gen ⟨.bl _,H1,I1,by rw[r1.none_iff];rfl,q1⟩)
def tB(t:TE):TT:=λσ H Q=>t σ H λx H1=>∃c,x=.bl c/\Q c H1
theorem Ui{op:CmpOp}{t:TE}(h:PC X op a b t)(h1:behindInMarks op b=false:=by first|exact O4 _ (by decide) (by decide)|rfl):PE X (.Compare a [op] [b] pos) t:=λpins s σ H Q I hw=>wpAny_Compare1 (h pins s σ H Q I hw) h1
theorem Uj{op:CmpOp}{t:TE}(h:PC X op a b t)(h1:behindInMarks op b=false:=by first|exact O4 _ (by decide) (by decide)|rfl):PT X (.Compare a [op] [b] pos) (tB t):=by
 intro pins s σ H Q I hw;refine wpAny_isTrue_Compare1 (thn (h pins s σ H _ I hw) λv s1 h1=>thn h1 λu s2 h2=>thn h2 λc s3 ⟨x,H1,I1,r1,q1⟩=>?_) h1
 obtain⟨d,rfl,q⟩:=q1;cases r1;exact wpAny_truthy_bool ⟨H1,I1,q⟩
variable{tA tB':TT}{rest:List Expr}
def Qfd(t u:TT):TT:=λσ H Q=>t σ H λc H1=>if c=true then u σ H1 Q else Q false H1
def tOr(t u:TT):TT:=λσ H Q=>t σ H λc H1=>if c=true then Q true H1 else u σ H1 Q
def Qik(t:TT):TT:=λσ H Q=>t σ H λc H1=>Q (!c) H1
theorem Y8(ha:PT X a tA):PW X (.BoolOp .And [a] pos) tA:=by
 intro wh pins s σ H Q I h;refine isTrue_and (thn (ha pins s σ H Q I h) λc s1 e=>?_)
 cases c with
 |true=>exact isTrue_and_nil e
 |false=>exact e
theorem Qc7(ha:PT X a tA):PW X (.BoolOp .Or [a] pos) tA:=by
 intro wh pins s σ H Q I h;refine isTrue_or (thn (ha pins s σ H Q I h) λc s1 e=>?_)
 cases c with
 |false=>exact isTrue_or_nil e
 |true=>exact e
theorem Uk(ha:PT X a tA)(hb:PW X (.BoolOp .And (b::rest) pos) tB'):PW X (.BoolOp .And (a::b::rest) pos) (Qfd tA tB'):=by
 intro wh pins s σ H Q I h;refine isTrue_and (thn (ha pins s σ H _ I h) λc s1 ⟨H1,I1,q1⟩=>?_)
 cases c with
 |true=>exact hb wh pins s1 σ H1 Q I1 q1
 |false=>exact⟨H1,I1,q1⟩
theorem Qbd(ha:PT X a tA)(hb:PW X (.BoolOp .Or (b::rest) pos) tB'):PW X (.BoolOp .Or (a::b::rest) pos) (tOr tA tB'):=by
 intro wh pins s σ H Q I h;refine isTrue_or (thn (ha pins s σ H _ I h) λc s1 ⟨H1,I1,q1⟩=>?_)
 cases c with
 |true=>exact⟨H1,I1,q1⟩
 |false=>exact hb wh pins s1 σ H1 Q I1 q1
theorem Qc8(ha:PT X a tA):PT X (.UnaryOp .Not a pos) (Qik tA):=by
 intro pins s σ H Q I h;exact isTrue_not (ha pins s σ H (λc H1=>Q (!c) H1) I h)
def Qbe(ta tb:TE):TE:=λσ H Q=>ta σ H λx H1=>∃c,x=.bl c/\if c=true then tb σ H1 Q else Q (.bl false) H1
def Qfe(ta tb:TE):TE:=λσ H Q=>ta σ H λx H1=>∃c,x=.bl c/\if c=true then Q (.bl true) H1 else tb σ H1 Q
def Qff(ta:TE):TE:=λσ H Q=>ta σ H λx H1=>∃c,x=.bl c/\Q (.bl (!c)) H1
theorem Ul{op}{t:TE}(h:PE X a t):PE X (.BoolOp op [a] pos) t:=λpins s σ H Q I hw=>BoolOp_one (h pins s σ H Q I hw)
theorem Um(ha:PE X a ta)(hb:PE X (.BoolOp .And (b::rest) pos) tb):PE X (.BoolOp .And (a::b::rest) pos) (Qbe ta tb):=by
 intro pins s σ H Q I h;refine BoolOp_and (thn (ha pins s σ H _ I h) λv s1 ⟨x,H1,I1,r1,q1⟩=>?_)
 obtain⟨c,rfl,q1⟩:=q1;cases r1;refine wpAny_truthy_bool ?_
 cases c with
 |true=>exact hb pins s1 σ H1 Q I1 q1
 |false=>exact⟨.bl false,H1,I1,rfl,q1⟩
theorem Qbf(ha:PE X a ta)(hb:PE X (.BoolOp .Or (b::rest) pos) tb):PE X (.BoolOp .Or (a::b::rest) pos) (Qfe ta tb):=by
 intro pins s σ H Q I h;refine BoolOp_or (thn (ha pins s σ H _ I h) λv s1 ⟨x,H1,I1,r1,q1⟩=>?_)
 obtain⟨c,rfl,q1⟩:=q1;cases r1;refine wpAny_truthy_bool ?_
 cases c with
 |false=>exact hb pins s1 σ H1 Q I1 q1
 |true=>exact⟨.bl true,H1,I1,rfl,q1⟩
theorem Qc9(ha:PE X a ta):PE X (.UnaryOp .Not a pos) (Qff ta):=by
 intro pins s σ H Q I h;refine UnaryOp_ (thn (ha pins s σ H _ I h) λv s1 ⟨x,H1,I1,r1,q1⟩=>?_)
 obtain⟨c,rfl,q1⟩:=q1;cases r1;exact not_of (wpAny_truthy_bool ⟨.bl (!c),H1,I1,rfl,q1⟩)
def tIf(t:TT)(ta tb:TE):TE:=λσ H Q=>t σ H λc H1=>if c=true then ta σ H1 Q else tb σ H1 Q
theorem Uo{c:Expr}(hc:PT X c tA)(ha:PE X a ta)(hb:PE X b tb):PE X (.IfExp c a b pos) (tIf tA ta tb):=by
 intro pins s σ H Q I h;refine wpAny_IfExp (thn (hc pins s σ H _ I h) λd s1 ⟨H1,I1,q1⟩=>?_)
 cases d with
 |true=>exact ha pins s1 σ H1 Q I1 q1
 |false=>exact hb pins s1 σ H1 Q I1 q1
end
def SqL(K:PySem.W.Frag)(H:Hp)(a:Addr)(xs:List V):Prop:=
 Rd H a (.lst xs) \/
  ∃(o:Obj) (its:Array Value) (n:Nat),K.lookup a=some o/\o.cls=.type "list" /\ o.dict=none/\o.data=.seq its n/\its.size<=sizeLine/\Ab xs its.toList
def SqT(K:PySem.W.Frag)(H:Hp)(a:Addr)(xs:List V):Prop:=
 Rd H a (.tup xs) \/
  ∃(o:Obj) (its:Array Value) (n:Nat),K.lookup a=some o/\o.cls=.type "tuple" /\ o.data=.seq its n/\its.size<=sizeLine/\Ab xs its.toList/\o.dict=none
def Qil:Value->Option V
 |.none=>some .non
 |.bool b=>some (.bl b)
 |.int i _=>some (.int i)
 |.str x _=>some (.str x)
 |.bytes b _=>some (.byt b)
 |.float b _=>some (.flt b)
 |.ref a=>some (.ref a)
 |.type n=>some (.ty n)
 |_=>none
theorem An.abs{x:V}{u:Value}(r:An x u):Qil u=some x:=by
 cases x with
 |non=>cases r;rfl
 |bl _=>cases r;rfl
 |int _=>obtain⟨t,rfl⟩:=r;rfl
 |str _=>obtain⟨t,rfl⟩:=r;rfl
 |byt _=>obtain⟨t,rfl⟩:=r;rfl
 |flt _=>obtain⟨t,rfl⟩:=r;rfl
 |ref _=>cases r;rfl
 |ty _=>cases r;rfl
theorem An.inj{x y:V}{u:Value}(r:An x u)(q:An y u):x=y:=Option.some.inj (r.abs.symm.trans q.abs)
theorem Ab.inj:∀{xs ys:List V} {us:List Value},Ab xs us->Ab ys us->xs=ys
 |_,_,_,.nil,.nil=>rfl
 |_,_,_,.cons r t,.cons r' t'=>by rw[r.inj r',Ab.inj t t']
section
variable{X:Cx}{pins:List (Addr×Obj)}{σ:St}{H:Hp}{s:Shared}{a:Addr}{xs ys:List V}
theorem SqL.of{K:PySem.W.Frag}(h:H a=some (.lst xs)):SqL K H a xs:=.inl (.inl h)
theorem SqT.of{K:PySem.W.Frag}(h:H a=some (.tup xs)):SqT K H a xs:=.inl (.inl h)
theorem Inv.list(I:Inv X pins σ H s)(h:SqL X.K H a xs):∃its:List Value,Ab xs its/\PlainL s.heap a its.toArray/\xs.length<=sizeLine:=by
 rcases h with h|⟨o,its,n,hk,hc,hd,hs,hz,r⟩
 ·obtain⟨z,its,n,r,e⟩:=h.ok I.hok
  exact⟨its,r,⟨_,n,e,rfl,rfl,rfl⟩,z⟩
 ·refine⟨its.toList,r,⟨o,n,I.kIn a o hk,hc,hd,by simpa using hs⟩,?_⟩
  have e:=r.length;simp only[Array.length_toList] at e;omega
theorem Inv.tuple(I:Inv X pins σ H s)(h:SqT X.K H a xs):∃its:List Value,Ab xs its/\IsTup s.heap a its.toArray/\xs.length<=sizeLine:=by
 rcases h with h|⟨o,its,n,hk,hc,hs,hz,r,_⟩
 ·obtain⟨z,⟨its,r,p⟩,_⟩:=h.ok I.hok
  exact⟨its,r,p,z⟩
 ·refine⟨its.toList,r,⟨o,I.kIn a o hk,hc,n,by simpa using hs⟩,?_⟩
  have e:=r.length;simp only[Array.length_toList] at e;omega
theorem Inv.tupObj(I:Inv X pins σ H s)(h:SqT X.K H a xs):∃o,s.heap.get? a=some o/\o.cls=.type "tuple" /\ o.dict=none:=by
 rcases h with h|⟨o,its,n,hk,hc,hs,hz,r,hd⟩
 ·obtain⟨z,⟨its,r,o,e,c,_⟩,dd⟩:=h.ok I.hok
  exact⟨o,e,c,dd o e⟩
 ·exact⟨o,I.kIn a o hk,hc,hd⟩
theorem Inv.list_inj(I:Inv X pins σ H s)(h:SqL X.K H a xs)(h':SqL X.K H a ys):xs=ys:=by
 obtain⟨its,r,⟨o,n,e,_,_,d⟩,_⟩:=I.list h;obtain⟨its',r',⟨o',n',e',_,_,d'⟩,_⟩:=I.list h';rw[e] at e';cases e';rw[d] at d';injection d' with d1 _
 have:its=its':=by simpa using congrArg Array.toList d1
 subst this;exact r.inj r'
theorem Inv.tuple_inj(I:Inv X pins σ H s)(h:SqT X.K H a xs)(h':SqT X.K H a ys):xs=ys:=by
 obtain⟨its,r,⟨o,e,_,n,d⟩,_⟩:=I.tuple h;obtain⟨its',r',⟨o',e',_,n',d'⟩,_⟩:=I.tuple h';rw[e] at e';cases e';rw[d] at d';injection d' with d1 _
 have:its=its':=by simpa using congrArg Array.toList d1
 subst this;exact r.inj r'
end
abbrev Cx.wish(X:Cx)(E:Value->Shared->Prop):Cx:={ X with xe:=E }
abbrev Cx.nox(X:Cx):Cx:=X.wish λ_ _=>False
theorem Cx.Ok.wish{X:Cx}(ok:X.Ok)(E:Value->Shared->Prop):(X.wish E).Ok:=
 ⟨ok.mod,ok.kind,ok.glob,ok.blt,ok.above,ok.inj,ok.has,ok.cab,ok.hd,ok.frames,ok.stk,ok.exf,ok.bs,ok.bsz,ok.noex,ok.exfs,ok.funs,ok.frf⟩
theorem Cx.Ok.unwish{X:Cx}{E:Value->Shared->Prop}(ok:(X.wish E).Ok):X.Ok:=
 ⟨ok.mod,ok.kind,ok.glob,ok.blt,ok.above,ok.inj,ok.has,ok.cab,ok.hd,ok.frames,ok.stk,ok.exf,ok.bs,ok.bsz,ok.noex,ok.exfs,ok.funs,ok.frf⟩
section
variable{X:Cx}{pins:List (Addr×Obj)}{σ:St}{H:Hp}{s:Shared}{E:Value->Shared->Prop}
theorem Inv.wish(I:Inv X pins σ H s)(E:Value->Shared->Prop):Inv (X.wish E) pins σ H s:=⟨I.ok.wish E,I.os,I.bare,I.base,I.loc,I.cell,I.free,I.freeC,I.pin,I.hok,I.len⟩
theorem Inv.unwish(I:Inv (X.wish E) pins σ H s):Inv X pins σ H s:=⟨I.ok.unwish,I.os,I.bare,I.base,I.loc,I.cell,I.free,I.freeC,I.pin,I.hok,I.len⟩
theorem SP.unwish{D:Ends}{f:Flow}{s':Shared}(h:SP (X.wish E) pins D f s'):SP X pins D f s':=by
 cases f with
 |next=>obtain⟨σ',H',I,q⟩:=h;exact⟨σ',H',I.unwish,q⟩
 |brk=>obtain⟨σ',H',I,q⟩:=h;exact⟨σ',H',I.unwish,q⟩
 |cont=>obtain⟨σ',H',I,q⟩:=h;exact⟨σ',H',I.unwish,q⟩
 |ret u=>obtain⟨v,σ',H',I,r,q⟩:=h;exact⟨v,σ',H',I.unwish,r,q⟩
theorem PSs.nox{st:List Stmt}{t:TS}(h:PSs X.nox st t):PSs X st t:=λpins s σ H D I hw=>
 wpAny_mono (h pins s σ H D (I.wish _) hw) (λ_ _ q=>q.unwish) λ_ _ z=>False.elim z
end
section
variable{X:Cx}{st:Stmt}{rest:List Stmt}{t u:TS}{e:Expr}{te:TE}{pos:Pos}
def Qfg:TS:=λD σ H=>D.nx σ H
def Qim(t u:TS):TS:=λD σ H=>t { D with nx:=u D } σ H
theorem R5:PSs X [] Qfg:=λ_ _ σ H _ I h=>wpAny_execs_nil ⟨σ,H,I,h⟩
theorem Go(h1:PS X st t)(h2:PSs X rest u):PSs X (st::rest) (Qim t u):=by
 intro pins s σ H D I h;refine wpAny_execs_cons (thn (h1 pins s σ H { D with nx:=u D } I h) λf s1 q=>?_)
 cases f with
 |next=>
  obtain⟨σ',H',I',q⟩:=q;exact h2 pins s1 σ' H' D I' q
 |ret v=>exact q
 |brk=>exact q
 |cont=>exact q
theorem Y9(h1:PS X st t):PSs X [st] t:=by
 intro pins s σ H D I h;refine wpAny_execs_cons (thn (h1 pins s σ H D I h) λf s1 q=>?_)
 cases f with
 |next=>exact wpAny_execs_nil q
 |ret v=>exact q
 |brk=>exact q
 |cont=>exact q
theorem Inv.quiet{pins:List (Addr×Obj)}{σ:St}{H:Hp}{s:Shared}(I:Inv X pins σ H s):interactive X.env=false:=by simp[interactive,I.ok.kind]
def Qfh(te:TE):TS:=λD σ H=>te σ H λ_ H1=>D.nx σ H1
theorem Mo(he:PE X e te)(hs:swapsWith e none pos.line X.env=pure false:=by rfl):PS X (.Expr e pos) (Qfh te):=by
 intro pins s σ H D I h;exact wpAny_Expr_any (thn (he pins s σ H _ I h) λv s1 ⟨x,H1,I1,r1,q1⟩=>⟨σ,H1,I1,q1⟩) I.quiet hs
def Qin(te:TE):TS:=λD σ H=>te σ H D.rt
theorem Mp(he:PE X e te):PS X (.Return (some e) pos) (Qin te):=by
 intro pins s σ H D I h;exact wpAny_Return_some (thn (he pins s σ H _ I h) λv s1 ⟨x,H1,I1,r1,q1⟩=>⟨x,σ,H1,I1,r1,q1⟩)
def Qio(c:TT)(t u:TS):TS:=λD σ H=>c σ H λb H1=>if b=true then t D σ H1 else u D σ H1
theorem Qbg{c:Expr}{a b:List Stmt}{tc:TT}(hc:PT X c tc)(ha:PSs X a t)(hb:PSs X b u):PS X (.If c a b pos) (Qio tc t u):=by
 intro pins s σ H D I h;refine wpAny_If (thn (hc pins s σ H _ I h) λd s1 ⟨H1,I1,q1⟩=>?_)
 cases d with
 |true=>exact ha pins s1 σ H1 D I1 q1
 |false=>exact hb pins s1 σ H1 D I1 q1
def Qca:TS:=λ_ _ _=>False
theorem Lc{sts:List Stmt}:PSs X sts Qca:=λ_ _ _ _ _ _ h=>h.elim
end
abbrev TG:=V->St->Hp->(St->Hp->Prop)->Prop
abbrev TGs:=List V->St->Hp->(St->Hp->Prop)->Prop
def PG(X:Cx)(target:Expr)(t:TG):Prop:=
 ∀(pins:List (Addr×Obj)) (s:Shared) (σ:St) (H:Hp) (v:V) (u:Value) (Q:St->Hp->Prop),Inv X pins σ H s->An v u->t v σ H Q ->
  wpAny (model X.prog X.w) X.A (assign target X.env u) (λ_ s'=>∃σ' H',Inv X pins σ' H' s'/\Q σ' H') X.xe s
def PGs(X:Cx)(ts:List Expr)(t:TGs):Prop:=
 ∀(pins:List (Addr×Obj)) (s:Shared) (σ:St) (H:Hp) (vs:List V) (us:List Value) (Q:St->Hp->Prop),Inv X pins σ H s->Ab vs us->t vs σ H Q ->
  wpAny (model X.prog X.w) X.A (assignInOrder ((assignEach ts X.env).map (·.2)) us) (λ_ s'=>∃σ' H',Inv X pins σ' H' s'/\Q σ' H') X.xe s
abbrev Qcb:=V->V->V->Hp->(Hp->Prop)->Prop
def Qfi(X:Cx)(t:Qcb):Prop:=
 ∀(pins:List (Addr×Obj)) (s:Shared) (σ:St) (H:Hp) (o i v:V) (ov iv u:Value) (Q:Hp->Prop),Inv X pins σ H s->An o ov->An i iv->An v u->t o i v H Q ->
  wpAny (model X.prog X.w) X.A (setItem ov iv u) (λ_ s'=>∃H',Inv X pins σ H' s'/\Q H') X.xe s
section
variable{X:Cx}{pos:Pos}
def Up(i:Nat):TG:=λv σ H Q=>Q (σ.set i (some v)) H
theorem D9{i:Nat}{x:Str}(hN:X.N.Nodup)(hi:X.N[i]?=some x)(hx:Loc X.env.scope x)(hf:X.fn x=true\/X.env.scope.names.lookup x=some .local:=by first|exact .inl rfl|exact .inr rfl|assumption):PG X (.Name x pos) (Up i):=by
 intro pins s σ H v u Q I r h;exact wpAny_assign_Name (Jo I hN hi hx r (λs' I'=>⟨_,H,I',h⟩) hf)
def Qip:TGs:=λvs σ H Q=>vs=[]/\Q σ H
def R6(t:TG)(u:TGs):TGs:=λvs σ H Q=>∃v r,vs=v::r/\t v σ H λσ' H'=>u r σ' H' Q
theorem Mq:PGs X [] Qip:=by
 intro pins s σ H vs us Q I r h;obtain⟨e,h⟩:=h;subst e;cases r;exact assignInOrder_nil ⟨σ,H,I,h⟩
theorem Dm{e:Expr}{es:List Expr}{t:TG}{u:TGs}(h1:PG X e t)(h2:PGs X es u)
  (hs:(assignEach (e::es) X.env).map (·.2)=assign e X.env::(assignEach es X.env).map (·.2):=by rfl):PGs X (e::es) (R6 t u):=by
 intro pins s σ H vs us Q I r h;obtain⟨v,vr,e1,h⟩:=h;subst e1
 cases r with
 |cons r rr=>
  rw[hs];refine assignInOrder_cons (thn (h1 pins s σ H _ _ _ I r h) λ_ s1 ⟨σ1,H1,I1,q1⟩=>?_)
  exact h2 pins s1 σ1 H1 _ _ Q I1 rr q1
def Pu(K:PySem.W.Frag)(n:Nat)(t:TGs):TG:=λv σ H Q=>∃a xs,v=.ref a/\SqT K H a xs/\xs.length=n/\t xs σ H Q
theorem Pv{es:List Expr}{k:Nat}{t:TGs}{n:Nat}(hc:X.calm=true)(h:PGs X es t)
  (hn:(assignEach es X.env).length=n:=by rfl) (hst:(assignEach es X.env).findIdx? (·.1)=none:=by rfl):PG X (.Tuple es k pos) (Pu X.K n t):=by
 intro pins s σ H v u Q I r hw;obtain⟨a,xs,e1,hq,hl,hw⟩:=hw;subst e1;cases r;obtain⟨its,rv,ht,hz⟩:=I.tuple hq;refine assign_Tuple_tuple (I.ok.hd hc) ht (by simp[hn,<-hl,rv.length]) hst λh' hx=>?_
 have I1:Inv X pins σ H { s with heap:=h' }:=I.kept (t':=s.toks) λb o e=>hx b o (Nat.ne_of_lt (Heap.lt_size e)) e
 exact h pins _ σ H xs _ Q I1 (by simpa using rv) hw
def Ya(to ti:TE)(t:Qcb):TG:=λv σ H Q=>to σ H λo H1=>ti σ H1 λi H2=>t o i v H2 λH3=>Q σ H3
theorem Qcc{o i:Expr}{to ti:TE}{t:Qcb}(ho:PE X o to)(hi:PE X i ti)(hs:Qfi X t)
  (ha:∀v,assign (.Subscript o i pos) X.env v=(do
   let ov <-holding [v] (eval o X.env)
   let iv <-holding [v,ov] (eval i X.env)
   standAt pos
   holding [v,ov,iv] (setItem ov iv v)
   release [v,ov,iv] []):=by intro _;rfl):PG X (.Subscript o i pos) (Ya to ti t):=by
 intro pins s σ H v u Q I r h;rw[ha];refine wpAny_bind (wpAny_holding (thn (ho pins s σ H _ I h) λov s1 ⟨x,H1,I1,r1,q1⟩=>?_))
 refine wpAny_bind (wpAny_holding (thn (hi pins s1 σ H1 _ I1 q1) λiv s2 ⟨y,H2,I2,r2,q2⟩=>?_))
 refine wpAny_bind (wpAny_standAt (wpAny_bind (wpAny_holding (thn (hs pins s2 σ H2 x y v ov iv u _ I2 r1 r2 r q2) λ_ s3 ⟨H3,I3,q3⟩=>?_))))
 exact wpAny_release ⟨σ,H3,I3,q3⟩
def Qcd(te:TE)(g:TG):TS:=λD σ H=>te σ H λx H1=>g x σ H1 D.nx
theorem Qce{tg e:Expr}{te:TE}{g:TG}(he:PE X e te)(hg:PG X tg g)(hs:swapsWithSole [tg] e pos.line X.env=pure false:=by rfl)(hw:swappedStores [tg] e X.env=pure none:=by rfl)
  (h1:(assignEach [tg] X.env).map (·.2)=[assign tg X.env]:=by rfl):PS X (.Assign [tg] e pos) (Qcd te g):=by
 intro pins s σ H D I h;refine wpAny_Assign_stores (thn (he pins s σ H _ I h) λv s1 ⟨x,H1,I1,r1,q1⟩=>?_) hs hw
 rw[h1];exact thn (hg pins s1 σ H1 x v _ I1 r1 q1) λ_ s2 q=>q
theorem Uq{i:Nat}{x:Str}{e:Expr}{te:TE}{pos':Pos}(hN:X.N.Nodup)(hi:X.N[i]?=some x)(hx:Loc X.env.scope x)(he:PE X e te)(hs:swapsWith e (some (.Name x pos')) pos.line X.env=pure false:=by rfl)(hf:X.fn x=true\/X.env.scope.names.lookup x=some .local:=by first|exact .inl rfl|exact .inr rfl|assumption) :
  PS X (.Assign [.Name x pos'] e pos) (Qcd te (Up i)):=by
 intro pins s σ H D I h;refine wpAny_Assign_Name (thn (he pins s σ H _ I h) λv s1 ⟨y,H1,I1,r1,q1⟩=>?_) hs
 exact Jo I1 hN hi hx r1 (λs2 I2=>⟨_,H1,I2,q1⟩) hf
end
section
variable{X:Cx}{pos:Pos}
end
structure It where
 go:Nat->Hp->Prop
 yld:Nat->Hp->V->Hp->Prop
 stop:Nat->Hp->Prop
def Gp(X:Cx)(pins:List (Addr×Obj))(H:Hp)(b:Addr):Prop:=
 H b=none/\b≠X.env.locals/\b∉X.fs/\(b∈X.ex\/X.s₀.heap.objs.size<=b)/\(∀x c,X.env.cells.lookup x=some c->c≠b)/\∀p∈X.pn++pins,p.1≠b
theorem Inv.fpOk{X:Cx}{pins:List (Addr×Obj)}{σ:St}{H H':Hp}{s:Shared}{b:Addr}(I:Inv X pins σ H s)(hb:s.heap.objs.size<=b)(hn:H' b=none):Gp X pins H' b:=by
 refine⟨hn,Nat.ne_of_gt (Nat.lt_of_lt_of_le I.lt hb),I.nofs hb,.inr (Nat.le_trans I.sz hb),λx c e z=>?_,λp hp z=>?_⟩
 ·obtain⟨v,q⟩:=I.cell x c e
  exact absurd (Nat.lt_of_lt_of_le q.lt (by rw[z];exact hb)) (Nat.lt_irrefl _)
 ·exact absurd (Nat.lt_of_lt_of_le (Heap.lt_size (I.pin p hp).1) (by rw[z];exact hb)) (Nat.lt_irrefl _)
structure Turn(P:Program)(w:World)(K:PySem.W.Frag)(tg:Expr)(J:It)(fp:List Addr)(it:Addr)(tn:Nat->Heap->Prop):Prop where
 mem:it∈fp
 obj:∀i h,tn i h->∀b∈fp,∃o,h.get? b=some o/\∀v,o.data≠.cell v
 keep:∀i h h',tn i h->(∀b∈fp,∀o,h.get? b=some o->h'.get? b=some o)->tn i h'
 item:∀(X:Cx),X.prog=P->X.w=w->X.K=K->X.calm=true->∀(i:Nat) (pins:List (Addr×Obj)) (s:Shared) (σ:St) (H:Hp) (E:Value->Shared->Prop),Inv X pins σ H s->(∀b∈fp,Gp X pins H b)->tn i s.heap->J.go i H ->
  wpAny (model P w) X.A (pyNext (.ref it)) (λr s1=>∃u,r=some u /\
   wpAny (model P w) X.A (letOwnedTupleGo tg (.ref it) u) (λ_ s2=>∃x H',Inv X pins σ H' s2/\An x u/\J.yld i H x H'/\tn (i+1) s2.heap/\∀b∈fp,H' b=none) E s1) E s
 done:∀(X:Cx),X.prog=P->X.w=w->X.K=K->X.calm=true->∀(i:Nat) (pins:List (Addr×Obj)) (s:Shared) (σ:St) (H:Hp) (E:Value->Shared->Prop),Inv X pins σ H s->(∀b∈fp,Gp X pins H b)->tn i s.heap->J.stop i H ->
  wpAny (model P w) X.A (pyNext (.ref it)) (λr s1=>r=none/\Inv X pins σ H s1) E s
 self:∀(A:Around) (i:Nat) (s:Shared) (Q:Value->Shared->Prop) (E:Value->Shared->Prop),tn i s.heap->Q (.ref it) s->wpAny (model P w) A (pyIter (.ref it)) Q E s
abbrev TI:=St->Hp->(It->Hp->Prop)->Prop
def PIE(X:Cx)(pins:List (Addr×Obj))(σ:St)(tg:Expr)(R:It->Hp->Prop)(itv:Value)(s2:Shared):Prop:=
 ∃(it:Addr) (fp:List Addr) (tn:Nat->Heap->Prop) (J:It) (H':Hp),itv=.ref it/\Inv X pins σ H' s2/\Turn X.prog X.w X.K tg J fp it tn/\tn 0 s2.heap/\(∀b∈fp,Gp X pins H' b)/\R J H'
def PI(X:Cx)(tg iter:Expr)(wi:TI):Prop:=
 ∀(pins:List (Addr×Obj)) (s:Shared) (σ:St) (H:Hp) (R:It->Hp->Prop),Inv X pins σ H s->wi σ H R ->
  wpAny (model X.prog X.w) X.A (eval iter X.env) (λv s1=>wpAny (model X.prog X.w) X.A (pyIter v) (PIE X pins σ tg R) X.xe s1) X.xe s
theorem Ur{M:Model}{A:Around}{E:Value->Shared->Prop}{s:Shared}{tg:Expr}{it:Addr}{u:Value}{o:Obj}{n:String}{vs:Array Value}{Q:Unit->Shared->Prop}(ho:s.heap.get? it=some o)(hc:o.cls=.type n)(hd:o.data=.fields vs)
    (hn:["enumerate","zip","dict_itemiterator","dict_reverseitemiterator","odict_iterator","itertools.zip_longest","itertools.pairwise"].contains n=false) (hQ:Q () s):wpAny M A (letOwnedTupleGo tg (.ref it) u) Q E s:=by
  unfold letOwnedTupleGo;cases tg<;>first
    |exact wpAny_pure hQ
    | (cases u <;> first
        |exact wpAny_pure hQ
        | (refine wpAny_bind (wpAny_load ho ?_)
           rw[hc,hd]
           show wpAny M A (if (["enumerate","zip","dict_itemiterator","dict_reverseitemiterator","odict_iterator","itertools.zip_longest","itertools.pairwise"].contains n&&vs[0]?==some (rawInt _))=true then _ else _) Q E s
           rw[if_neg (by intro h;rw[hn,Bool.false_and] at h;cases h)]
           exact wpAny_pure hQ))
def Itl(K:PySem.W.Frag)(a:Addr):It:=
 ⟨λi H=>∃xs x,SqL K H a xs/\xs[i]?=some x,λi H x H'=>H'=H/\∀xs,SqL K H a xs->xs[i]?=some x,λi H=>∃xs,SqL K H a xs/\xs.length<=i⟩
def Itt(K:PySem.W.Frag)(a:Addr):It:=
 ⟨λi H=>∃xs x,SqT K H a xs/\xs[i]?=some x,λi H x H'=>H'=H/\∀xs,SqT K H a xs->xs[i]?=some x,λi H=>∃xs,SqT K H a xs/\xs.length<=i⟩
def Itr(lo:Int)(n:Nat):It:=⟨λi _=>i<n,λi H x H'=>H'=H/\x=.int (lo+i),λi _=>n<=i⟩
theorem Su{P:Program}{w:World}{K:PySem.W.Frag}{tg:Expr}(a it:Addr):Turn P w K tg (Itl K a) [it] it (λi h=>h.IsListIter it a i) where
 mem:=by simp
 obj:=λi h st b hb=>by
  have e:b=it:=by simpa using hb
  subst e;obtain⟨o,e,c,d⟩:=st;exact⟨o,e,λv z=>by rw[d] at z;cases z⟩
 keep:=λi h h' st k=>st.at λo e=>k it (by simp) o e
 item:=by
  intro X hP hw hK hc i pins s σ H E I hf st hg;subst hP hw hK;obtain⟨xs,x,hq,hx⟩:=hg;obtain⟨its,rv,p,hz⟩:=I.list hq;obtain⟨u,hu,ru⟩:=rv.get hx;obtain⟨f0,f1,f2,f3,f4,f5⟩:=hf it (by simp)
  refine wpAny_pyNext_list_item st p.isList (x:=u) (by simpa using hu) λh' st' sb=>?_
  have I1:Inv X pins σ H { s with heap:=h' }:=I.turned (t':=s.toks) (λb o hb e=>(sb.2 b hb).trans e) f0 f1 f3 f4 f5
  obtain⟨o,e,c,d⟩:=id st';exact⟨u,rfl,Ur (s:={ s with heap:=h' }) e c d (by decide) ⟨x,H,I1,ru,⟨rfl,λys hy=>by rw[I.list_inj hy hq];exact hx⟩,st',λb hb=>(hf b hb).1⟩⟩
 done:=by
  intro X hP hw hK hc i pins s σ H E I hf st hg;subst hP hw hK;obtain⟨xs,hq,hx⟩:=hg;obtain⟨its,rv,p,hz⟩:=I.list hq;obtain⟨f0,f1,f2,f3,f4,f5⟩:=hf it (by simp)
  have hl:=rv.length;exact wpAny_pyNext_list_end (I.ok.hd hc) st p.isList (by simp;omega) λh' eb=>⟨rfl,I.turned (t':=s.toks) (λb o hb e=>eb b o hb e) f0 f1 f3 f4 f5⟩
 self:=λ_ _ _ _ _ st h=>wpAny_pyIter_listiter st h
theorem Px{P:Program}{w:World}{K:PySem.W.Frag}{tg:Expr}(a it:Addr):Turn P w K tg (Itt K a) [it] it (λi h=>h.IsTupleIter it a i) where
 mem:=by simp
 obj:=λi h st b hb=>by
  have e:b=it:=by simpa using hb
  subst e;obtain⟨o,e,c,d⟩:=st;exact⟨o,e,λv z=>by rw[d] at z;cases z⟩
 keep:=λi h h' st k=>st.at λo e=>k it (by simp) o e
 item:=by
  intro X hP hw hK hc i pins s σ H E I hf st hg;subst hP hw hK;obtain⟨xs,x,hq,hx⟩:=hg;obtain⟨its,rv,p,hz⟩:=I.tuple hq;obtain⟨u,hu,ru⟩:=rv.get hx;obtain⟨f0,f1,f2,f3,f4,f5⟩:=hf it (by simp)
  refine wpAny_pyNext_tuple_item st (show s.heap.IsTuple a its.toArray from p) (x:=u) (by simpa using hu) λh' st' sb=>?_
  have I1:Inv X pins σ H { s with heap:=h' }:=I.turned (t':=s.toks) (λb o hb e=>(sb.2 b hb).trans e) f0 f1 f3 f4 f5
  obtain⟨o,e,c,d⟩:=id st';exact⟨u,rfl,Ur (s:={ s with heap:=h' }) e c d (by decide) ⟨x,H,I1,ru,⟨rfl,λys hy=>by rw[I.tuple_inj hy hq];exact hx⟩,st',λb hb=>(hf b hb).1⟩⟩
 done:=by
  intro X hP hw hK hc i pins s σ H E I hf st hg;subst hP hw hK;obtain⟨xs,hq,hx⟩:=hg;obtain⟨its,rv,p,hz⟩:=I.tuple hq;obtain⟨f0,f1,f2,f3,f4,f5⟩:=hf it (by simp)
  have hl:=rv.length;exact wpAny_pyNext_tuple_end (I.ok.hd hc) st (show s.heap.IsTuple a its.toArray from p) (by simp;omega) λh' eb=>⟨rfl,I.turned (t':=s.toks) (λb o hb e=>eb b o hb e) f0 f1 f3 f4 f5⟩
 self:=λ_ _ _ _ _ st h=>wpAny_pyIter_tupleiter st h
theorem Py{P:Program}{w:World}{K:PySem.W.Frag}{tg:Expr}(it:Addr)(lo:Int)(n:Nat):Turn P w K tg (Itr lo n) [it] it (λi h=>IsRangeIter h it (lo+(i:Nat)*1) ((n:Int)-(i:Nat)) 1) where
 mem:=by simp
 obj:=λi h st b hb=>by
  have e:b=it:=by simpa using hb
  subst e;exact⟨_,st,λv z=>by
   have z':Data.fields _=Data.cell v:=z;cases z'⟩
 keep:=λi h h' st k=>k it (by simp) _ st
 item:=by
  intro X hP hw hK hc i pins s σ H E I hf st hg;subst hP hw hK;obtain⟨f0,f1,f2,f3,f4,f5⟩:=hf it (by simp)
  have W:=Walks.range (prog:=X.prog) (w:=X.w) (I.ok.hd hc) it lo 1 n;refine W.item i s _ _ hg st λv h' tk hv st' kk=>?_
  obtain⟨t,rfl⟩:=hv;have I1:Inv X pins σ H { s with heap:=h',toks:=tk }:=I.turned (λb o hb e=>kk b o (by simpa using hb) e) f0 f1 f3 f4 f5
  refine⟨_,rfl,Ur (s:={ s with heap:=h',toks:=tk }) (n := "range_iterator") st' rfl rfl (by decide) ⟨.int (lo+i),H,I1,⟨t,?_⟩,⟨rfl,rfl⟩,st',λb hb=>(hf b hb).1⟩⟩
  rw[Int.mul_one]
 done:=by
  intro X hP hw hK hc i pins s σ H E I hf st hg;subst hP hw hK;obtain⟨f0,f1,f2,f3,f4,f5⟩:=hf it (by simp)
  exact wpAny_pyNext_range_end (I.ok.hd hc) st (by have:n<=i:=hg;omega) λh' eb=>⟨rfl,I.turned (t':=s.toks) (λb o hb e=>eb b o hb e) f0 f1 f3 f4 f5⟩
 self:=λ_ _ _ _ _ st h=>wpAny_pyIter_rangeiter st h
section
variable{X:Cx}{tg:Expr}
def Qfj(K:PySem.W.Frag)(tl:TE):TI:=λσ H R=>tl σ H λx H1=>∃a,x=.ref a/\(∃xs,SqL K H1 a xs)/\R (Itl K a) H1
def Qiq(K:PySem.W.Frag)(tl:TE):TI:=λσ H R=>tl σ H λx H1=>∃a,x=.ref a/\(∃xs,SqT K H1 a xs)/\R (Itt K a) H1
theorem Yb{l:Expr}{tl:TE}(hl:PE X l tl):PI X tg l (Qfj X.K tl):=by
 intro pins s σ H R I h;refine thn (hl pins s σ H _ I h) λv s1 ⟨x,H1,I1,r1,q1⟩=>?_
 obtain⟨a,e,⟨xs,hq⟩,q⟩:=q1;subst e;cases r1;obtain⟨its,rv,p,hz⟩:=I1.list hq;refine wpAny_pyIter_list p.isList ?_;refine⟨s1.heap.objs.size,[s1.heap.objs.size],_,_,H1,rfl,I1.kept (t':=s1.toks) λb o e=>Heap.get?_push_of_some _ e,Su a _,⟨_,Heap.get?_push_size _ rfl,rfl,rfl⟩,λb hb=>?_,q⟩
 have e:b=s1.heap.objs.size:=by simpa using hb
 subst e;exact I1.fpOk (Nat.le_refl _) (I1.hok.fresh (Nat.le_refl _))
theorem Qcf{l:Expr}{tl:TE}(hl:PE X l tl):PI X tg l (Qiq X.K tl):=by
 intro pins s σ H R I h;refine thn (hl pins s σ H _ I h) λv s1 ⟨x,H1,I1,r1,q1⟩=>?_
 obtain⟨a,e,⟨xs,hq⟩,q⟩:=q1;subst e;cases r1;obtain⟨its,rv,p,hz⟩:=I1.tuple hq;refine wpAny_pyIter_tuple (show s1.heap.IsTuple a its.toArray from p) ?_
 refine⟨s1.heap.objs.size,[s1.heap.objs.size],_,_,H1,rfl,I1.kept (t':=s1.toks) λb o e=>Heap.get?_push_of_some _ e,Px a _,⟨_,Heap.get?_push_size _ rfl,rfl,rfl⟩,λb hb=>?_,q⟩
 have e:b=s1.heap.objs.size:=by simpa using hb
 subst e;exact I1.fpOk (Nat.le_refl _) (I1.hok.fresh (Nat.le_refl _))
theorem Us{pins:List (Addr×Obj)}{σ:St}{H:Hp}{s:Shared}{R:It->Hp->Prop}{E:Value->Shared->Prop}{lo hi:Int}{t u v:Tok}{tk:Nat}(I:Inv X pins σ H s)(h1 : -(2 ^ 62)<=lo)(h2:lo<2 ^ 62)(h3 : -(2 ^ 62)<=hi)(h4:hi<2 ^ 62)
  (q:R (Itr lo (hi-lo).toNat) H):wpAny (model X.prog X.w) X.A (pyIter (.ref s.heap.objs.size)) (PIE X pins σ tg R) E { s with heap:=s.heap.push { cls:=.type "range",data:=.fields #[.int lo t,.int hi u,.int 1 v] },toks:=tk }:=by
 refine wpAny_pyIter_range (IsRange.new ..) (small_one h1 h2 h3 h4) ?_;have I1:Inv X pins σ H { s with heap:=s.heap.push { cls:=.type "range",data:=.fields #[.int lo t,.int hi u,.int 1 v] },toks:=tk }:=I.kept λb o e=>Heap.get?_push_of_some _ e
 refine⟨(s.heap.push { cls:=.type "range",data:=.fields #[.int lo t,.int hi u,.int 1 v] }).objs.size,[(s.heap.push { cls:=.type "range",data:=.fields #[.int lo t,.int hi u,.int 1 v] }).objs.size],_,_,H,rfl,
  I1.kept (t':=tk) λb o e=>Heap.get?_push_of_some _ e,Py _ lo (hi-lo).toNat,?_,λb hb=>?_,q⟩
 ·have e1:lo+((0:Nat):Int)*1=lo:=by simp
  have e2:(((hi-lo).toNat:Nat):Int)-((0:Nat):Int)=Builtin.Range.rangeSize lo hi 1:=by rw[rangeSize_one];split<;>omega
  show IsRangeIter _ _ (lo+((0:Nat):Int)*1) ((((hi-lo).toNat:Nat):Int)-((0:Nat):Int)) 1
  rw[e1,e2];exact Heap.get?_push_size _ rfl
 ·have e:b=(s.heap.push { cls:=.type "range",data:=.fields #[.int lo t,.int hi u,.int 1 v] }).objs.size:=by simpa using hb
  subst e;exact I1.fpOk (Nat.le_refl _) (I1.hok.fresh (Nat.le_refl _))
def Qfk(ta:TA):TI:=λσ H R=>ta σ H λvs H1=>∃j:Int,vs=[.int j]/\-(2 ^ 62)<=j/\j<2 ^ 62/\R (Itr 0 j.toNat) H1
theorem Sv{a:Expr}{ta:TA}{p pos:Pos}(hg:Gl X "range")(hm:X.mg "range" = none)(ha:PA X [a] ta)(hs:starEach [a] X.env=[(false,eval a X.env)]:=by rfl):PI X tg (.Call (.Name "range" p) [a] [] pos) (Qfk ta):=by
 intro pins s σ H R I h;refine Call_ (Dh I hg hm boot_range (PyProof.Rows.callWith_type1 (thn (ha pos pins s σ H _ I h) λus s1 ⟨vs,H1,I1,r1,q1⟩=>?_) hs rfl))
 obtain⟨j,e,q1,q2,q⟩:=q1;subst e
 cases r1 with
 |cons r rr=>
  cases rr;obtain⟨t,rfl⟩:=r;exact call_range_1 (Us I1 (by omega) (by omega) q1 q2 (by simpa using q))
def Qir(wi:TI)(g:TG)(tb:TS):TS:=λD σ H=>wi σ H λJ H1=>∃W:Nat->Nat->St->Hp->Prop,(∃m,W 0 m σ H1)/\∀i m σ H,W i m σ H ->
 (J.stop i H/\D.nx σ H)\/(J.go i H/\∃N:St->Hp->Prop,(∀σ' H',N σ' H'->∃m',m'<m/\W (i+1) m' σ' H')/\∀x H',J.yld i H x H'->g x σ H' λσ2 H2=>tb { D with nx:=N,ct:=N,bk:=D.nx } σ2 H2)
def Hv(fp:List Addr)(h:Heap):List (Addr×Obj):=fp.filterMap λb=>(h.get? b).map λo=>(b,o)
theorem Dz{fp:List Addr}{h:Heap}{b:Addr}{o:Obj}(hb:b∈fp)(e:h.get? b=some o):(b,o)∈Hv fp h:=List.mem_filterMap.mpr ⟨b,hb,by rw[e];rfl⟩
theorem Sw{fp:List Addr}{h:Heap}{p:Addr×Obj}(hp:p∈Hv fp h):p.1∈fp/\h.get? p.1=some p.2:=by
 obtain⟨b,hb,e⟩:=List.mem_filterMap.mp hp
 cases q:h.get? b with
 |none=>rw[q] at e;cases e
 |some o=>
  rw[q] at e;have e':(b,o)=p:=Option.some.inj e;subst e';exact⟨hb,q⟩
theorem Inv.pinned{pins:List (Addr×Obj)}{σ:St}{H:Hp}{s:Shared}{fp:List Addr}(I:Inv X pins σ H s)(hf:∀b∈fp,Gp X pins H b)(ho:∀b∈fp,∃o,s.heap.get? b=some o/\∀v,o.data≠.cell v):Inv X (pins++Hv fp s.heap) σ H s:=
 I.pins_of λp hp=>(List.mem_append.mp hp).elim (λz=>I.pin p (List.mem_append_right _ z)) λz=>by
  obtain⟨hb,e⟩:=Sw z;obtain⟨f0,f1,f2,_⟩:=hf p.1 hb;obtain⟨o,e',d⟩:=ho p.1 hb;rw[e] at e';cases e';exact⟨e,f0,f1,f2,d⟩
theorem Inv.unpinned{pins pl:List (Addr×Obj)}{σ:St}{H:Hp}{s:Shared}(I:Inv X (pins++pl) σ H s):Inv X pins σ H s:=I.pins_of λp hp=>I.pin p (List.mem_append_right _ (List.mem_append_left _ hp))
theorem Ut{iter:Expr}{body:List Stmt}{wi:TI}{g:TG}{tb:TS}{pos:Pos}(hp:PassesOwn (model X.prog X.w) X.A X.env X.xe)(hc:X.calm=true)(hi:PI X tg iter wi)(hg:PG X tg g)(hb:PSs X body tb)
  (hs:∀x,foldedSetIterable iter X.env x=pure x:=by intro _;rfl):PS X (.For tg iter body [] pos) (Qir wi g tb):=by
 intro pins s σ H D I h;refine wpAny_For (thn (hi pins s σ H _ I h) λv s1 h1=>thn h1 λitv s2 h2=>?_) hs
 obtain⟨it,fp,tn,J,H2,e,I2,T,st2,f2,W,⟨m0,w0⟩,turn⟩:=h2;subst e;have stat:∀{H':Hp},(∀b∈fp,H' b=none)->∀b∈fp,Gp X pins H' b:=λhn b hb=>⟨hn b hb,(f2 b hb).2⟩
 refine codeAny_forLoop_any (λn s'=>∃i σ' H',Inv X pins σ' H' s'/\tn i s'.heap/\(∀b∈fp,H' b=none)/\W i n σ' H') ?_ m0 ⟨0,σ,H2,I2,st2,λb hb=>(f2 b hb).1,w0⟩
 rintro n s3 ⟨i,σ3,H3,I3,st3,fr3,w3⟩
 rcases turn i n σ3 H3 w3 with⟨stop,qn⟩|⟨go,N,hN,step⟩
 ·refine wpAny_passesOwn hp (thn (T.done X rfl rfl rfl hc i pins s3 σ3 H3 X.xe I3 (stat fr3) st3 stop) λr s4 ⟨hr,I4⟩=>?_)
  subst hr;exact wpAny_execs_nil ⟨σ3,H3,I4,qn⟩
 ·refine wpAny_passesOwn hp (thn (T.item X rfl rfl rfl hc i pins s3 σ3 H3 X.xe I3 (stat fr3) st3 go) λr s4 ⟨u,hr,h4⟩=>?_)
  subst hr;refine wpAny_passesOwn hp (thn h4 λ_ s5 ⟨x,H5,I5,r5,y5,st5,fr5⟩=>?_)
  have I5':=I5.pinned (stat fr5) (T.obj _ _ st5);refine wpAny_passesOwn hp (thn (hg _ s5 σ3 H5 x u _ I5' r5 (step x H5 y5)) λ_ s6 ⟨σ6,H6,I6,q6⟩=>?_)
  refine wpAny_passesOwn hp (thn (hb _ s6 σ6 H6 _ I6 q6) λf s7 q7=>?_)
  have again:∀{σ7:St} {H7:Hp},Inv X (pins++Hv fp s5.heap) σ7 H7 s7->N σ7 H7->∃m,m<n/\∃i σ' H',Inv X pins σ' H' s7/\tn i s7.heap/\(∀b∈fp,H' b=none)/\W i m σ' H':=λ{σ7 H7} I7 n7=>by
   obtain⟨m',hm,w7⟩:=hN σ7 H7 n7;refine⟨m',hm,i+1,σ7,H7,I7.unpinned,T.keep _ _ _ st5 λb hb o e=>(I7.pin (b,o) (List.mem_append_right _ (List.mem_append_right _ (Dz hb e)))).1,λb hb=>?_,w7⟩
   obtain⟨o,e,d⟩:=T.obj _ _ st5 b hb;exact(I7.pin (b,o) (List.mem_append_right _ (List.mem_append_right _ (Dz hb e)))).2.1
  cases f with
  |next=>obtain⟨σ7,H7,I7,n7⟩:=q7;exact again I7 n7
  |cont=>obtain⟨σ7,H7,I7,n7⟩:=q7;exact again I7 n7
  |brk=>obtain⟨σ7,H7,I7,q7⟩:=q7;exact⟨σ7,H7,I7.unpinned,q7⟩
  |ret v=>obtain⟨x7,σ7,H7,I7,r7,q7⟩:=q7;exact⟨x7,σ7,H7,I7.unpinned,r7,q7⟩
end
abbrev R2:=V->V->Hp->VK->Prop
def OpR(X:Cx)(f:Value->Value->Sem Value)(r:R2):Prop:=
 ∀(pins:List (Addr×Obj)) (s:Shared) (σ:St) (H:Hp) (x y:V) (v u:Value) (Q:VK),Inv X pins σ H s->An x v->An y u->r x y H Q ->
  wpAny (model X.prog X.w) X.A (f v u) (EP X pins σ Q) X.xe s
def UnR(X:Cx)(f:Value->Sem Value)(r:V->Hp->VK->Prop):Prop:=
 ∀(pins:List (Addr×Obj)) (s:Shared) (σ:St) (H:Hp) (x:V) (v:Value) (Q:VK),Inv X pins σ H s->An x v->r x H Q ->
  wpAny (model X.prog X.w) X.A (f v) (EP X pins σ Q) X.xe s
def Be(X:Cx)(f:Value)(r:List V->Hp->VK->Prop):Prop:=
 ∀(pins:List (Addr×Obj)) (s:Shared) (σ:St) (H:Hp) (xs:List V) (us:List Value) (Q:VK),Inv X pins σ H s->Ab xs us->r xs H Q ->
  wpAny (model X.prog X.w) X.A (call f us) (EP X pins σ Q) X.xe s
def Qis(X:Cx)(r:V->Hp->(Bool->Hp->Prop)->Prop):Prop:=
 ∀(pins:List (Addr×Obj)) (s:Shared) (σ:St) (H:Hp) (x:V) (v:Value) (Q:Bool->Hp->Prop),Inv X pins σ H s->An x v->r x H Q ->
  wpAny (model X.prog X.w) X.A (truthy v) (TP X pins σ Q) X.xe s
def tOp(r:R2)(ta tb:TE):TE:=λσ H Q=>ta σ H λx H1=>tb σ H1 λy H2=>r x y H2 Q
def tUn(r:V->Hp->VK->Prop)(ta:TE):TE:=λσ H Q=>ta σ H λx H1=>r x H1 Q
def rI(C:Int->Int->Prop)(g:Int->Int->V):R2:=λx y H Q=>∃i j,x=.int i/\y=.int j/\C i j/\Q (g i j) H
def rI0(g:Int->Int->V):R2:=λx y H Q=>∃i j,x=.int i/\y=.int j/\Q (g i j) H
def rU(g:Int->V):V->Hp->VK->Prop:=λx H Q=>∃i,x=.int i/\Q (g i) H
section
variable{X:Cx}{a b c:Expr}{ta tb tc:TE}{pos:Pos}
theorem Qcg(ha:PE X a ta)(hb:PE X b tb){pins:List (Addr×Obj)}{s:Shared}{σ:St}{H:Hp}{R:V->V->Hp->Prop}(I:Inv X pins σ H s)
  (h:ta σ H λx H1=>tb σ H1 λy H2=>R x y H2) {Q:Value->Shared->Prop} {f:Value->Value->Sem Value}
  (hf:∀v u s2 x y H2,Inv X pins σ H2 s2->An x v->An y u->R x y H2->wpAny (model X.prog X.w) X.A (f v u) Q X.xe s2) :
  wpAny (model X.prog X.w) X.A (eval a X.env) (λv s₁=>wpAny (model X.prog X.w) X.A (eval b X.env) (λu s₂=>wpAny (model X.prog X.w) X.A (f v u) Q X.xe s₂) X.xe s₁) X.xe s:=by
 refine thn (ha pins s σ H _ I h) λv s1 ⟨x,H1,I1,r1,q1⟩=>?_
 refine thn (hb pins s1 σ H1 _ I1 q1) λu s2 ⟨y,H2,I2,r2,q2⟩=>?_
 exact hf v u s2 x y H2 I2 r1 r2 q2
theorem Uu{op:Operator}{r:R2}(ho:OpR X (binaryOp op) r)(ha:PE X a ta)(hb:PE X b tb):PE X (.BinOp a op b pos) (tOp r ta tb):=by
 intro pins s σ H Q I h;exact wpAny_BinOp (Qcg ha hb I h λv u s2 x y H2 I2 rx ry q=>ho pins s2 σ H2 x y v u Q I2 rx ry q)
theorem Qfl{op:UnaryOp}{r:V->Hp->VK->Prop}(ho:UnR X (unaryOp op) r)(ha:PE X a ta):PE X (.UnaryOp op a pos) (tUn r ta):=by
 intro pins s σ H Q I h;exact UnaryOp_ (thn (ha pins s σ H _ I h) λv s1 ⟨x,H1,I1,r1,q1⟩=>ho pins s1 σ H1 x v Q I1 r1 q1)
theorem opI{f:Value->Value->Sem Value}{C:Int->Int->Prop}{g:Int->Int->Int}
  (rule:∀(i j:Int) (t u:Tok) (s:Shared) (Q:Value->Shared->Prop) (E:Value->Shared->Prop),C i j->Q (.int (g i j) s.toks) { s with toks:=s.toks+1 }->wpAny (model X.prog X.w) X.A (f (.int i t) (.int j u)) Q E s) :
  OpR X f (rI C λi j=>.int (g i j)):=by
 intro pins s σ H x y v u Q I rx ry h;obtain⟨i,j,rfl,rfl,hc,q⟩:=h;obtain⟨t,rfl⟩:=rx;obtain⟨t',rfl⟩:=ry;exact rule i j t t' s _ _ hc ⟨.int (g i j),H,I.tok _,⟨_,rfl⟩,q⟩
theorem Qfm{f:Value->Value->Sem Value}{g:Int->Int->Int}
  (rule:∀(i j:Int) (t u:Tok) (s:Shared) (Q:Value->Shared->Prop) (E:Value->Shared->Prop),Q (.int (g i j) s.toks) { s with toks:=s.toks+1 }->wpAny (model X.prog X.w) X.A (f (.int i t) (.int j u)) Q E s) :
  OpR X f (rI0 λi j=>.int (g i j)):=by
 intro pins s σ H x y v u Q I rx ry h;obtain⟨i,j,rfl,rfl,q⟩:=h;obtain⟨t,rfl⟩:=rx;obtain⟨t',rfl⟩:=ry;exact rule i j t t' s _ _ ⟨.int (g i j),H,I.tok _,⟨_,rfl⟩,q⟩
theorem Yc{f:Value->Value->Sem Value}{g:Int->Int->Bool}
  (rule:∀(i j:Int) (t u:Tok) (s:Shared) (Q:Value->Shared->Prop) (E:Value->Shared->Prop),Q (.bool (g i j)) s->wpAny (model X.prog X.w) X.A (f (.int i t) (.int j u)) Q E s) :
  OpR X f (rI0 λi j=>.bl (g i j)):=by
 intro pins s σ H x y v u Q I rx ry h;obtain⟨i,j,rfl,rfl,q⟩:=h;obtain⟨t,rfl⟩:=rx;obtain⟨t',rfl⟩:=ry;exact rule i j t t' s _ _ ⟨.bl (g i j),H,I,rfl,q⟩
def Qit(i j:Int):Prop:=0<j/\j<1073741824
def Qch(i j:Int):Prop:=(-(2 ^ 64)<i/\i<2 ^ 64)\/(-(2 ^ 64)<j/\j<2 ^ 64)
theorem Qch.ok{i j:Int}(h:Qch i j):IntMulOk i j:=by
 rcases h with⟨h1,h2⟩|⟨h1,h2⟩
 ·exact .of_left (intBits_le_64 h1 h2)
 ·exact .of_right (intBits_le_64 h1 h2)
theorem Qci:OpR X (binaryOp .Add) (rI0 λi j=>.int (i+j)):=Qfm λ_ _ _ _ _ _ _ q=>add_int q
theorem Qcj:OpR X (binaryOp .Sub) (rI0 λi j=>.int (i-j)):=Qfm λ_ _ _ _ _ _ _ q=>sub_int q
theorem Qck:OpR X (binaryOp .Mult) (rI Qch λi j=>.int (i*j)):=opI λ_ _ _ _ _ _ _ hc q=>mul_int q hc.ok
theorem Yd:OpR X (binaryOp .FloorDiv) (rI Qit λi j=>.int (i / j)):=opI λi j _ _ _ _ _ hc q=>by
 have h1:(0:Int)<j:=hc.1;have h2:j<1073741824:=hc.2;exact floordiv_int (by omega) (by rw[Int.fdiv_eq_ediv_of_nonneg i (by omega)];exact q) (.inl (PyProof.noPylong_small (by omega)))
theorem Qcl:OpR X (binaryOp .Mod) (rI (λ_ j=>0<j) λi j=>.int (i % j)):=opI λi j _ _ _ _ _ hc q=>by
 have h1:(0:Int)<j:=hc;exact mod_int' (by omega) (by rw[Int.fmod_eq_emod_of_nonneg i (by omega)];exact q)
theorem unI{f:Value->Sem Value}{g:Int->Int}
  (rule:∀(i:Int) (t:Tok) (s:Shared) (Q:Value->Shared->Prop) (E:Value->Shared->Prop),Q (.int (g i) s.toks) { s with toks:=s.toks+1 }->wpAny (model X.prog X.w) X.A (f (.int i t)) Q E s) :
  UnR X f (rU λi=>.int (g i)):=by
 intro pins s σ H x v Q I rx h;obtain⟨i,rfl,q⟩:=h;obtain⟨t,rfl⟩:=rx;exact rule i t s _ _ ⟨.int (g i),H,I.tok _,⟨_,rfl⟩,q⟩
theorem Qcm:UnR X (unaryOp .USub) (rU λi=>.int (-i)):=unI λ_ _ _ _ _ q=>neg_int q
end
section
variable{X:Cx}{a b c:Expr}{ta tb tc:TE}{pos:Pos}
theorem Qfn:OpR X (compareOp .Lt) (rI0 λi j=>.bl (decide (i<j))):=Yc λ_ _ _ _ _ _ _ q=>lt_int q
theorem Qfo:OpR X (compareOp .LtE) (rI0 λi j=>.bl (decide (i<=j))):=Yc λ_ _ _ _ _ _ _ q=>le_int q
theorem Qfp:OpR X (compareOp .Gt) (rI0 λi j=>.bl (decide (j<i))):=Yc λ_ _ _ _ _ _ _ q=>gt_int q
theorem Qfq:OpR X (compareOp .GtE) (rI0 λi j=>.bl (decide (j<=i))):=Yc λ_ _ _ _ _ _ _ q=>ge_int q
theorem R7{op:CmpOp}{r:R2}(ho:OpR X (compareOp op) r)(ha:PE X a ta)(hb:PE X b tb)(hm:behindInMarks op b=false):PE X (.Compare a [op] [b] pos) (tOp r ta tb):=by
 intro pins s σ H Q I h;exact wpAny_Compare1 (Qcg ha hb I h λv u s2 x y H2 I2 rx ry q=>ho pins s2 σ H2 x y v u Q I2 rx ry q) hm
def Uv(t:TE):TT:=λσ H Q=>t σ H λx H'=>∃k,x=.bl k/\Q k H'
theorem Ye{op:CmpOp}{r:R2}(ho:OpR X (compareOp op) r)(ha:PE X a ta)(hb:PE X b tb)(hm:behindInMarks op b=false):PT X (.Compare a [op] [b] pos) (Uv (tOp r ta tb)):=by
 intro pins s σ H Q I h;refine wpAny_isTrue_Compare1 (thn (ha pins s σ H _ I h) λv s1 ⟨x,H1,I1,r1,q1⟩=>thn (hb pins s1 σ H1 _ I1 q1) λu s2 ⟨y,H2,I2,r2,q2⟩=>
  thn (ho pins s2 σ H2 x y v u _ I2 r1 r2 q2) λc s3 ⟨z,H3,I3,r3,k,e,q3⟩=>?_) hm
 subst e;cases r3;exact wpAny_truthy_bool ⟨H3,I3,q3⟩
def Pz(r r':R2)(ta tb tc:TE):TE:=λσ H Q=>ta σ H λx H1=>tb σ H1 λy H2=>r x y H2 λz H3=>∃k,z=.bl k /\
 (if k=true then tc σ H3 λw' H4=>r' y w' H4 Q else Q (.bl false) H3)
theorem Uw{op op':CmpOp}{r r':R2}(ho:OpR X (compareOp op) r)(ho':OpR X (compareOp op') r')(ha:PE X a ta)(hb:PE X b tb)(hc:PE X c tc)
  (hm:lastMarks [op,op'] [b,c]=false:=by with_unfolding_all rfl):PE X (.Compare a [op,op'] [b,c] pos) (Pz r r' ta tb tc):=by
 intro pins s σ H Q I h;refine Compare_chain (thn (ha pins s σ H _ I h) λv s1 ⟨x,H1,I1,r1,q1⟩=>chain_link (thn (hb pins s1 σ H1 _ I1 q1) λu s2 ⟨y,H2,I2,r2,q2⟩=>
  thn (ho pins s2 σ H2 x y v u _ I2 r1 r2 q2) λd s3 ⟨z,H3,I3,r3,k,e,q3⟩=>?_)) hm
 subst e;cases r3;refine wpAny_truthy_bool ?_
 cases k with
 |false=>exact ite_ff ⟨.bl false,H3,I3,rfl,q3⟩
 |true=>exact ite_tt (chain_last (thn (hc pins s3 σ H3 _ I3 q3) λw' s4 ⟨z',H4,I4,r4,q4⟩=>ho' pins s4 σ H4 y z' u w' Q I4 r2 r4 q4))
theorem Ux{op op':CmpOp}{r r':R2}(ho:OpR X (compareOp op) r)(ho':OpR X (compareOp op') r')(ha:PE X a ta)(hb:PE X b tb)(hc:PE X c tc)
  (hm:lastMarks [op,op'] [b,c]=false:=by with_unfolding_all rfl):PT X (.Compare a [op,op'] [b,c] pos) (Uv (Pz r r' ta tb tc)):=by
 intro pins s σ H Q I h;refine isTrue_chain (thn (ha pins s σ H _ I h) λv s1 ⟨x,H1,I1,r1,q1⟩=>test_link (thn (hb pins s1 σ H1 _ I1 q1) λu s2 ⟨y,H2,I2,r2,q2⟩=>
  thn (ho pins s2 σ H2 x y v u _ I2 r1 r2 q2) λd s3 ⟨z,H3,I3,r3,k,e,q3⟩=>?_)) hm
 subst e;cases r3;refine wpAny_truthy_bool ?_
 cases k with
 |false=>
  obtain⟨k',e',q'⟩:=q3;cases e';exact ite_ff ⟨H3,I3,q'⟩
 |true=>
  refine ite_tt (test_last (thn (hc pins s3 σ H3 _ I3 q3) λw' s4 ⟨z',H4,I4,r4,q4⟩=>thn (ho' pins s4 σ H4 y z' u w' _ I4 r2 r4 q4) λd' s5 ⟨z2,H5,I5,r5,k2,e2,q5⟩=>?_))
  subst e2;cases r5;exact wpAny_truthy_bool ⟨H5,I5,q5⟩
def Qcn(K:PySem.W.Frag)(x:V)(H:Hp)(k:Bool):Prop:=
 match x with
 |.non=>k=false
 |.bl b=>k=b
 |.int i=>k=(i != 0)
 |.str y=>y.length<=sizeLine/\k=((y.length:Int) != 0)
 |.byt y=>y.size<=sizeLine/\k=((y.size:Int) != 0)
 |.ref p=>(∃xs,SqL K H p xs/\k = !xs.isEmpty)\/(∃xs,SqT K H p xs/\k = !xs.isEmpty)\/∃kvs,H p=some (.dK kvs)/\k = !kvs.isEmpty
 |_=>False
theorem Q0{κ:Type}{kvs:List (κ×V)}{vs:List (κ×Value)}(r:KV kvs vs):(!vs.isEmpty) = !kvs.isEmpty:=by
 cases r<;>rfl
theorem Jq{xs:List V}{its:List Value}(r:Ab xs its):(!its.toArray.isEmpty) = !xs.isEmpty:=by
 cases r<;>simp
theorem Ek:(sizeLine:Nat)<2 ^ 63:=by rw[sizeLine_eq];decide
theorem Qco:Qis X (λx H Q=>∃k,Qcn X.K x H k/\Q k H):=by
 intro pins s σ H x v Q I rx h;obtain⟨k,e,q⟩:=h;have hl:=Ek;have hs:sizeLine=16777216:=sizeLine_eq
 cases x with
 |non=>
  cases rx;have e':k=false:=e;subst e';exact truthy_none ⟨H,I,q⟩
 |bl b=>
  cases rx;have e':k=b:=e;subst e';exact wpAny_truthy_bool ⟨H,I,q⟩
 |int i=>
  obtain⟨t,rfl⟩:=rx;have e':k=(i != 0):=e;subst e';exact PySem.P.truthy_int ⟨H,I,q⟩
 |str y=>
  obtain⟨t,rfl⟩:=rx;obtain⟨hy,e'⟩:y.length<=sizeLine/\k=((y.length:Int) != 0):=e;subst e';exact PySem.P.truthy_str (by omega) ⟨H,I.tok _,q⟩
 |byt y=>
  obtain⟨t,rfl⟩:=rx;obtain⟨hy,e'⟩:y.size<=sizeLine/\k=((y.size:Int) != 0):=e;subst e';exact PySem.W.truthy_bytes (by omega) ⟨H,I.tok _,q⟩
 |ref p=>
  cases rx;have e':(∃xs,SqL X.K H p xs/\k = !xs.isEmpty)\/(∃xs,SqT X.K H p xs/\k = !xs.isEmpty)\/∃kvs,H p=some (.dK kvs)/\k = !kvs.isEmpty:=e;rcases e' with⟨xs,hx,e'⟩|⟨xs,hx,e'⟩|⟨kvs,hx,e'⟩
  ·subst e'
   obtain⟨its,r,pl,hz⟩:=I.list hx;have hlen:=r.length;exact wpAny_truthy_list pl.isList (by simp only[List.size_toArray];omega) ⟨H,I.tok _,by rw[Jq r];exact q⟩
  ·subst e'
   obtain⟨its,r,pl,hz⟩:=I.tuple hx;have hlen:=r.length;exact truthy_tuple pl (by simp only[List.size_toArray];omega) ⟨H,I.tok _,by rw[Jq r];exact q⟩
  ·subst e'
   obtain⟨hz,hS,vs,r,m⟩:kvs.length<=sizeLine/\(p==sysModules)=false/\∃vs,KV kvs vs/\s.heap.DictOf (Mm X.prog X.w) p vs:=I.hok p _ hx;have hlen:kvs.length=vs.length:=Paired.length r;exact wpAny_truthy_dict hS m (by omega) ⟨H,I.tok _,by rw[Q0 r];exact q⟩
 |_=>exact(show False from e).elim
theorem Uy(ha:PE X a ta)(he:∀whole,isTrue a X.env whole=(do let v <-whole;standAt a.pos;holding [v] (truthy v))) :
  PT X a (λσ H Q=>ta σ H λx H'=>∃k,Qcn X.K x H' k/\Q k H'):=by
 intro pins s σ H Q I h;exact isTrue_plain (thn (ha pins s σ H _ I h) λv s1 ⟨x,H1,I1,r1,q1⟩=>Qco pins s1 σ H1 x v Q I1 r1 q1) (he _)
theorem Ld{x:V}{us:List Value}(r:Ab [x] us):∃u,us=[u]/\An x u:=by
 cases r with
 |cons r1 r2=>cases r2;exact⟨_,rfl,r1⟩
theorem Le:Be X (.type "int") (λxs H Q=>(∃i,xs=[.int i]/\Q (.int i) H)\/∃k,xs=[.bl k]/\Q (.int (if k then 1 else 0)) H):=by
 intro pins s σ H xs us Q I r h;rcases h with⟨i,rfl,q⟩|⟨k,rfl,q⟩
 ·obtain⟨u,rfl,t,rfl⟩:=Ld r
  exact call_int_int ⟨.int i,H,I,⟨_,rfl⟩,q⟩
 ·obtain⟨u,rfl,r1⟩:=Ld r
  cases r1;exact call_int_bool ⟨.int (if k then 1 else 0),H,I.tok _,⟨_,rfl⟩,q⟩
end
section
variable{prog:Program}{w:World}{A:Around}{E:Value->Shared->Prop}{s:Shared}{K:PySem.W.Frag}{x dx C f:Addr}{mA:Str->Option Value}{name:Str}{v:Value}
end
section
variable{P:Program}{w:World}{H H':Hp}{h h':Heap}{a C dx:Addr}{fs fs':List (Str×V)}
end
section
variable{X:Cx}{pins:List (Addr×Obj)}{σ:St}{H:Hp}{s:Shared}{a C dx:Addr}{fs:List (Str×V)}{f:Str}{v:V}{A:Around}{E:Value->Shared->Prop}
end
section
variable{X:Cx}{o e value:Expr}{f:Str}{pos pos' tpos:Pos}{ta tv:TE}
end
section
variable{X:Cx}{pins:List (Addr×Obj)}{σ:St}{H:Hp}{s:Shared}{A:Around}{E:Value->Shared->Prop}{Q:Value->Shared->Prop}{c:Value}{b:Bool}
end
structure Room(k:Nat)(A:Around):Prop where
 hd:A.handled=none
 dp:A.depth+3*k+5<recursionLimit
 un:A.units+16*k+200<cLine
theorem Room.mono{j k:Nat}{A:Around}(r:Room k A)(h:j<=k):Room j A:=⟨r.hd,by have:=r.dp;omega,by have:=r.un;omega⟩
theorem Room.deeper{k:Nat}{A:Around}(r:Room (k+1) A)(env:Env):Room k (A.deeper env):=
 ⟨r.hd,by have:=r.dp;show A.depth+1+3*k+5<_;omega,by have:=r.un;show A.units+3+16*k+200<_;omega⟩
theorem Q1{A:Around}{C:Addr}{us:List Value}{kw:List (Str×Value)}:(A.under (.builtin "type.__call__" ⟨.ref C::us,kw⟩)).depth=A.depth+1:=by
 first|rfl|simp[Around.under,Code.weight,Code.isCreation,Code.isGuard,Code.isCaller,Code.frames,Code.isFrame,guardIds]
theorem Q2{A:Around}{C:Addr}{us:List Value}{kw:List (Str×Value)}:(A.under (.builtin "type.__call__" ⟨.ref C::us,kw⟩)).units=A.units+1:=by
 first|rfl|simp[Around.under,Code.cUnits,Code.frames,Code.isFrame]
theorem Room.make{k:Nat}{A:Around}(r:Room (k+1) A)(C:Addr)(us:List Value)(kw:List (Str×Value)):Room k (A.under (.builtin "type.__call__" ⟨.ref C::us,kw⟩)):=
 ⟨r.hd,by have:=r.dp;rw[Q1];omega,by have:=r.un;rw[Q2];omega⟩
theorem Room.depth{k:Nat}{A:Around}(r:Room k A):A.depth<recursionLimit:=by have:=r.dp;omega
theorem Room.units{k:Nat}{A:Around}(r:Room k A):A.units+64<cLine:=by have:=r.un;omega
def Q3:TA:=λ_ H Q=>Q [] H
def Jr(ta:TE)(tr:TA):TA:=λσ H Q=>ta σ H λx H1=>tr σ H1 λxs H2=>Q (x::xs) H2
section
variable{X:Cx}{e:Expr}{es:List Expr}{te:TE}{t:TA}{pos:Pos}
theorem Bq:PA X [] Q3:=λ_ _ _ _ H Q I h=>Calls.spliced_nil ⟨[],H,I,.nil,h⟩
theorem Ay(ha:PE X e te)(hr:PA X es t)(hs:starEach (e::es) X.env=(false,eval e X.env)::starEach es X.env:=by rfl):PA X (e::es) (Jr te t):=by
 intro pos pins s σ H Q I h;rw[hs]
 show wpAny _ _ (spliced ((false,eval e X.env)::backTo pos (starEach es X.env))) _ _ s
 refine Calls.spliced_cons (thn (ha pins s σ H _ I h) λu s1 ⟨x,H1,I1,r1,q1⟩=>?_)
 exact thn (hr pos pins s1 σ H1 _ I1 q1) λus s2 ⟨xs,H2,I2,r2,q2⟩=>⟨x::xs,H2,I2,.cons r1 r2,q2⟩
def Qiu(t:TA):TE:=λσ H Q=>t σ H λxs H1=>xs.length<=sizeLine/\∀p,H1 p=none->Q (.ref p) (upd H1 p (.tup xs))
def Qiv(t:TA):TE:=λσ H Q=>t σ H λxs H1=>xs.length<=sizeLine/\∀p,H1 p=none->Q (.ref p) (upd H1 p (.lst xs))
theorem Qcp{x1}(h:PA X es t):PE X (.Tuple es x1 pos) (Qiu t):=by
 intro pins s σ H Q I hq;refine wpAny_Tuple_spliced (thn (h pos pins s σ H _ I hq) λus s1 ⟨xs,H1,I1,r,z,q⟩=>⟨by rw[<-r.length];exact z,?_⟩)
 have hf:H1 s1.heap.objs.size=none:=I1.hok.fresh (Nat.le_refl _);refine⟨.ref s1.heap.objs.size,upd H1 s1.heap.objs.size (.tup xs),I1.laid (t':=s1.toks) (λb u e=>Heap.get?_push_of_some _ e) (Nat.le_refl _) ?_,rfl,q _ hf⟩
 exact⟨z,⟨us,r,⟨_,Heap.get?_push_size _ rfl,rfl,_,rfl⟩⟩,λo q=>by rw[Heap.get?_push_size _ rfl] at q;cases q;rfl⟩
theorem Uz(h:PA X es t):PE X (.List es pos) (Qiv t):=by
 intro pins s σ H Q I hq;refine wpAny_List_spliced (thn (h pos pins s σ H _ I hq) λus s1 ⟨xs,H1,I1,r,z,q⟩=>⟨by rw[<-r.length];exact z,?_⟩)
 have hf:H1 s1.heap.objs.size=none:=I1.hok.fresh (Nat.le_refl _);refine⟨.ref s1.heap.objs.size,upd H1 s1.heap.objs.size (.lst xs),I1.laid (t':=s1.toks) (λb u e=>Heap.get?_push_of_some _ e) (Nat.le_refl _) ?_,rfl,q _ hf⟩
 exact⟨z,us,0,r,Heap.get?_push_size _ rfl⟩
end
abbrev Sp:=List V->Hp->VK->XK->Prop
abbrev CXT:=List Env->Hp->Shared->XK->Value->Shared->Prop
structure Env0(P:Program)(w:World)(K:PySem.W.Frag)(mg:Str->Option Value)(base:Heap)(A:Around)(outer:List Env)(s:Shared)(H:Hp):Prop where
 frames:A.frames=some outer
 mod:Mod K mg base
 bs:∀b o,base.get? b=some o->s.heap.get? b=some o/\H b=none
 bsz:base.objs.size<=s.heap.objs.size
 funs:s.heap.FunFrames base outer
 frf:∀b∈frs outer,H b=none
 hok:HOk P w H s.heap
 bare:AllBare s.gens
def CE(outer:List Env)(P:Program)(w:World)(H:Hp)(s:Shared)(Q:VK)(u:Value)(s':Shared):Prop:=
 ∃v H',s'.os=s.os/\AllBare s'.gens/\Un (frs outer) [] H H' s.heap s'.heap/\HOk P w H' s'.heap/\An v u/\Q v H'
def CR(CX:CXT)(outer:List Env)(P:Program)(w:World)(H:Hp)(s:Shared)(Q:VK)(E:XK)(r:Result)(s':Shared):Prop:=
 match r with
 |.ok (.ret u)=>CE outer P w H s Q u s'
 |.ok _=>False
 |.error e=>CX outer H s E e s'
structure FnOk(P:Program)(w:World)(K:PySem.W.Frag)(mg:Str->Option Value)(base:Heap)(CX:CXT)(k:Nat)(f:Addr)(fd:FuncData)(ps:List Str)(sp:Sp):Prop where
 len:∀vs H Q E,sp vs H Q E->vs.length=ps.length
 run:∀(A:Around) (outer:List Env) (s:Shared) (H:Hp) (args:Args) (us:List Value) (vs:List V) (Q:VK) (E:XK),Room k A->Env0 P w K mg base A outer s H->BindsTo s fd args (ps.zip us)->Ab vs us->sp vs H Q E ->
  codeAny (model P w) A (.call (.ref f) args) (CR CX outer P w H s Q E) s
theorem FnOk.imp{P:Program}{w:World}{K:PySem.W.Frag}{mg:Str->Option Value}{base:Heap}{CX:CXT}{k:Nat}{f:Addr}{fd:FuncData}{ps:List Str}{sp sp':Sp}(F:FnOk P w K mg base CX k f fd ps sp)
  (h:∀vs H Q E,sp' vs H Q E->sp vs H Q E):FnOk P w K mg base CX k f fd ps sp':=
 ⟨λvs H Q E q=>F.len vs H Q E (h _ _ _ _ q),λA outer s H args us vs Q E hr he hb hv hs=>F.run A outer s H args us vs Q E hr he hb hv (h _ _ _ _ hs)⟩
theorem Env0.make{P:Program}{w:World}{K:PySem.W.Frag}{mg:Str->Option Value}{base:Heap}{A:Around}{outer:List Env}{s:Shared}{H:Hp}(e:Env0 P w K mg base A outer s H)(C:Addr)(us:List Value)(kw:List (Str×Value)) :
  Env0 P w K mg base (A.under (.builtin "type.__call__" ⟨.ref C::us,kw⟩)) outer s H:=⟨by first|exact e.frames|(simpa [Around.under,Code.envs,Code.isFrame,pushEnvs] using e.frames),e.mod,e.bs,e.bsz,e.funs,e.frf,e.hok,e.bare⟩
section
variable{X:Cx}{pins:List (Addr×Obj)}{σ:St}{H:Hp}{s s':Shared}
theorem Inv.env0(I:Inv X pins σ H s):Env0 X.prog X.w X.K X.mg X.base X.A X.stack s H:=
 ⟨I.ok.frames,I.ok.mod,I.bs,Nat.le_trans I.ok.bsz I.sz,I.stack,I.stkFree,I.hok,I.bare⟩
theorem Inv.after{Q:VK}{u:Value}(I:Inv X pins σ H s)(h:CE X.stack X.prog X.w H s Q u s'):EP X pins σ Q u s':=by
 obtain⟨v,H',os,bare,un,hok,r,q⟩:=h;obtain⟨hh,g,d,t,os'⟩:=s';obtain rfl:os'=s.os:=os;exact⟨v,H',I.call (h':=hh) (g':=g) (d':=d) (t':=t) (ch:=[]) un hok bare (λb z=>absurd z (by simp)),r,q⟩
end
def Qfr(sp:Sp)(dvs:List V)(E:XK)(t:TA):TE:=λσ H Q=>t σ H λvs H1=>sp (vs++dvs) H1 Q E
def Js(K:PySem.W.Frag)(fd:FuncData)(ps:List Str)(ds:List Value):Prop:=
 ∀(s:Shared) (us:List Value),K.In s.heap->(us++ds).length=ps.length->BindsTo s fd ⟨us,[]⟩ (ps.zip (us++ds))
theorem Js.all{K:PySem.W.Frag}{fd:FuncData}{ps:List Str}(h:∀us:List Value,us.length=ps.length->bindArgs fd ⟨us,[]⟩=pure (ps.zip us)):Js K fd ps []:=λs us _ hl=>by
 rw[List.append_nil] at hl |-;exact .of_eq (h us hl)
def Ct(CX:CXT)(X:Cx)(E:XK):Prop:=∀(pins:List (Addr×Obj)) (σ:St) (H:Hp) (s:Shared) (e:Value) (s':Shared),Inv X pins σ H s->CX X.stack H s E e s'->X.xe e s'
section
variable{X:Cx}{CX:CXT}{k:Nat}{f C:Addr}{fd:FuncData}{ps:List Str}{sp:Sp}{dvs:List V}{ds:List Value}{E:XK}{x m:Str}{p pos apos:Pos}{e o:Expr}{es:List Expr}{ta:TE}{t:TA}
theorem Qcq{pins:List (Addr×Obj)}{σ:St}{H:Hp}{s:Shared}{Q:VK}{us:List Value}{vs:List V}(F:FnOk X.prog X.w X.K X.mg X.base CX k f fd ps sp)(hr:Room k X.A)(hb:Js X.K fd ps ds)(hd:Ab dvs ds)(hx:Ct CX X E)
  (I:Inv X pins σ H s) (r:Ab vs us) (h:sp (vs++dvs) H Q E):wpAny (model X.prog X.w) X.A (call (.ref f) us) (EP X pins σ Q) X.xe s:=by
 have r2:Ab (vs++dvs) (us++ds):=r.append hd;have hl:(us++ds).length=ps.length:=by rw[<-r2.length];exact F.len _ _ _ _ h
 refine wpAny_call (codeAny_mono (F.run X.A X.stack s H ⟨us,[]⟩ (us++ds) (vs++dvs) Q E hr I.env0 (hb s us I.kIn hl) r2 h) λr s' hq=>?_)
 cases r with
 |error e=>exact hx pins σ H s e s' I hq
 |ok fl=>
  cases fl with
  |ret u=>exact I.after hq
  |next=>exact False.elim hq
  |brk=>exact False.elim hq
  |cont=>exact False.elim hq
theorem R8(F:FnOk X.prog X.w X.K X.mg X.base CX k f fd ps sp)(hr:Room k X.A)(hg:Gl X x)(hm:X.mg x=some (.ref f))(hk:PySem.W.keepIn X.K (.ref f)=true)(hb:Js X.K fd ps ds)(hd:Ab dvs ds)(hx:Ct CX X E)
  (ha:PA X (e::es) t) (hdb:(x==("__debug__" : Str))=false:=by decide) (he:starEach (e::es) X.env=(false,eval e X.env)::starEach es X.env:=by rfl) (hpl:(backTo pos (starEach es X.env)).any (·.1)=false:=by rfl) :
  PE X (.Call (.Name x p) (e::es) [] pos) (Qfr sp dvs E t):=by
 intro pins s σ H Q I h;refine wpAny_Call_Name_kw (D8 I hg hm ?_ hdb);refine PySem.W.callWith_K (h₀:=X.base) I.ok.mod.kin hk (thn (ha pos pins s σ H _ I h) λus s1 ⟨vs,H1,I1,r,q⟩=>⟨I1.kIn,?_⟩) he hpl
 exact Qcq F hr hb hd hx I1 r q
end
section
variable{X:Cx}{CX:CXT}{k:Nat}{f C:Addr}{fd:FuncData}{ps ks:List Str}{sp:Sp}{E:XK}{x m:Str}{p pos apos kpos:Pos}{e o:Expr}{es:List Expr}{kws:List Keyword}{te ta:TE}{t tk:TA}{nm:Option Str}
variable{g:List Value->List Value->List Value}{gV:List V->List V->List V}
end
structure FnScope(N P:List Str)(sc:Scope):Prop where
 kind:sc.kind=.function
 co:sc.isCoroutine=false
 gen:sc.isGenerator=false
 nd:N.Nodup
 pre:N.take P.length=P
 par:∀x∈P,sc.names.lookup x=some .local\/sc.names.lookup x=some .cell
 nofree:∀y∈sc.names,y.2≠.free
theorem Lg{kindOf:Str->Option NameKind}{x:Str}:∀{binds:List (Str×Value)} {m:Str->Option Value},(∀v,(x,v)∉binds)->bindL kindOf binds m x=m x
 |[],_,_=>rfl
 |(n,v)::r,m,h=>by
  unfold bindL;rw[Lg λw hw=>h w (List.mem_cons_of_mem _ hw)]
  split
  ·have:x≠n:=by rintro rfl;exact h v List.mem_cons_self
   simp[this]
  ·rfl
theorem Lh{kindOf:Str->Option NameKind}{x:Str}:∀{binds:List (Str×Value)} {m:Str->Option Value},(∀v,(x,v)∉binds)->bindC kindOf binds m x=m x
 |[],_,_=>rfl
 |(n,v)::r,m,h=>by
  unfold bindC;rw[Lh λw hw=>h w (List.mem_cons_of_mem _ hw)]
  split
  ·rfl
  ·have:x≠n:=by rintro rfl;exact h v List.mem_cons_self
   simp[this]
theorem Li{kindOf:Str->Option NameKind}{x:Str}{v:Value}:∀{P:List Str} {vs:List Value} {i:Nat} {m:Str->Option Value},P.Nodup->P[i]?=some x->vs[i]?=some v->kindOf x=some .local ->
  bindL kindOf (P.zip vs) m x=some v
 |[],_,_,_,_,h,_,_=>by simp at h
 |_::_,[],_,_,_,_,h,_=>by simp at h
 |p::P,w::vs,0,m,nd,h1,h2,hk=>by
  simp at h1 h2;subst h1;subst h2
  show bindL kindOf ((p,w)::P.zip vs) m p=_
  unfold bindL;rw[Lg λv hv=>(List.nodup_cons.mp nd).1 (List.of_mem_zip hv).1,if_pos hk]
  simp
 |p::P,w::vs,i+1,m,nd,h1,h2,hk=>by
  show bindL kindOf ((p,w)::P.zip vs) m x=_
  unfold bindL;exact Li (i:=i) (List.nodup_cons.mp nd).2 (by simpa using h1) (by simpa using h2) hk
theorem Lj{kindOf:Str->Option NameKind}{x:Str}{v:Value}:∀{P:List Str} {vs:List Value} {i:Nat} {m:Str->Option Value},P.Nodup->P[i]?=some x->vs[i]?=some v->kindOf x≠some .local ->
  bindC kindOf (P.zip vs) m x=some v
 |[],_,_,_,_,h,_,_=>by simp at h
 |_::_,[],_,_,_,_,h,_=>by simp at h
 |p::P,w::vs,0,m,nd,h1,h2,hk=>by
  simp at h1 h2;subst h1;subst h2
  show bindC kindOf ((p,w)::P.zip vs) m p=_
  unfold bindC;rw[Lh λv hv=>(List.nodup_cons.mp nd).1 (List.of_mem_zip hv).1,if_neg hk]
  simp
 |p::P,w::vs,i+1,m,nd,h1,h2,hk=>by
  show bindC kindOf ((p,w)::P.zip vs) m x=_
  unfold bindC;exact Lj (i:=i) (List.nodup_cons.mp nd).2 (by simpa using h1) (by simpa using h2) hk
def start(N:List Str)(vs:List V):St:=vs.map some++List.replicate (N.length-vs.length) none
def Ej(CX:CXT)(P:Program)(w:World)(K:PySem.W.Frag)(mg:Str->Option Value)(base:Heap)(N:List Str)(qual:Str)(scope:Scope)(f:Addr)(cd:Value)(A:Around)(outer:List Env)(s:Shared)(H:Hp)(E:XK):Cx where
 prog:=P
 w:=w
 K:=K
 mg:=mg
 base:=base
 A:=A.deeper (envOfC qual scope s.heap.objs.size f cd)
 N:=N
 s₀:=s
 H₀:=H
 env:=envOfC qual scope s.heap.objs.size f cd
 outer:=outer
 stack:=envOfC qual scope s.heap.objs.size f cd::outer
 ex:=[]
 calm:=true
 fn:=λ_=>true
 pn:=[]
 xe:=λe s'=>wpAny (model P w) (A.deeper (envOfC qual scope s.heap.objs.size f cd)) (leaving (envOfC qual scope s.heap.objs.size f cd) e) (λ_ s''=>CX outer H s E e s'') (λe' s''=>CX outer H s E e' s'') s'
theorem O5{sc:Scope}{n:Nat}{x:Str}(h:sc.names.lookup x=some .cell):∃c,(cellsFrom n sc.names []).lookup x=some c:=by
 have q:=PySem.W.cellsFrom_some sc.names n [] (.inl h);exact Option.isSome_iff_exists.mp q
theorem Ll{CX:CXT}{P:Program}{w:World}{K:PySem.W.Frag}{mg:Str->Option Value}{base:Heap}{N ps:List Str}{qual:Str}{scope:Scope}{f:Addr}{cd:Value}{A:Around}{outer:List Env}{s s1:Shared}{H:Hp}{E:XK}{us:List Value}{vs:List V}
  (S:FnScope N ps scope) (hd:A.handled=none) (e0:Env0 P w K mg base A outer s H) (hl:vs.length=ps.length) (r:Ab vs us)
  (x:InCallC s s.heap.objs.size (bindL (envOfC qual scope s.heap.objs.size f cd).kindOf (ps.zip us) λ_=>none) (cellsFrom (s.heap.objs.size+1) scope.names []) (bindC (envOfC qual scope s.heap.objs.size f cd).kindOf (ps.zip us) λ_=>none) s1) :
  Inv (Ej CX P w K mg base N qual scope f cd A outer s H E) [] (start N vs) H s1:=by
 have hpl:ps.length<=N.length:=by have:=congrArg List.length S.pre;rw[List.length_take] at this;omega
 obtain⟨h1,tk,rfl,hk⟩:=x.done;have noA:∀b:Addr,b∉(Ej CX P w K mg base N qual scope f cd A outer s H E).ex:=λb z=>absurd (show b∈([]:List Addr) from z) (by simp)
 refine⟨⟨e0.mod,S.kind,rfl,rfl,Nat.le_refl _,λy z c h1 h2=>?_,λy hy=>?_,λy c _ h=>?_,λ_=>hd,Around.frames_deeper e0.frames,.inr ⟨rfl,rfl⟩,λb z=>absurd z (noA b),e0.bs,e0.bsz,λb _ _=>noA b,λb z=>absurd z (noA b),e0.funs,e0.frf⟩,
  rfl,e0.bare,Un.kept hk,⟨_,x.toInCall.ns,λi y v h1 h2 h3=>?_⟩,λy c h=>⟨_,x.cell y c h⟩,e0.hok.fresh (Nat.le_refl _),λy c h=>?_,λp hp=>absurd (show p∈([]:List (Addr×Obj)) from hp) (by simp),e0.hok.kept hk,?_⟩
 ·exact name_of_addr x.apart (PySem.mem_of_lookup h1) (PySem.mem_of_lookup h2)
 ·have hy:scope.names.lookup y=some .cell\/scope.names.lookup y=some .free:=hy
  rcases hy with hy|hy
  ·exact O5 hy
  ·exact absurd rfl (S.nofree _ (PySem.mem_of_lookup hy))
 ·exact Nat.le_of_lt (x.above y c (PySem.mem_of_lookup h))
 ·have hi:i<vs.length:=by
   unfold start at h2;by_cases hi:i<vs.length
   ·exact hi
   ·rw[List.getElem?_append_right (by simpa using hi)] at h2
    rw[List.getElem?_replicate] at h2;split at h2<;>cases h2
  have ha:vs[i]?=some v:=by
   unfold start at h2;rw[List.getElem?_append_left (by simpa using hi),List.getElem?_map] at h2
   cases e:vs[i]? with
   |none=>rw[e] at h2;cases h2
   |some a=>rw[e] at h2;cases h2;rfl
  obtain⟨u,hu,rv⟩:=r.get ha;have hp:ps[i]?=some y:=by
   rw[<-S.pre,List.getElem?_take_of_lt (by omega)];exact h1
  have ndP:ps.Nodup:=by rw[<-S.pre];exact S.nd.sublist (List.take_sublist _ _)
  refine⟨u,rv,?_⟩;rcases S.par y (List.mem_of_getElem? hp) with k|k
  ·exact .inl ⟨k,Li ndP hp hu k⟩
  ·obtain⟨c,e⟩:=O5 (n:=s.heap.objs.size+1) k
   refine .inr ⟨.inl k,c,e,?_⟩;have q:=x.cell y c e;rw[Lj ndP hp hu (by show scope.names.lookup y≠_;rw[k];decide)] at q
   exact q
 ·exact e0.hok.fresh (Nat.le_of_lt (x.above y c (PySem.mem_of_lookup h)))
 ·unfold start
  show _=N.length
  rw[List.length_append,List.length_map,List.length_replicate];omega
theorem Qfs{CX:CXT}{P:Program}{w:World}{K:PySem.W.Frag}{mg:Str->Option Value}{base:Heap}{k:Nat}{f:Addr}{name qual:Str}{params:Arguments}{body:List Stmt}{scope:Scope}{dV kV doc pm cdv ct oc:Value}{an od:Option Addr}
  {osl:Array (Option Value)} {N ps:List Str} {sp:Sp} (lk:K.lookup f=some ⟨oc,od,.func (PySem.W.fnOf name qual params body scope dV kV doc pm an cdv ct),osl⟩) (hcd:PySem.W.codeIn K cdv qual=true) (S:FnScope N ps scope)
  (len:∀vs H Q E,sp vs H Q E->vs.length=ps.length)
  (hbody:∀(A:Around) (outer:List Env) (s:Shared) (H:Hp) (vs:List V) (Q:VK) (E:XK),Room k (A.deeper (envOfC qual scope s.heap.objs.size f cdv))->sp vs H Q E ->
   ∃t,PSs (Ej CX P w K mg base N qual scope f cdv A outer s H E) body t/\t { nx:=λ_ H'=>Q .non H',rt:=Q } (start N vs) H) :
  FnOk P w K mg base CX (k+1) f (PySem.W.fnOf name qual params body scope dV kV doc pm an cdv ct) ps sp:=by
 refine⟨len,λA outer s H args us vs Q E hr e0 hb r hsp=>?_⟩
 have hl:=len _ _ _ _ hsp;have KX:K.In s.heap:=e0.mod.kin.keeps λb o e=>(e0.bs b o e).1
 have lim:s.heap.NoLimit:=e0.mod.nolimit.keeps λb o e=>(e0.bs b o e).1
 have hkind:∀y∈ps.zip us,scope.names.lookup y.1=some .local\/(scope.names.lookup y.1=some .cell/\((cellsFrom (s.heap.objs.size+1) scope.names []).lookup y.1).isSome=true):=λ⟨n,v⟩ hy=>by
  rcases S.par n (List.of_mem_zip hy).1 with q|q
  ·exact .inl q
  ·exact .inr ⟨q,PySem.W.cellsFrom_some _ _ _ (.inl q)⟩
 refine codeAny_call_function hr.depth (KX _ _ lk) rfl S.co S.gen rfl (PySem.W.codeRec_of KX hcd) (hb _ _ _ _ ?_);refine wpAny_newFunctionEnv_cells S.kind hkind λenv he s1 x=>?_
 subst he;refine⟨lim.keeps x.toInCall.keep,codeAny_func ?_⟩;obtain⟨t,ht,hq⟩:=hbody A outer s H vs Q E (hr.deeper _) hsp;have I:Inv (Ej CX P w K mg base N qual scope f cdv A outer s H E) [] (start N vs) H s1:=Ll S hr.hd e0 hl r x;refine wpAny_mono (ht [] s1 (start N vs) H _ I hq) (λfl s' hs=>?_) λe s' hs=>hs
 have fin:∀{σ':St} {H':Hp} {v:V} {u:Value},Inv (Ej CX P w K mg base N qual scope f cdv A outer s H E) [] σ' H' s'->An v u->Q v H'->CE outer P w H s Q u s':=
  λ{σ' H' v u} J rv q=>⟨v,H',J.os,J.bare,J.base,J.hok,rv,q⟩
 cases fl with
 |ret u=>
  obtain⟨v,σ',H',J,rv,q⟩:=hs;exact fin J rv q
 |next=>
  obtain⟨σ',H',J,q⟩:=hs;exact fin (v:=V.non) (u:=Value.none) J rfl q
 |brk=>
  obtain⟨_,_,_,q⟩:=hs;exact False.elim q
 |cont=>
  obtain⟨_,_,_,q⟩:=hs;exact False.elim q
section
variable{X:Cx}{x:Str}{p pos:Pos}{e:Expr}{es:List Expr}{t:TA}{id T:String}{r:List V->Hp->VK->Prop}
def tCB(r:List V->Hp->VK->Prop)(t:TA):TE:=λσ H Q=>t σ H λvs H1=>r vs H1 Q
theorem El(hc:Be X (.builtin id) r)(hg:Gl X x)(hm:X.mg x=none)(hv:bootBuiltins x=some (.builtin id))(ha:PA X (e::es) t)(hn:x ≠ "__name__":=by decide)(hdb:(x==("__debug__" : Str))=false:=by decide)
  (he:starEach (e::es) X.env=(false,eval e X.env)::starEach es X.env:=by rfl) (hpl:(backTo pos (starEach es X.env)).any (·.1)=false:=by rfl):PE X (.Call (.Name x p) (e::es) [] pos) (tCB r t):=by
 intro pins s σ H Q I h;refine wpAny_Call_Name_kw (Dh I hg hm hv ?_ hn hdb);exact PyProof.Rows.callWith_builtin1 (thn (ha pos pins s σ H _ I h) λus s1 ⟨vs,H1,I1,r1,q1⟩=>hc pins s1 σ H1 vs us Q I1 r1 q1) he hpl
theorem Fj(hc:Be X (.type T) r)(hg:Gl X x)(hm:X.mg x=none)(hv:bootBuiltins x=some (.type T))(ha:PA X (e::es) t)(hn:x ≠ "__name__":=by decide)(hdb:(x==("__debug__" : Str))=false:=by decide)
  (he:starEach (e::es) X.env=(false,eval e X.env)::starEach es X.env:=by rfl) (hpl:(backTo pos (starEach es X.env)).any (·.1)=false:=by rfl):PE X (.Call (.Name x p) (e::es) [] pos) (tCB r t):=by
 intro pins s σ H Q I h;refine wpAny_Call_Name_kw (Dh I hg hm hv ?_ hn hdb);exact PyProof.Rows.callWith_type1 (thn (ha pos pins s σ H _ I h) λus s1 ⟨vs,H1,I1,r1,q1⟩=>hc pins s1 σ H1 vs us Q I1 r1 q1) he hpl
end
end L2
namespace HT
open PySem PyProof.Rows
section
open PySem.SeqAt
open PySem.AutoSeq1 (wpAny_loadPart')
open PySem.MeetsSeq PySem.MeetsSeq2 PySem.MeetsSeq3
end
section
variable{prog:Program}{w:World}{A:Around}{E:Value->Shared->Prop}{s:Shared}
def sIx(n d:Nat):Option Int->Nat
 |none=>d
 |some v=>if v<0 then (v+(n:Int)).toNat else min v.toNat n
theorem Q4(n d:Nat)(hd:d<=n)(o:Option Int):sIx n d o<=n:=by
 cases o with
 |none=>exact hd
 |some v=>
  show (if v<0 then (v+(n:Int)).toNat else min v.toNat n)<=n
  by_cases hv:v<0
  ·rw[if_pos hv];omega
  ·rw[if_neg hv];exact Nat.min_le_right _ _
theorem R9(v:Int)(n d:Nat):(if v<0 then max (v+(n:Int)) 0 else min v (n:Int))=((sIx n d (some v):Nat):Int):=by
 show (if v<0 then max (v+(n:Int)) 0 else min v (n:Int))=(((if v<0 then (v+(n:Int)).toNat else min v.toNat n):Nat):Int)
 by_cases hv:v<0
 ·simp only[if_pos hv];omega
 ·simp only[if_neg hv];omega
theorem Q5(lo hi:Option Int)(n:Nat):Builtin.Slice.sliceAdjust lo hi 1 (n:Int)=(((sIx n 0 lo:Nat):Int),((sIx n n hi:Nat):Int)):=by
 have h1:¬((1:Int)<0):=by omega
 unfold Builtin.Slice.sliceAdjust;simp only[h1,if_false];refine Prod.ext ?_ ?_
 ·cases lo with
  |none=>rfl
  |some v=>exact R9 v n 0
 ·cases hi with
  |none=>rfl
  |some v=>exact R9 v n n
theorem Q6(i j:Nat):Builtin.Slice.slicePlaces (i:Int) (j:Int) 1=j-i:=by
 unfold Builtin.Slice.slicePlaces;have h1:(1:Int) > 0:=by omega
 simp only[h1,if_true,Int.ediv_one];split<;>omega
theorem Jt{v:Value}{o:Option Int}{Q:Option Int->Shared->Prop}(p:IsPart v o)(h:Q o s):wpAny (model prog w) A (Builtin.Slice.slicePartIndex v) Q E s:=by
 cases p with
 |none=>exact slicePart_none h
 |int i t=>exact slicePart_int h
theorem Dp{sl:Addr}{vl vu:Value}{lo hi:Option Int}{n:Nat}{Q:Int×Int×Nat->Shared->Prop}(hs:s.heap.IsSliceOf sl vl vu .none)(pl:IsPart vl lo)(pu:IsPart vu hi)
  (h:Q (((sIx n 0 lo:Nat):Int),1,sIx n n hi-sIx n 0 lo) s):wpAny (model prog w) A (Builtin.Slice.sliceApplied (.ref sl) (pure (n:Int))) Q E s:=by
 obtain⟨os,hos,hcs,hds⟩:=id hs;unfold Builtin.Slice.sliceApplied Builtin.Slice.sliceFields;refine wpAny_bind (wpAny_bind (wpAny_field hos hds (x:=vl) rfl (wpAny_bind (wpAny_field hos hds (x:=vu) rfl (wpAny_bind (wpAny_field hos hds (x:=.none) rfl (wpAny_pure ?_)))))));refine wpAny_bind (slicePart_none ?_)
 show wpAny _ _ (if ((1:Int)==0)=true then _ else _) _ _ s
 rw[if_neg (by decide)]
 refine wpAny_bind (Jt pl (wpAny_bind (Jt pu (wpAny_bind (wpAny_pure ?_)))))
 show wpAny _ _ (match Builtin.Slice.sliceAdjust lo hi 1 (n:Int) with|(lo,hi)=>pure (lo,(1:Int),Builtin.Slice.slicePlaces lo hi 1)) _ _ s
 rw[Q5 lo hi n]
 show wpAny _ _ (pure (((sIx n 0 lo:Nat):Int),(1:Int),Builtin.Slice.slicePlaces ((sIx n 0 lo:Nat):Int) ((sIx n n hi:Nat):Int) 1)) _ _ s
 rw[Q6];exact wpAny_pure h
theorem V0(xs:Array Value)(i k:Nat):((List.range k).filterMap λ(m:Nat)=>xs[((i:Int)+(m:Int)*1).toNat]?).toArray=((xs.toList.drop i).take k).toArray:=by
 have e:(λ(m:Nat)=>xs[((i:Int)+(m:Int)*1).toNat]?)=λm=>xs[i+m]?:=by
  funext m
  have:((i:Int)+(m:Int)*1).toNat=i+m:=by omega
  rw[this]
 rw[e];have:=pick_run xs i k;rw[List.filterMap_map] at this;have e2:((λx=>xs[x]?) ∘ λx=>i+x)=λm=>xs[i+m]?:=rfl
 rw[e2] at this;rw[this]
theorem getItem_tuple_cut{t sl:Addr}{items:Array Value}{vl vu:Value}{lo hi:Option Int}{Q:Value->Shared->Prop}(ht:IsTup s.heap t items)(hs:s.heap.IsSliceOf sl vl vu .none)(pl:IsPart vl lo)(pu:IsPart vu hi)
  (hw:¬(sIx items.size 0 lo=0/\sIx items.size items.size hi=items.size))
  (h:Q (.ref s.heap.objs.size) { s with heap:=s.heap.push { cls:=.type "tuple",data:=.seq ((items.toList.drop (sIx items.size 0 lo)).take (sIx items.size items.size hi-sIx items.size 0 lo)).toArray } })
  (hsz:items.size<=sizeLine):wpAny (model prog w) A (getItem (.ref t) (.ref sl)) Q E s:=by
 have htake:sizeOk (.seq ((items.toList.drop (sIx items.size 0 lo)).take (sIx items.size items.size hi-sIx items.size 0 lo)).toArray):=by
  show ((items.toList.drop (sIx items.size 0 lo)).take (sIx items.size items.size hi-sIx items.size 0 lo)).toArray.size<=sizeLine
  rw[List.size_toArray,List.length_take,List.length_drop,Array.length_toList];omega
 have hj:sIx items.size items.size hi<=items.size:=Q4 _ _ (Nat.le_refl _) hi;obtain⟨os,hos,hcs,hds⟩:=id hs;have hTs:s.TypeIs (.ref sl) "slice" := ⟨os,hos,hcs⟩;unfold getItem
 try with_reducible refine wpAny_holding ?_
 first|refine wpAny_bind (wpAny_pure ?_)|skip
 refine wpAny_bind (wpAny_sequenceKey ht.typeIs (by decide) ?_)
 refine wpAny_bind (wpAny_callSpecial?_slot (name:=Str.ofString "__getitem__") ht.typeIs PyProof.Rows.slot_tuple_getitem
  (wpAny_call_entry PyProof.Rows.slot_tuple_getitem ht.typeIs entry_tuple_getitem ?_ (args_tuple_getitem _ _)))
 show wpAny _ _ (Builtin.Tuple.tupleItemsOf (.ref t) >>= _) _ _ s
 refine wpAny_bind (tupleItemsOf_ ht ?_);refine wpAny_bind (wpAny_typeOf hTs ?_);rw[if_pos (by decide)]
 refine wpAny_bind (Dp hs pl pu ?_);have hno:¬((((sIx items.size 0 lo:Nat):Int)==0&&(1:Int)==1&&(sIx items.size items.size hi-sIx items.size 0 lo)==items.size)=true):=by
  intro q;rw[Bool.and_eq_true,Bool.and_eq_true] at q;have q1:((sIx items.size 0 lo:Nat):Int)=0:=eq_of_beq q.1.1;have q2:sIx items.size items.size hi-sIx items.size 0 lo=items.size:=eq_of_beq q.2;exact hw ⟨by omega,by omega⟩
 show wpAny _ _ (if (((sIx items.size 0 lo:Nat):Int)==0&&(1:Int)==1&&(sIx items.size items.size hi-sIx items.size 0 lo)==items.size)=true then _ else _) _ _ s
 rw[if_neg hno,V0]
 first
  |exact wpAny_bind (m:=Builtin.Tuple.tupleExact _) (wpAny_newObj_type (wpAny_pure ⟨_,rfl,wpAny_pure h⟩) htake)
  |exact wpAny_bind (m:=Builtin.Tuple.tupleExact _) (wpAny_newObj_type (wpAny_bind (wpAny_pure (wpAny_pure ⟨_,rfl,wpAny_pure h⟩))) htake)
  |exact wpAny_bind (wpAny_bind (m:=Builtin.Tuple.tupleExact _) (wpAny_newObj_type (wpAny_pure (wpAny_pure ⟨_,rfl,wpAny_pure h⟩)) htake))
  |exact wpAny_bind (wpAny_bind (m:=Builtin.Tuple.tupleExact _) (wpAny_newObj_type (wpAny_pure ⟨_,rfl,wpAny_pure h⟩) htake))
end
end HT
namespace L2
open PySem PySem.Spec PyProof.Rows
abbrev TO:=St->Hp->(Option Int->Hp->Prop)->Prop
def PO(X:Cx)(e:Option Expr)(t:TO):Prop:=
 ∀(pins:List (Addr×Obj)) (s:Shared) (σ:St) (H:Hp) (Q:Option Int->Hp->Prop),Inv X pins σ H s->t σ H Q ->
  wpAny (model X.prog X.w) X.A (evalPart e X.env) (λu s'=>∃o H',Inv X pins σ H' s'/\IsPart u o/\Q o H') X.xe s
def Yf:TO:=λ_ H Q=>Q none H
def Qft(t:TE):TO:=λσ H Q=>t σ H λx H1=>∃i,x=.int i/\Q (some i) H1
section
variable{X:Cx}{e:Expr}{te:TE}{lo hi:Option Expr}{tl th:TO}{pos p2:Pos}
theorem Yg:PO X none Yf:=by
 intro pins s σ H Q I h;rw[evalPart_none];exact wpAny_pure ⟨none,H,I,.none,h⟩
theorem Yh(h:PE X e te):PO X (some e) (Qft te):=by
 intro pins s σ H Q I hw;rw[evalPart_some];refine thn (h pins s σ H _ I hw) λu s1 ⟨x,H1,I1,r1,q1⟩=>?_
 obtain⟨i,rfl,q⟩:=q1;obtain⟨t,rfl⟩:=r1;exact⟨some i,H1,I1,.int i t,q⟩
def SlR(X:Cx)(r:V->Option Int->Option Int->Hp->VK->Prop):Prop:=
 ∀(pins:List (Addr×Obj)) (s:Shared) (σ:St) (H:Hp) (x:V) (v vl vu:Value) (lo hi:Option Int) (sl:Addr) (Q:VK),Inv X pins σ H s->An x v->s.heap.IsSliceOf sl vl vu .none->IsPart vl lo->IsPart vu hi->r x lo hi H Q ->
  ∃T id,typeLookup (.type T) "__getitem__" = pure (some (.builtin id))/\s.TypeIs v T/\wpAny (model X.prog X.w) X.A (getItem v (.ref sl)) (EP X pins σ Q) X.xe s
theorem SlR.or{r r':V->Option Int->Option Int->Hp->VK->Prop}(h:SlR X r)(h':SlR X r'):SlR X (λx lo hi H Q=>r x lo hi H Q\/r' x lo hi H Q):=by
 intro pins s σ H x v vl vu lo hi sl Q I rx hs pl pu q;rcases q with q|q
 ·exact h pins s σ H x v vl vu lo hi sl Q I rx hs pl pu q
 ·exact h' pins s σ H x v vl vu lo hi sl Q I rx hs pl pu q
def tSl(r:V->Option Int->Option Int->Hp->VK->Prop)(te:TE)(tl th:TO):TE:=λσ H Q=>te σ H λx H1=>tl σ H1 λl H2=>th σ H2 λu H3=>r x l u H3 Q
theorem V1{r:V->Option Int->Option Int->Hp->VK->Prop}(hr:SlR X r)(he:PE X e te)(hl:PO X lo tl)(hu:PO X hi th):PE X (.Subscript e (.Slice lo hi none p2) pos) (tSl r te tl th):=by
 intro pins s σ H Q I h;refine Subscript_ (thn (he pins s σ H _ I h) λv s1 ⟨x,H1,I1,r1,q1⟩=>?_)
 refine wpAny_Slice (thn (hl pins s1 σ H1 _ I1 q1) λvl s2 ⟨l,H2,I2,pl,q2⟩=>thn (hu pins s2 σ H2 _ I2 q2) λvu s3 ⟨u,H3,I3,pu,q3⟩=>?_)
 rw[evalPart_none];refine wpAny_pure ?_;have I4:Inv X pins σ H3 { s3 with heap:=s3.heap.push { cls:=.type "slice",data:=.fields #[vl,vu,.none] } }:=I3.kept (t':=s3.toks) λb ob q=>Heap.get?_push_of_some _ q
 obtain⟨T,id,hT,ht,hg⟩:=hr pins { s3 with heap:=s3.heap.push { cls:=.type "slice",data:=.fields #[vl,vu,.none] } } σ H3 x v vl vu l u s3.heap.objs.size Q I4 r1 (Heap.IsSliceOf.new ..) pl pu q3
 show wpAny (model X.prog X.w) X.A (subscriptTail e (.Slice lo hi none p2) v (.ref s3.heap.objs.size)) (EP X pins σ Q) X.xe { s3 with heap:=s3.heap.push { cls:=.type "slice",data:=.fields #[vl,vu,.none] } }
 exact tail_any (ops:=[.ref s3.heap.objs.size,v]) ht hT hg (by with_unfolding_all rfl)
def cutV(xs:List V)(lo hi:Option Int):List V:=(xs.drop (HT.sIx xs.length 0 lo)).take (HT.sIx xs.length xs.length hi-HT.sIx xs.length 0 lo)
theorem Io(xs:List V)(lo hi:Option Int):(cutV xs lo hi).length<=xs.length:=by
 unfold cutV;rw[List.length_take,List.length_drop];omega
def Qiw(K:PySem.W.Frag):V->Option Int->Option Int->Hp->VK->Prop:=λx lo hi H Q=>∃a xs,x=.ref a/\SqT K H a xs /\
 ¬(HT.sIx xs.length 0 lo=0/\HT.sIx xs.length xs.length hi=xs.length)/\∀p,H p=none->Q (.ref p) (upd H p (.tup (cutV xs lo hi)))
theorem Qcr:SlR X (Qiw X.K):=by
 intro pins s σ H x v vl vu lo hi sl Q I rx hs pl pu h;obtain⟨a,xs,rfl,hx,hw,q⟩:=h;cases rx;obtain⟨its,r,ht,hz⟩:=I.tuple hx;have hlen:its.toArray.size=xs.length:=by rw[List.size_toArray];exact r.length.symm
 refine⟨"tuple",_,PyProof.Rows.slot_tuple_getitem.lookup,ht.typeIs,?_⟩;refine HT.getItem_tuple_cut ht hs pl pu (by rw[hlen];exact hw) ?_ (by rw[hlen];exact hz)
 rw[hlen];refine⟨.ref s.heap.objs.size,_,I.laid (t':=s.toks) (o:=.tup (cutV xs lo hi)) (λb ob q=>Heap.get?_push_of_some _ q) (Nat.le_refl _) ?_,rfl,q _ (I.hok.fresh (Nat.le_refl _))⟩
 exact⟨Nat.le_trans (Io xs lo hi) hz,⟨_,(r.drop (HT.sIx xs.length 0 lo)).take (HT.sIx xs.length xs.length hi-HT.sIx xs.length 0 lo),IsTup.new _ _⟩,λo q=>by rw[Heap.get?_push_size _ rfl] at q;cases q;rfl⟩
end
def ixN(n:Nat)(i:Int):Option Nat:=if 0<=i then (if i<n then some i.toNat else none) else if -(n:Int)<=i then some (i+n).toNat else none
def atI{α:Type}(xs:List α)(i:Int):Option α:=(ixN xs.length i).bind λj=>xs[j]?
theorem Ra{n:Nat}{i:Int}{j:Nat}(h:ixN n i=some j):seqIndex? i n=some j/\j<n/\-(n:Int)<=i/\i<n:=by
 unfold ixN at h;by_cases h0:0<=i
 ·rw[if_pos h0] at h
  by_cases h1:i<n
  ·rw[if_pos h1] at h
   have e:i.toNat=j:=Option.some.inj h;exact⟨by rw[seqIndex_of h0 h1,e],by omega,by omega,h1⟩
  ·rw[if_neg h1] at h;cases h
 ·rw[if_neg h0] at h
  by_cases h1 : -(n:Int)<=i
  ·rw[if_pos h1] at h
   have e:(i+n).toNat=j:=Option.some.inj h;exact⟨by rw[seqIndex_neg (by omega) h1,e],by omega,h1,by omega⟩
  ·rw[if_neg h1] at h;cases h
theorem Mr{α:Type}{xs:List α}{i:Int}{v:α}(h:atI xs i=some v):∃j,seqIndex? i xs.length=some j/\xs[j]?=some v/\j<xs.length/\-(xs.length:Int)<=i/\i<xs.length:=by
 unfold atI at h
 cases e:ixN xs.length i with
 |none=>rw[e] at h;cases h
 |some j=>
  rw[e] at h;obtain⟨h1,h2,h3,h4⟩:=Ra e;exact⟨j,h1,h,h2,h3,h4⟩
def Rb(b:Expr):Prop:=∀o i,subscripted b false o i=operate [o,i] (getItem o i)
def IxR(X:Cx)(r:R2):Prop:=
 ∀(value slice:Expr) (pins:List (Addr×Obj)) (s:Shared) (σ:St) (H:Hp) (x y:V) (v u:Value) (Q:VK),Inv X pins σ H s->An x v->An y u->r x y H Q ->
  subscripted slice false v u=operate [v,u] (getItem v u)->wpAny (model X.prog X.w) X.A (subscriptTail value slice v u) (EP X pins σ Q) X.xe s
def MtR(X:Cx)(id:String)(r:V->List V->Hp->VK->Prop):Prop:=
 ∀(pins:List (Addr×Obj)) (s:Shared) (σ:St) (H:Hp) (x:V) (xs:List V) (v:Value) (us:List Value) (Q:VK),Inv X pins σ H s->An x v->Ab xs us->r x xs H Q ->
  wpAny (model X.prog X.w) X.A (call (.builtin id) (v::us)) (EP X pins σ Q) X.xe s
section
variable{X:Cx}{a b:Expr}{ta tb:TE}{pos:Pos}
theorem IxR.or{r r':R2}(h:IxR X r)(h':IxR X r'):IxR X (λx y H Q=>r x y H Q\/r' x y H Q):=by
 intro value slice pins s σ H x y v u Q I rx ry q hs;rcases q with q|q
 ·exact h value slice pins s σ H x y v u Q I rx ry q hs
 ·exact h' value slice pins s σ H x y v u Q I rx ry q hs
theorem Qfu{r:R2}(hr:IxR X r)(ha:PE X a ta)(hb:PE X b tb)(hs:Rb b):PE X (.Subscript a b pos) (tOp r ta tb):=by
 intro pins s σ H Q I h;exact Subscript_ (Qcg ha hb I h λv u s2 x y H2 I2 rx ry q=>hr a b pins s2 σ H2 x y v u Q I2 rx ry q (hs _ _))
def Qfv(K:PySem.W.Frag):R2:=λx y H Q=>∃p xs i v,x=.ref p/\y=.int i/\SqL K H p xs/\atI xs i=some v/\Q v H
def Qfw(K:PySem.W.Frag):R2:=λx y H Q=>∃p xs i v,x=.ref p/\y=.int i/\SqT K H p xs/\atI xs i=some v/\Q v H
def Qfx:R2:=λx y H Q=>∃z i c,x=.str z/\y=.int i/\z.length<=sizeLine/\atI z.cps.toList i=some c/\Q (.str ⟨#[c]⟩) H
theorem Yi:IxR X (Qfv X.K):=by
 intro value slice pins s σ H x y v u Q I rx ry h hs;obtain⟨p,xs,i,z,rfl,rfl,hq,he,q⟩:=h;cases rx;obtain⟨t,rfl⟩:=ry;obtain⟨its,r,pl,hz⟩:=I.list hq;obtain⟨j,h1,h2,h3,h4,h5⟩:=Mr he;obtain⟨w,ew,rw'⟩:=r.get h2;have hl:=r.length;have hn:=Ek;have fin:EP X pins σ Q w s:=⟨z,H,I,rw',q⟩;by_cases h0:0<=i
 ·have hj:i.toNat=j:=by
   rw[seqIndex_of h0 h5] at h1;exact Option.some.inj h1
  exact item_listR pl.isList h0 (by omega) (by rw[hj];simpa using ew) fin hs
 ·have hj:(i+(its.toArray.size:Int)).toNat=j:=by
   rw[seqIndex_neg (by omega) h4] at h1
   rw[List.size_toArray,<-hl];exact Option.some.inj h1
  exact subscriptTail_builtinR (x:=w) pl.isList.typeIs slot_list_getitem.lookup
   (wpAny_getItem_list_neg (Q:=λr s'=>r=w/\EP X pins σ Q r s') pl.isList (by omega) (by rw[List.size_toArray]<;>omega) (by omega) (by rw[hj];simpa using ew) ⟨rfl,fin⟩) hs
theorem Qcs:IxR X (Qfw X.K):=by
 intro value slice pins s σ H x y v u Q I rx ry h hs;obtain⟨p,xs,i,z,rfl,rfl,hq,he,q⟩:=h;cases rx;obtain⟨t,rfl⟩:=ry;obtain⟨its,r,pl,hz⟩:=I.tuple hq;obtain⟨j,h1,h2,h3,h4,h5⟩:=Mr he;obtain⟨w,ew,rw'⟩:=r.get h2;have hl:=r.length;have hn:=Ek;have fin:EP X pins σ Q w s:=⟨z,H,I,rw',q⟩;exact subscriptTail_builtinR (x:=w) pl.typeIs slot_tuple_getitem.lookup
  (getItem_tuple (j:=j) (Q:=λr s'=>r=w/\EP X pins σ Q r s') pl (by omega) (by omega) (by rw[List.size_toArray,<-hl];exact h1) (by simpa using ew) ⟨rfl,fin⟩) hs
theorem Qct:IxR X Qfx:=by
 intro value slice pins s σ H x y v u Q I rx ry h hs;obtain⟨z,i,c,rfl,rfl,hz,he,q⟩:=h;obtain⟨t,rfl⟩:=rx;obtain⟨t',rfl⟩:=ry;obtain⟨j,h1,h2,h3,h4,h5⟩:=Mr he;have hl:z.cps.toList.length=z.length:=by simp[Str.length]
 rw[hl] at h1 h4 h5;have hn:=Ek;exact tail_any (typeIs_str s z t) slot_str_getitem.lookup (getItem_str (c:=c) (by
  have e1:decide (i < -(2 ^ 63:Int))=false:=decide_eq_false (by omega)
  have e2:decide (i>=2 ^ 63)=false:=decide_eq_false (by omega)
  rw[e1,e2,Bool.or_false]) (by rw[h1];simpa using h2) ⟨.str ⟨#[c]⟩,H,I.tok _,⟨_,rfl⟩,q⟩) hs
def rIx(K:PySem.W.Frag):R2:=λx y H Q=>Qfv K x y H Q\/Qfw K x y H Q\/Qfx x y H Q
theorem Qcu:IxR X (rIx X.K):=Yi.or (Qcs.or Qct)
theorem Q7(its:List Value)(n j:Nat)(u:Value):Obj.mapSeq (·.setIfInBounds j u) { cls:=.type "list",data:=.seq its.toArray n }={ cls:=.type "list",data:=.seq (its.set j u).toArray n }:=by
 simp[Obj.mapSeq]
theorem Inv.lst{pins:List (Addr×Obj)}{σ:St}{H:Hp}{s:Shared}{p:Addr}{xs:List V}(I:Inv X pins σ H s)(h:H p=some (.lst xs)) :
  ∃(its:List Value) (n:Nat),Ab xs its/\s.heap.get? p=some { cls:=.type "list",data:=.seq its.toArray n }/\xs.length<=sizeLine:=by
 obtain⟨z,its,n,r,e⟩:=I.hok p _ h;exact⟨its,n,r,e,z⟩
theorem Inv.lstUpd{pins:List (Addr×Obj)}{σ:St}{H:Hp}{s:Shared}{p:Addr}{xs ys:List V}{its its':List Value}{n n':Nat}{f:Obj->Obj}(I:Inv X pins σ H s)(h:H p=some (.lst xs))
  (ho:s.heap.get? p=some { cls:=.type "list",data:=.seq its.toArray n }) (hf:f { cls:=.type "list",data:=.seq its.toArray n }={ cls:=.type "list",data:=.seq its'.toArray n' }) (r:Ab ys its') (hz:ys.length<=sizeLine) (t:Nat) :
  Inv X pins σ (upd H p (.lst ys)) { s with heap:=s.heap.update p f,toks:=t }:=by
 have e:(s.heap.update p f).get? p=some { cls:=.type "list",data:=.seq its'.toArray n' }:=by
  rw[Heap.get?_update_self f ho (by rw[hf]<;>rfl),hf]
 refine I.write (x:=p) (e:=p) (by rw[h];trivial) (.inl rfl) (λb u hb q=>(Heap.get?_update_other _ _ (Ne.symm hb)).trans q) ⟨_,e⟩ ?_
 exact⟨hz,its',n',r,e⟩
def Qfy:V->V->V->Hp->(Hp->Prop)->Prop:=λo i v H Q=>∃p xs k j,o=.ref p/\i=.int k/\H p=some (.lst xs)/\ixN xs.length k=some j/\Q (upd H p (.lst (xs.set j v)))
theorem V2:Qfi X Qfy:=by
 intro pins s σ H o i v ov iv u Q I ro ri rv h;obtain⟨p,xs,k,j,rfl,rfl,hp,hj,q⟩:=h;cases ro;obtain⟨t,rfl⟩:=ri;obtain⟨its,n,r,ho,hz⟩:=I.lst hp;obtain⟨h1,h2,h3,h4⟩:=Ra hj;have hl:=r.length;have hn:=Ek;have I':Inv X pins σ (upd H p (.lst (xs.set j v))) { s with heap:=s.heap.update p (Obj.mapSeq (·.setIfInBounds j u)) }:=
  I.lstUpd hp ho (Q7 its n j u) (r.set rv j) (by rw[List.length_set];exact hz) s.toks
 by_cases h0:0<=k
 ·have hk:k.toNat=j:=by
   rw[seqIndex_of h0 h4] at h1;exact Option.some.inj h1
  exact PySem.W.ki_setAt ho h0 (by omega) (by rw[List.size_toArray,<-hl];exact h4) (by rw[hk];exact⟨_,I',q⟩)
 ·have hk:(k+(its.toArray.size:Int)).toNat=j:=by
   rw[seqIndex_neg (by omega) h3] at h1
   rw[List.size_toArray,<-hl];exact Option.some.inj h1
  exact PySem.W.ki_setBack ho (by omega) (by rw[List.size_toArray,<-hl];exact h3) (by omega) (by rw[hk];exact⟨_,I',q⟩)
theorem Ms(lo hi:Option Int)(n:Nat):(sliceBounds lo hi none n).1=((HT.sIx n 0 lo:Nat):Int)/\(sliceBounds lo hi none n).2.1=((HT.sIx n n hi:Nat):Int)/\(sliceBounds lo hi none n).2.2=1:=by
 refine⟨?_,?_,rfl⟩
 ·cases lo with
  |none=>simp[sliceBounds,HT.sIx]
  |some i=>
   simp only[sliceBounds,HT.sIx,Option.getD_none,show (1:Int) > 0 by decide,if_true]
   by_cases h:i<0
   ·simp only[h,if_true]<;>omega
   ·simp only[h,if_false]<;>omega
 ·cases hi with
  |none=>simp[sliceBounds,HT.sIx]
  |some i=>
   simp only[sliceBounds,HT.sIx,Option.getD_none,show (1:Int) > 0 by decide,if_true]
   by_cases h:i<0
   ·simp only[h,if_true]<;>omega
   ·simp only[h,if_false]<;>omega
theorem Kz(its:List Value)(lo hi:Option Int):slicePick its.toArray lo hi none=((its.drop (HT.sIx its.length 0 lo)).take (HT.sIx its.length its.length hi-HT.sIx its.length 0 lo)).toArray:=by
 obtain⟨h1,h2,h3⟩:=Ms lo hi its.toArray.size;unfold slicePick;rw[h1,h2,h3];simp only[sliceRange_one,pick_run,List.size_toArray]<;>rfl
def Qix(K:PySem.W.Frag):V->Option Int->Option Int->Hp->VK->Prop:=λx lo hi H Q=>∃a xs,x=.ref a/\SqL K H a xs/\∀p,H p=none->Q (.ref p) (upd H p (.lst (cutV xs lo hi)))
theorem Yj:SlR X (Qix X.K):=by
 intro pins s σ H x v vl vu lo hi sl Q I rx hs pl pu h;obtain⟨a,xs,rfl,hx,q⟩:=h;cases rx;obtain⟨its,r,ht,hz⟩:=I.list hx;have hlen:=r.length;refine⟨"list",_,slot_list_getitem.lookup,ht.isList.typeIs,?_⟩;refine wpAny_getItem_list_slice ht.isList hs pl pu .none (by simp) ?_ (by rw[List.size_toArray]<;>omega)
 rw[Kz,<-hlen];refine⟨.ref s.heap.objs.size,_,I.laid (t':=s.toks) (o:=.lst (cutV xs lo hi)) (λb ob q=>Heap.get?_push_of_some _ q) (Nat.le_refl _) ?_,rfl,q _ (I.hok.fresh (Nat.le_refl _))⟩
 exact⟨Nat.le_trans (Io xs lo hi) hz,_,0,(r.drop (HT.sIx xs.length 0 lo)).take (HT.sIx xs.length xs.length hi-HT.sIx xs.length 0 lo),Heap.get?_push_size _ rfl⟩
theorem Mt:OpR X (compareOp .NotIn) (λx y H Q=>∃i j,x=.str i/\y=.str j/\Q (.bl (!(!(Builtin.Str.occurrences j i 0 j.length 1).isEmpty))) H):=by
 intro pins s σ H x y v u Q I rx ry h;obtain⟨i,j,rfl,rfl,q⟩:=h;obtain⟨t,rfl⟩:=rx;obtain⟨t',rfl⟩:=ry;exact notIn_str ⟨.bl _,H,I,rfl,q⟩
theorem Mu:Be X (.builtin "len") (λxs H Q=>∃p ys,xs=[.ref p]/\(SqL X.K H p ys\/SqT X.K H p ys)/\Q (.int ys.length) H):=by
 intro pins s σ H xs us Q I r h;obtain⟨p,ys,rfl,hq,q⟩:=h;obtain⟨u,rfl,rx⟩:=Ld r;cases rx;have hn:=Ek;rcases hq with hq|hq
 ·obtain⟨its,r',pl,hz⟩:=I.list hq
  have hlen:=r'.length;exact Calls.call_len_list pl.isList (by simp only[List.size_toArray]<;>omega) ⟨.int ys.length,H,I.tok _,⟨s.toks+1,by rw[List.size_toArray,hlen]⟩,q⟩
 ·obtain⟨its,r',pl,hz⟩:=I.tuple hq
  have hlen:=r'.length;exact len_tuple pl (by simp only[List.size_toArray]<;>omega) ⟨.int ys.length,H,I.tok _,⟨s.toks+1,by rw[List.size_toArray,hlen]⟩,q⟩
theorem Mv:Be X (.builtin "len") (λxs H Q=>∃z,xs=[.str z]/\z.length<=sizeLine/\Q (.int z.length) H):=by
 intro pins s σ H xs us Q I r h;obtain⟨z,rfl,hz,q⟩:=h;obtain⟨u,rfl,t,rfl⟩:=Ld r;have hn:=Ek;exact len_str (by omega) ⟨.int z.length,H,I.tok _,⟨_,rfl⟩,q⟩
theorem Mw:Be X (.type "list") (λxs H Q=>∃p ys,xs=[.ref p]/\(SqL X.K H p ys\/SqT X.K H p ys)/\∀l,H l=none->Q (.ref l) (upd H l (.lst ys))):=by
 intro pins s σ H xs us Q I r h;obtain⟨p,ys,rfl,hq,q⟩:=h;obtain⟨u,rfl,rx⟩:=Ld r;cases rx;have fin:∀(its:List Value),Ab ys its->ys.length<=sizeLine->∀(h':Heap) (c':Nat),(∀b o',s.heap.get? b=some o'->h'.get? b=some o') ->
   h'.get? s.heap.objs.size=some { cls:=.type "list",dict:=none,data:=.seq its.toArray c',slots:=#[] }->EP X pins σ Q (.ref s.heap.objs.size) { s with heap:=h' }:=λits r' hz h' c' kp e=>
  ⟨.ref s.heap.objs.size,_,I.laid (t':=s.toks) kp (Nat.le_refl _) (show C6 X.prog X.w _ h' _ (.lst ys) from ⟨hz,its,c',r',e⟩),rfl,q _ (I.hok.fresh (Nat.le_refl _))⟩
 rcases hq with hq|hq
 ·obtain⟨its,r',pl,hz⟩:=I.list hq
  have hlen:=r'.length;obtain⟨o,ho,hc,n,hd⟩:=pl.isList;exact call_list_seq p (.inl rfl) ho hc hd (λh' c' kp e=>fin its r' hz h' c' kp e) (by simp only[List.size_toArray]<;>omega)
 ·obtain⟨its,r',pl,hz⟩:=I.tuple hq
  have hlen:=r'.length;obtain⟨o,ho,hc,n,hd⟩:=pl;exact call_list_seq p (.inr rfl) ho hc hd (λh' c' kp e=>fin its r' hz h' c' kp e) (by simp only[List.size_toArray]<;>omega)
theorem G4:Be X (.type "tuple") (λxs H Q=>∃p ys,xs=[.ref p]/\((SqL X.K H p ys/\∀l,H l=none->Q (.ref l) (upd H l (.tup ys)))\/(SqT X.K H p ys/\Q (.ref p) H))):=by
 intro pins s σ H xs us Q I r h;obtain⟨p,ys,rfl,h⟩:=h;obtain⟨u,rfl,rx⟩:=Ld r;cases rx;rcases h with⟨hq,q⟩|⟨hq,q⟩
 ·obtain⟨its,r',pl,hz⟩:=I.list hq
  have hlen:=r'.length;refine call_tuple_list pl.isList (λh' kp=>?_) (by simp only[List.size_toArray]<;>omega)
  have I1:Inv X pins σ H { s with heap:=h' }:=I.kept (t':=s.toks) kp
  have I2:Inv X pins σ (upd H h'.objs.size (.tup ys)) { s with heap:=h'.push { cls:=.type "tuple",data:=.seq its.toArray } }:=
   I1.laid (t':=s.toks) (λb o e=>Heap.get?_push_of_some _ e) (Nat.le_refl _) (show C6 X.prog X.w _ _ _ (.tup ys) from ⟨hz,⟨its,r',IsTup.new _ _⟩,λo q=>by rw[Heap.get?_push_size _ rfl] at q;cases q;rfl⟩)
  exact⟨.ref h'.objs.size,_,I2,rfl,q _ (I1.hok.fresh (Nat.le_refl _))⟩
 ·obtain⟨its,r',pl,hz⟩:=I.tuple hq
  exact call_tuple_same pl ⟨.ref p,H,I,rfl,q⟩
def tyV(K:PySem.W.Frag)(T:String)(x:V)(H:Hp):Prop:=match x with
 |.str _=>T = "str"
 |.int _=>T = "int"
 |.ref p=>(T = "list" /\ ∃xs,SqL K H p xs)\/(T = "tuple" /\ ∃xs,SqT K H p xs) \/
   (T = "dict" /\ ((∃kvs,H p=some (.dK kvs))\/∃kvs,H p=some (.dT kvs)))\/(T = "set" /\ ∃S n,H p=some (.set S n))
 |_=>False
theorem Qcv{pins:List (Addr×Obj)}{σ:St}{H:Hp}{s:Shared}{T:String}{x:V}{v:Value}(I:Inv X pins σ H s)(r:An x v)(ty:tyV X.K T x H) :
  s.TypeIs v T/\∀a,v=.ref a->∃ob,s.heap.get? a=some ob/\ob.dict=none:=by
 cases x with
 |str z=>
  obtain⟨t,rfl⟩:=r;cases (show T = "str" from ty)
  exact⟨typeIs_str s z t,λ_ e=>nomatch e⟩
 |int i=>
  obtain⟨t,rfl⟩:=r;cases (show T = "int" from ty)
  exact⟨typeIs_int s i t,λ_ e=>nomatch e⟩
 |ref p=>
  cases r;rcases ty with⟨rfl,xs,hq⟩|⟨rfl,xs,hq⟩|⟨rfl,hk⟩|⟨rfl,S,n,hk⟩
  ·obtain⟨its,_,pl,_⟩:=I.list hq
   refine⟨pl.isList.typeIs,λa e=>?_⟩
   cases e;obtain⟨o,n,e,c,hd,_⟩:=pl;exact⟨o,e,hd⟩
  ·obtain⟨o,e1,c1,d1⟩:=I.tupObj hq
   refine⟨⟨o,e1,c1⟩,λa e=>?_⟩
   cases e;exact⟨o,e1,d1⟩
  ·have z:∃o,s.heap.get? p=some o/\o.ExactDict:=by
    rcases hk with⟨kvs,hk⟩|⟨kvs,hk⟩
    ·obtain⟨_,_,_,_,o,_,_,e,ex,_⟩:=I.hok p _ hk
     exact⟨o,e,ex⟩
    ·obtain⟨_,_,_,_,o,_,_,e,ex,_⟩:=I.hok p _ hk
     exact⟨o,e,ex⟩
   obtain⟨o,e,ex⟩:=z;refine⟨⟨o,e,ex.1⟩,λa e2=>?_⟩
   cases e2;exact⟨o,e,ex.2.1⟩
  ·obtain⟨o,_,_,_,e,ex,_⟩:=I.hok p _ hk
   refine⟨⟨o,e,ex.1⟩,λa e2=>?_⟩
   cases e2;exact⟨o,e,ex.2.1⟩
 |_=>exact False.elim ty
def tBM(K:PySem.W.Frag)(T:String)(r:V->List V->Hp->VK->Prop)(to:TE)(t:TA):TE:=λσ H Q=>to σ H λx H1=>tyV K T x H1/\t σ H1 λxs H2=>r x xs H2 Q
variable{o e:Expr}{es:List Expr}{to:TE}{t:TA}{name:Str}{apos cpos:Pos}{T id:String}{r:V->List V->Hp->VK->Prop}
theorem Ip(pa:PlainAttrs T)(slot:Slot T name id)(hty:typeOf (.builtin id)=pure (.type "method_descriptor"))(hm:MtR X id r)(ho:PE X o to)(ha:PA X (e::es) t)
  (hbase:attributeBase o name X.env (eval o X.env)=eval o X.env:=by rfl)
  (hfew:((backTo cpos (starEach (e::es) X.env)).all (λx=>!x.1)&&(backToKw cpos (keywordEach [] X.env)).all (λx=>x.1.isSome)
   && decide ((e::es).length+([]:List Keyword).length+(if ([]:List Keyword).isEmpty then 0 else 1)<30))=true:=by rfl)
  (hline:(apos.endLine==cpos.line)=true:=by rfl) (hs:starEach (e::es) X.env=(false,eval e X.env)::starEach es X.env:=by rfl) (hplain:(backTo cpos (starEach es X.env)).any (·.1)=false:=by rfl) :
  PE X (.Call (.Attribute o name apos) (e::es) [] cpos) (tBM X.K T r to t):=by
 intro pins s σ H Q I h;refine wpAny_Call_method_late hbase hfew hline rfl (thn (ho pins s σ H _ I h) λv s1 ⟨x,H1,I1,r1,ty,q1⟩=>?_)
 obtain⟨h1,h2⟩:=Qcv I1 r1 ty;refine⟨T,id,pa,slot,hty,h1,h2,?_⟩;have hA:=ha cpos pins s1 σ H1 _ I1 q1;rw[hs] at hA |-;refine Calls.callWith_builtin (by show (false||(backTo cpos (starEach es X.env)).any (·.1))=false;rw[hplain]<;>rfl) (Calls.evalArgs_plain ?_)
 exact thn hA λus s2 ⟨vs,H2,I2,r2,q2⟩=>hm pins s2 σ H2 x vs v us Q I2 r1 r2 q2
/- xs.append(e),list.index on a module's tuple .. are MtR facts of 06m -/
end
def MtM(X:Cx)(id:String)(r:V->List V->Hp->VK->Prop):Prop:=
 ∀(pins:List (Addr×Obj)) (s:Shared) (σ:St) (H:Hp) (x:V) (xs:List V) (v:Value) (us:List Value) (Q:VK),Inv X pins σ H s->An x v->Ab xs us->r x xs H Q ->
  wpAny (model X.prog X.w) X.A (call (.builtin id) (v::us)) (EP X pins σ Q) X.xe s
theorem Ab.one:∀{x:V} {us:List Value},Ab [x] us->∃u,us=[u]/\An x u
 |_,_,.cons r .nil=>⟨_,rfl,r⟩
theorem Ab.two:∀{x y:V} {us:List Value},Ab [x,y] us->∃u v,us=[u,v]/\An x u/\An y v
 |_,_,_,.cons r (.cons q .nil)=>⟨_,_,rfl,r,q⟩
theorem Ab.zero:∀{us:List Value},Ab [] us->us=[]
 |_,.nil=>rfl
theorem Ab.rep{xs:List V}{us:List Value}(h:Ab xs us):∀k:Nat,Ab (List.replicate k xs).flatten (List.replicate k us).flatten
 |0=>.nil
 |k+1=>by
  rw[List.replicate_succ,List.replicate_succ,List.flatten_cons,List.flatten_cons];exact Ab.append h (Ab.rep h k)
theorem Lm(its:List Value):∀(k:Nat) (acc:List Value),
  List.foldl (λx1 x2=>x1++x2) acc.toArray (List.replicate k its.toArray)=(acc++(List.replicate k its).flatten).toArray
 |0,acc=>by simp
 |k+1,acc=>by
  have e:acc.toArray++its.toArray=(acc++its).toArray:=by simp
  have e2:(acc++its)++(List.replicate k its).flatten=acc++(List.replicate (k+1) its).flatten:=by
   rw[List.replicate_succ,List.flatten_cons,List.append_assoc]
  rw[<-e2,<-Lm its k (acc++its),<-e,List.replicate_succ,List.foldl_cons]
section
variable{X:Cx}{pins:List (Addr×Obj)}{σ:St}{H:Hp}{s:Shared}{l b:Addr}{xs ys zs:List V}
theorem Inv.lset{its its':List Value}{n:Nat}{f:Array Value->Array Value}{t':Nat}(I:Inv X pins σ H s)(hH:H l=some (.lst xs))
  (e:s.heap.get? l=some { cls:=.type "list",data:=.seq its.toArray n }) (hf:f its.toArray=its'.toArray) (hv:Ab ys its') (hz:ys.length<=sizeLine) :
  Inv X pins σ (upd H l (.lst ys)) { s with heap:=s.heap.update l (Obj.mapSeq f),toks:=t' }:=by
 have q:=PySem.IsL.update e f;rw[hf] at q;refine I.write (x:=l) (e:=l) (by rw[hH];exact trivial) (.inl rfl) (λb' u hb hu=>(Heap.get?_update_other s.heap (Obj.mapSeq f) (Ne.symm hb)).trans hu) ⟨_,q⟩ ?_
 exact⟨hz,its',_,hv,q⟩
theorem Inv.lnew{its:List Value}{t':Nat}(I:Inv X pins σ H s)(hv:Ab ys its)(hz:ys.length<=sizeLine) :
  Inv X pins σ (upd H s.heap.objs.size (.lst ys)) { s with heap:=s.heap.push { cls:=.type "list",data:=.seq its.toArray },toks:=t' }:=
 I.laid (λ_ _ q=>Heap.get?_push_of_some _ q) (Nat.le_refl _) ⟨hz,its,0,hv,Heap.get?_push_size _ rfl⟩
theorem Inv.fresh(I:Inv X pins σ H s):H s.heap.objs.size=none:=I.hok.fresh (Nat.le_refl _)
theorem Inv.lstM(I:Inv X pins σ H s)(hH:H l=some (.lst xs)):xs.length<=sizeLine/\∃(its:List Value) (n:Nat),Ab xs its/\xs.length=its.length/\s.heap.get? l=some { cls:=.type "list",data:=.seq its.toArray n }:=by
 obtain⟨z,its,n,r,e⟩:=I.hok l _ hH;exact⟨z,its,n,r,r.length,e⟩
theorem V3{n:Nat}(h:n<=sizeLine):Builtin.List.listTooLong n=false:=by
 unfold Builtin.List.listTooLong;exact decide_eq_false (by omega)
end
section
variable{X:Cx}
def Yk:V->List V->Hp->VK->Prop:=λx vs H Q=>∃l xs y,x=.ref l/\vs=[y]/\H l=some (.lst xs)/\xs.length<sizeLine/\Q .non (upd H l (.lst (xs++[y])))
theorem Ln:MtM X "list.append" Yk:=by
 intro pins s σ H x vs v us Q I rx rv h;obtain⟨l,xs,y,rfl,rfl,hH,hz,q⟩:=h;cases rx;obtain⟨u,rfl,ru⟩:=rv.one;obtain⟨z,its,n,r,hl,e⟩:=I.lstM hH;refine call_meets F.slot_list_append ⟨_,e,rfl⟩ F.entry_list_append (F.args_list_append_2 _ _) (PySem.list_append l its.toArray n u (by rw[List.size_toArray];omega)) ⟨e,?_⟩
 refine⟨.non,_,I.lset (its':=its++[u]) hH e (by simp) (r.append (.cons ru .nil)) ?_,rfl,q⟩
 rw[List.length_append,List.length_singleton];omega
def Qiy:R2:=λx y H Q=>∃l k xs,x=.ref l/\y=.int k/\H l=some (.lst xs)/\-(2 ^ 63)<=k/\k<2 ^ 63/\xs.length*k.toNat<=sizeLine /\
 ∀p,H p=none->Q (.ref p) (upd H p (.lst (List.replicate k.toNat xs).flatten))
theorem Yl{α:Type}(xs:List α)(k:Nat):(List.replicate k xs).flatten.length=k*xs.length:=by
 induction k with
 |zero=>simp
 |succ k ih=>rw[List.replicate_succ,List.flatten_cons,List.length_append,ih,Nat.succ_mul,Nat.add_comm]
theorem Qcw:OpR X (binaryOp .Mult) Qiy:=by
 intro pins s σ H x y v u Q I rx ry h;obtain⟨l,k,xs,rfl,rfl,hH,h1,h2,hz,q⟩:=h;cases rx;obtain⟨t,rfl⟩:=ry;obtain⟨z,its,n,r,hl,e⟩:=I.lstM hH;have hlen:its.toArray.size*k.toNat<=sizeLine:=by rw[List.size_toArray,<-hl];exact hz
 have hcap:¬its.toArray.size*k.toNat > (2 ^ 63-1) / 8:=by
  have:(sizeLine:Nat)<=(2 ^ 63-1) / 8:=by decide
  omega
 have hfit:¬(!Builtin.List.listFitsIndex k)=true:=by
  rw[fitsIndex_both h1 h2];exact Bool.false_ne_true
 have hlong:¬Builtin.List.listTooLong (its.toArray.size*k.toNat)=true:=by
  rw[V3 hlen];exact Bool.false_ne_true
 have hnew:List.foldl (λx1 x2=>x1++x2) #[] (List.replicate (if its.toArray.isEmpty=true then 0 else k.toNat) its.toArray)=(List.replicate k.toNat its).flatten.toArray:=by
  have f0:∀m:Nat,List.foldl (λx1 x2=>x1++x2) #[] (List.replicate m its.toArray)=(List.replicate m its).flatten.toArray:=λm=>by
   have:=Lm its m [];rw[List.nil_append] at this;exact this
  rw[f0]
  cases its with
  |nil=>simp
  |cons a r'=>rw[if_neg (by simp)]
 refine wpAny_binaryOp_repeat_ref (T := "list") (U := "int") (by decide) ⟨_,e,rfl⟩ (λs'=>typeIs_int s' k t) noFill_list_mul F.fills_int_mul F.slot_int_rmul repeat_list F.slot_int_index.lookup
  (call_meets F.slot_int_rmul (typeIs_int s k t) F.entry_int_rmul (F.args_int_rmul_2 _ _) (int___rmul___int_list k t l its.toArray n)
   ⟨e,rfl,⟨_,e,rfl⟩,call_meets F.slot_list_mul ⟨_,e,rfl⟩ F.entry_list_mul (F.args_list_mul_2 _ _) (AutoListH.list___mul___list_int_3 l its.toArray n k t hfit hcap hlong) ⟨e,?_⟩⟩)
 rw[hnew];exact⟨.ref _,_,I.lnew (t':=s.toks) (r.rep k.toNat) (by rw[Yl,Nat.mul_comm];exact hz),rfl,q _ I.fresh⟩
end
section
variable{prog:Program}{w:World}{A:Around}{E:Value->Shared->Prop}{s:Shared}
end
section
variable{X:Cx}
end
end L2
namespace Att
open PySem PySem.W PySem.Calls PyProof.Rows
theorem Iy{P:Params}{h:Heap}:∀(ns:List Int) (vs:List Value),WellAll P h vs (ns.map WData.int)->IntsAre vs ns:=by
 intro ns
 induction ns with
 |nil=>
  intro vs w;rw[List.map_nil] at w;cases w;exact .nil
 |cons n ns ih=>
  intro vs w;rw[List.map_cons] at w
  cases w with
  |cons a b=>
   cases a;exact .cons _ _ (ih _ b)
theorem Sx{l:OpenLaw}{n:Nat}(hn:l.most=some n){P:Params}{h:Heap}{args:List WData}{vals:List Value}
  (hpre:l.row.toRowW.claim.pre args=true) (hwl:WellAll P h vals args) :
  ∃a vs ns,vals=[Value.ref a]/\args=[WData.list (ns.map WData.int)]/\h.get? a=some { cls:=.type "list",data:=.seq vs.toArray }/\IntsAre vs ns/\ns.length<=n:=by
 have hsh:WShape.hasAll [] args [.list .int]=true:=(pre_splitW hpre).1;have hc:l.pre.holds [] { args:=args }=true:=(pre_splitW hpre).2;obtain⟨d,r,rfl,h1,h2⟩:=hasAllW_cons hsh;obtain rfl:=hasAllW_nil h2;obtain⟨xs,rfl,h3⟩:=hasW_list h1;obtain⟨ns,rfl⟩:=items_int h3;have hlen:ns.length<=n:=by
  unfold OpenLaw.pre at hc;have h4:(WTm.not (.lt (.lit (.int (n:Int))) (.len (.arg 0)))).holds [] { args:=[.list (ns.map .int)] }=true:=by
   have h4:=(holds_andW hc).1;rw[hn] at h4;exact h4
  have h5:=condW_of h4 (w_not (w_lt w_lit (w_len_list (w_arg rfl))));rw[List.length_map] at h5;refine Nat.le_of_not_lt λq=>?_
  have q':(n:Int)<((ns.length:Nat):Int):=by omega
  first
   |(rw[decide_eq_true q'] at h5;exact absurd h5 (by decide))
   |(simp at h5;omega)
 cases hwl with
 |cons w1 w2=>
  cases w2
  cases w1 with
  |list ho hall=>exact⟨_,_,ns,rfl,rfl,ho,Iy ns _ hall,hlen⟩
theorem Sy(l:OpenLaw)(args:List WData):l.row.toRowW.claim.post args (.bool true) args=true:=
 postW_of (r:=l.row.toRowW) (X:=(true==true))
  (show WShape.has [] (.bool true) .bool=true by first|rfl|decide|simp[WShape.has,WShape.arms,WShape.armsAll])
  (show (WTm.eq .res (.lit (.bool true))).value [] { args:=args,res:=some (.bool true),after:=args }=some (.bool (true==true)) from w_eq_bool (w_res rfl) w_lit) rfl
theorem attach_call{l:OpenLaw}{n:Nat}{q:Program}{loose:List Str}{XP:(Str->Option Value)->Heap->Prop}{YP:World->Heap->Prop}{d:DefRec}
  (hn:l.most=some n) (hdf:d.params.defaults=[])
  (call:∀(w:World) (s₀ s₁:Shared) (mg mb:Str->Option Value) (fa:Addr) (o:Obj) (pm cd doc:Value) (a:Addr) (vs:List Value) (ns:List Int),
   Ground q loose [] XP w s₀ mg mb s₁.heap->YP w s₁.heap ->
   s₁.heap.get? fa=some o->o.data=.func (docDef d.name d.params d.body d.scope pm cd doc)->s₁.heap.CodeRec cd d.name->mg d.name=some (.ref fa) ->
   s₁.heap.get? a=some { cls:=.type "list",data:=.seq vs.toArray }->IntsAre vs ns->ns.length<=n->s₁.gens=#[] ->
   codeAny (model l.prog w) callerA (.call (.ref fa) ⟨[.ref a],[]⟩) (λr s'=>r=.ok (.ret (.bool true))/\OldK s₁.heap s'.heap/\s'.os=s₁.os/\AllBare s'.gens) s₁) :
  WalkO q loose XP YP l.row.toRowW d [] (λf vs=>PySem.call f vs):=by
 intro w s₀ s₁ mg mb G Y fa o pm cd doc dV kV ho hd hcd hD hmg hg args vals as hpre hlay hrd hwl hlo;obtain rfl:dV=.none:=Dflts.none hD hdf;obtain rfl:kV=.none:=Dflts.noKw hD;obtain⟨a,vs,ns,rfl,rfl,hobj,hints,hlen⟩:=Sx hn hpre hwl;refine enter_call (codeAny_mono (call w s₀ s₁ mg mb fa o pm cd doc a vs ns G Y ho (fd_plain hd) hcd hmg hobj hints hlen hg) λr s' hq=>?_)
 obtain⟨rfl,h2,h3,h4⟩:=hq;exact⟨.inl ⟨.bool true,.bool true,[],rfl,λ_=>rfl,.bool true,Sy l _,λ_=>⟨List.Pairwise.nil,λ_ hm=>(nomatch hm)⟩⟩,h2,h3,h4⟩
section
variable{prog:Program}{w:World}{A:Around}{E:Value->Shared->Prop}{s:Shared}{K:Frag}
def noObjs(h:Heap):Heap:={ h with objs:=#[] }
theorem noObjs_get(h:Heap)(b:Addr):(noObjs h).get? b=none:=by
 cases e:(noObjs h).get? b with
 |none=>rfl
 |some o=>exact absurd (Heap.lt_size e) (Nat.not_lt_zero _)
theorem fr_all{h:Heap}{L:Addr}{m:Str->Option Value}(n:h.Ns L m):Fr (noObjs h) L h m:=
 ⟨n,λb o e=>(by rw[noObjs_get] at e;cases e),Nat.zero_le _⟩
end
end Att
namespace L2
open PySem PySem.Spec PyProof.Rows
theorem Lo:∀{vs:List Value} {ns:List Int},IntsAre vs ns->Ab (ns.map V.int) vs
 |_,_,.nil=>.nil
 |_,_,.cons n t h=>.cons ⟨t,rfl⟩ (Lo h)
def Qcx(H:Hp):Prop:=∀b,H b=none\/∃o xs,H b=some (.frz o (.lst xs))
theorem V4{P:Program}{w:World}{K:PySem.W.Frag}{mg mb:Str->Option Value}{CX:CXT}{k:Nat}{fa a:Addr}{fd:FuncData}{x:Str}{sp:Sp}{s₁:Shared}{vs:List Value}{ns:List Int}
  (KX:K.In s₁.heap) (hns:s₁.heap.Ns mainGlobals mg) (hb:s₁.heap.Ns builtinsNs mb) (hbb:∀x:Str,x ≠ "__name__" -> mb x=bootBuiltins x) (hlim:s₁.heap.NoLimit) (hg:s₁.gens=#[])
  (ha:s₁.heap.get? a=some { cls:=.type "list",data:=.seq vs.toArray }) (hi:IntsAre vs ns) (hl:ns.length<=sizeLine) (hr:Room k callerA)
  (F:∀base:Heap,K.In base->base.Ns mainGlobals mg->FnOk P w K mg base CX k fa fd [x] sp) (hbind:∀(s:Shared) (u:Value),BindsTo s fd ⟨[u],[]⟩ [(x,u)])
  (hsp:∀H:Hp,Qcx H->SqL K H a (ns.map V.int)->sp [.ref a] H (λv _=>v=.bl true) λ_ _ _=>False)
  (hCX:∀H e s',CX [] H s₁ (λ_ _ _=>False) e s'->False) :
  codeAny (model P w) callerA (.call (.ref fa) ⟨[.ref a],[]⟩) (λr s'=>r=.ok (.ret (.bool true))/\OldK s₁.heap s'.heap/\s'.os=s₁.os/\AllBare s'.gens) s₁:=by
 have rv:=Lo hi;have lenV:=hi.length;have core:∀H:Hp,Qcx H->SqL K H a (ns.map V.int)->HOk P w H s₁.heap->(∀b,H b≠none->b=a)->(H a≠none->K.lookup a=none) ->
   codeAny (model P w) callerA (.call (.ref fa) ⟨[.ref a],[]⟩) (λr s'=>r=.ok (.ret (.bool true))/\OldK s₁.heap s'.heap/\s'.os=s₁.os/\AllBare s'.gens) s₁:=by
  intro H hO hS hok hA hK;have base_of:∀{b:Addr} {o:Obj},s₁.heap.get? b=some o->H b=none->(Mn s₁.heap H).get? b=some o:=λe n=>Ud e n
  have noA:∀{b:Addr} {o:Obj} {es:Array DictEntry} {ep:Nat},s₁.heap.get? b=some o->o.data=.dict es ep->H b=none:=λ{b o es ep} e d=>by
   cases q:H b with
   |none=>rfl
   |some u=>
    have e':b=a:=hA b (by rw[q];simp)
    subst e';rw[ha] at e;cases e;have d':Data.seq vs.toArray _=Data.dict es ep:=d;cases d'
  have nsK:∀{b:Addr} {m:Str->Option Value},s₁.heap.Ns b m->(Mn s₁.heap H).Ns b m:=λ{b m} ⟨o,es,ep,e,d,r⟩=>⟨o,es,ep,base_of e (noA e d),d,r⟩
  have hKb:K.In (Mn s₁.heap H):=λb o e=>base_of (KX b o e) (by
   cases q:H b with
   |none=>rfl
   |some u=>
    have e':b=a:=hA b (by rw[q];simp)
    subst e';rw[hK (by rw[q];simp)] at e;cases e)
  have hM:Mod K mg (Mn s₁.heap H):=⟨hKb,nsK hns,⟨mb,nsK hb,hbb⟩,let ⟨mc,h1,h2⟩:=hlim;⟨mc,nsK h1,h2⟩⟩
  have e0:Env0 P w K mg (Mn s₁.heap H) callerA [] s₁ H:=⟨rfl,hM,λb o e=>Y7 e,Nat.le_of_eq (Ss _ _),trivial,λb hb=>absurd (show b∈([]:List Addr) from hb) (by simp),hok,.of_eq hg⟩
  refine codeAny_mono ((F _ hKb (nsK hns)).run callerA [] s₁ H ⟨[.ref a],[]⟩ [.ref a] [.ref a] _ _ hr e0 (hbind s₁ (.ref a)) (.cons rfl .nil) (hsp H hO hS)) λr s' h=>?_
  cases r with
  |error e=>exact(hCX H e s' h).elim
  |ok fl=>
   cases fl with
   |next=>exact False.elim h
   |brk=>exact False.elim h
   |cont=>exact False.elim h
   |ret u=>
    obtain⟨v,H',os,bare,un,hok',r',q⟩:=h;have q':v=.bl true:=q;subst q';obtain rfl:u=Value.bool true:=r';refine⟨rfl,OldK.of_keep λb o e=>?_,os,bare⟩
    cases q:H b with
    |none=>exact un.keep b o e q (by intro z;exact absurd (show b∈([]:List Addr) from z) (by simp)) (by simp)
    |some u=>
     rcases hO b with z|⟨ob,xs,z⟩
     ·rw[q] at z;cases z
     ·have z2:=un.frzs b ob _ z
      obtain⟨e1,_⟩:=hok b _ z;obtain⟨e2,_⟩:=hok' b _ z2;rw[e] at e1;cases e1;exact e2
 cases hk:K.lookup a with
 |some o=>
  have e:=KX a o hk;rw[ha] at e;cases e;refine core (λ_=>none) (λ_=>.inl rfl) (.inr ⟨_,vs.toArray,_,hk,rfl,rfl,rfl,by rw[List.size_toArray,lenV];exact hl,by simpa using rv⟩) (λb u z=>by have z':(none:Option HO)=some u:=z;cases z') (λb z=>absurd rfl z) λz=>absurd rfl z
 |none=>
  refine core (λb=>if b=a then some (.frz { cls:=.type "list",data:=.seq vs.toArray } (.lst (ns.map V.int))) else none) (λb=>?_) (.inl (.inr ⟨{ cls:=.type "list",data:=.seq vs.toArray },if_pos rfl⟩)) (λb u z=>?_) (λb z=>?_) λ_=>hk
  ·by_cases hb:b=a
   ·exact .inr ⟨_,_,if_pos hb⟩
   ·exact .inl (if_neg hb)
  ·by_cases hb:b=a
   ·have z':=(if_pos hb).symm.trans z
    cases z';subst hb;exact⟨ha,by rw[List.length_map];exact hl,vs,_,rv,ha⟩
   ·have z':=(if_neg hb).symm.trans z
    cases z'
  ·by_cases hb:b=a
   ·exact hb
   ·exact absurd (if_neg hb) z
theorem walk_of{l:PySem.W.OpenLaw}{n k:Nat}{q:Program}{loose:List Str}{XP:(Str->Option Value)->Heap->Prop}{YP:World->Heap->Prop}{d:DefRec}{K:Params->PySem.W.Frag}{CX:World->CXT}{sp:World->Sp}{x:Str}
  (hn:l.most=some n) (hn2:n<=sizeLine) (hdf:d.params.defaults=[]) (hr:Room k callerA)
  (hY:∀(w:World) (h:Heap),YP w h->(K w.params).In h)
  (F:∀(w:World) (mg:Str->Option Value) (fa:Addr) (h:Heap),(K w.params).In h->h.Ns mainGlobals mg->mg d.name=some (.ref fa) ->
   ∃fd:FuncData,(∀(s:Shared) (u:Value),BindsTo s fd ⟨[u],[]⟩ [(x,u)]) /\
    ∀base:Heap,(K w.params).In base->base.Ns mainGlobals mg->FnOk l.prog w (K w.params) mg base (CX w) k fa fd [x] (sp w))
  (hsp:∀(w:World) (H:Hp) (a:Addr) (ns:List Int),ns.length<=n->Qcx H->SqL (K w.params) H a (ns.map V.int)->sp w [.ref a] H (λv _=>v=.bl true) λ_ _ _=>False)
  (hCX:∀(w:World) (H:Hp) (s:Shared) (e:Value) (s':Shared),CX w [] H s (λ_ _ _=>False) e s'->False) :
  PySem.W.WalkO q loose XP YP l.row.toRowW d [] (λf vs=>PySem.call f vs):=by
 refine Att.attach_call hn hdf λw s₀ s₁ mg mb fa o pm cd doc a vs ns G Y ho hd hcd hmg hobj hints hlen hg=>?_
 have KX:=hY w _ Y;obtain⟨fd,hb,hF⟩:=F w mg fa _ KX G.T.g hmg;exact V4 KX G.T.g G.T.b G.T.builtins G.T.nolimit hg hobj hints (Nat.le_trans hlen hn2) hr hF hb (λH hO hS=>hsp w H a ns hlen hO hS) λH e s'=>hCX w H s₁ e s'
end L2
/- THE LAST THEOREM (shape;LID,My.* are yours):
   My.Adr: a structure of the addresses that your layer names (classes,functions);My.Txt K t: a structure (Prop) of the equations over K;
   My.txt_mk:{K} {implicit addresses ..} (e1:nsIn K mainGlobals "law" = some (some (.ref f))) (e2:K.lookup f=some ⟨oc,od,.func (fnOf "law" "law" params body scope dV kV doc pm an cdv ct),sl⟩) (e3:codeIn K cdv "law" = true) .. : ∃t,My.Txt K t
(the tactic k_is has no namespace: write k_is) -/
namespace L2
open PySem PySem.Spec PyProof.Rows
def Gq(s:Stmt):Arguments:=match s with
 |.FunctionDef _ a _ _ _ _ _ _ _ _=>a
 |_=>{ posonlyargs:=[],args:=[],vararg:=none,kwonlyargs:=[],kw_defaults:=[],kwarg:=none,defaults:=[] }
def Da(s:Stmt):List Stmt:=match s with
 |.FunctionDef _ _ b _ _ _ _ _ _ _=>b
 |_=>[]
def Ba(s:Stmt):Scope:=match s with
 |.FunctionDef _ _ _ _ _ _ sc _ _ _=>sc
 |_=>{ kind:=.function,names:=[],isGenerator:=false,isCoroutine:=false }
abbrev E0:XK:=λ_ _ _=>False
structure Fun(K:PySem.W.Frag)(x qual:Str)(st:Stmt)(f:Addr)(fd:FuncData):Prop where
 ex:∃(oc:Value) (od:Option Addr) (kV doc pm:Value) (an:Option Addr) (cdv ct:Value) (osl:Array (Option Value)),
  fd=PySem.W.fnOf x qual (Gq st) (Da st) (Ba st) .none kV doc pm an cdv ct/\K.lookup f=some ⟨oc,od,.func fd,osl⟩/\PySem.W.codeIn K cdv qual=true
 kp:PySem.W.keepIn K (.ref f)=true
section
variable{P:Program}{w:World}{K:PySem.W.Frag}{mg:Str->Option Value}{base:Heap}
theorem Qcy{x qual:Str}{st:Stmt}{f:Addr}{oc:Value}{od an:Option Addr}{osl:Array (Option Value)}{kV doc pm cdv ct:Value}(l:K.lookup f=some ⟨oc,od,.func (PySem.W.fnOf x qual (Gq st) (Da st) (Ba st) .none kV doc pm an cdv ct),osl⟩)
  (c:PySem.W.codeIn K cdv qual=true) (k:PySem.W.keepIn K (.ref f)=true):Fun K x qual st f (PySem.W.fnOf x qual (Gq st) (Da st) (Ba st) .none kV doc pm an cdv ct):=⟨⟨oc,od,kV,doc,pm,an,cdv,ct,osl,rfl,l,c⟩,k⟩
end
section
variable{X:Cx}
end
def A6(H H':Hp):Prop:=∀b o,H b=some o->H' b=some o
theorem A6.refl(H:Hp):A6 H H:=λ_ _ h=>h
theorem A6.trans{H H1 H2:Hp}(a:A6 H H1)(b:A6 H1 H2):A6 H H2:=λc o h=>b c o (a c o h)
theorem A6.free{H H':Hp}(e:A6 H H'){l:Addr}(h:H' l=Option.none):H l=Option.none:=by
 cases q:H l with
 |none=>rfl
 |some o=>
  rw[e l o q] at h;cases h
section
variable{X:Cx}{pins:List (Addr×Obj)}{σ:List (Option V)}{H:Hp}{s:Shared}
theorem Inv.drew{h':Heap}{fp:List Addr}{a:Addr}{o:HO}{t':Nat}(I:Inv X pins σ H s)(k:∀b u,b∉fp->s.heap.get? b=some u->h'.get? b=some u)(hf:∀b∈fp,Gp X pins H b)
  (ha:s.heap.objs.size<=a) (new:C6 X.prog X.w (upd H a o) h' a o):Inv X pins σ (upd H a o) { s with heap:=h',toks:=t' }:=by
 have hn:H a=none:=I.hok.fresh ha;have ne:∀b u,s.heap.get? b=some u->b≠a:=λb u e z=>by
  have:=Heap.lt_size e;rw[z] at this;exact absurd this (Nat.not_lt.mpr ha)
 have nf:∀b u,H b=some u->b∉fp:=λb u e z=>by rw[(hf b z).1] at e;cases e
 have hL:X.env.locals∉fp:=λz=>(hf _ z).2.1 rfl
 refine I.step (g':=s.gens) (d':=s.drawn) (ch:=fp) (λb hb=>?_) (λb u _ _ hc e _=>k b u hc e) (λb u _ _ hc e _=>⟨u.slots,k b u hc e⟩) (λb u _ e n=>by rw[A7 (ne b u e)];exact n)
  (λb u hc e=>⟨u,k b u hc e⟩) (λb xs e=>by rw[A7 (A8 e hn)];exact e) (λb u v e=>by rw[A7 (A8 e hn)];exact e) (λb ps e=>⟨#[],by rw[A7 (A8 e hn),e];simp⟩) (λm hm=>?_) (λb u e=>?_) I.bare
 ·obtain⟨f0,f1,f2,f3,f4,f5⟩:=hf b hb
  exact⟨f3,f1,f4,f5⟩
 ·obtain⟨o,es,ep,ho,r⟩:=hm
  exact⟨o,es,ep,k _ o hL ho,r⟩
 ·by_cases hb:b=a
  ·subst hb
   rw[Az] at e;cases e;exact new
  ·rw[A7 hb] at e
   refine(I.hok b u e).stay (λc v hc q=>k c v ?_ q) (λc q=>by rw[A7 (A8 q hn)];exact q) (λc xs q=>by rw[A7 (A8 q hn)];exact q) (λc o u q=>by rw[A7 (A8 q hn)];exact q)
   rcases hc with z|z
   ·rw[z];exact nf b u e
   ·exact nf c _ z
theorem Inv.turnedL{h':Heap}{fp:List Addr}{t':Nat}(I:Inv X pins σ H s)(k:∀b u,b∉fp->s.heap.get? b=some u->h'.get? b=some u)(hf:∀b∈fp,Gp X pins H b):Inv X pins σ H { s with heap:=h',toks:=t' }:=by
 have nf:∀b u,H b=some u->b∉fp:=λb u e z=>by rw[(hf b z).1] at e;cases e
 have hL:X.env.locals∉fp:=λz=>(hf _ z).2.1 rfl
 refine I.step (g':=s.gens) (d':=s.drawn) (ch:=fp) (λb hb=>?_) (λb u _ _ hc e _=>k b u hc e) (λb u _ _ hc e _=>⟨u.slots,k b u hc e⟩) (λb u _ e n=>n)
  (λb u hc e=>⟨u,k b u hc e⟩) (λb xs e=>e) (λb u v e=>e) (λb ps e=>⟨#[],by rw[e];simp⟩) (λm hm=>?_) (λb u e=>?_) I.bare
 ·obtain⟨f0,f1,f2,f3,f4,f5⟩:=hf b hb
  exact⟨f3,f1,f4,f5⟩
 ·obtain⟨o,es,ep,ho,r⟩:=hm
  exact⟨o,es,ep,k _ o hL ho,r⟩
 ·refine(I.hok b u e).stay (λc v hc q=>k c v ?_ q) (λ_ q=>q) (λ_ _ q=>q) λ_ _ _ q=>q
  rcases hc with z|z
  ·rw[z];exact nf b u e
  ·exact nf c _ z
end
def Ite(J:It):It:=⟨J.go,λi H x H'=>∃T y,x=.ref T/\H T=none/\H'=upd H T (.tup [.int i,y])/\J.yld i H y H,J.stop⟩
structure DrawnBy(P:Program)(w:World)(K:PySem.W.Frag)(J:It)(it:Addr)(tn:Nat->Heap->Prop):Prop where
 obj:∀i h,tn i h->∃o,h.get? it=some o/\(∀v,o.data≠.cell v)/\o.cls≠.type "enumerate"
 keep:∀i h h',tn i h->(∀o,h.get? it=some o->h'.get? it=some o)->tn i h'
 item:∀(X:Cx),X.prog=P->X.w=w->X.K=K->X.calm=true->∀(i:Nat) (pins:List (Addr×Obj)) (s:Shared) (σ:St) (H:Hp),Inv X pins σ H s->tn i s.heap->J.go i H ->
  ∃(fp:List Addr) (n:Nat) (V:Nat->Value->Prop) (St:Nat->Heap->Prop),Draws P w X.A.in1 it fp n V St/\it∈fp/\i<n/\St i s.heap/\(∀h,St (i+1) h->tn (i+1) h)/\(∀b∈fp,∀o,s.heap.get? b=some o->o.cls≠.type "enumerate") /\
   ∀u,V i u->∃x,An x u/\J.yld i H x H
 done:∀(X:Cx),X.prog=P->X.w=w->X.K=K->X.calm=true->∀(i:Nat) (pins:List (Addr×Obj)) (s:Shared) (σ:St) (H:Hp),Inv X pins σ H s->tn i s.heap->J.stop i H ->
  ∃(fp:List Addr) (n:Nat) (V:Nat->Value->Prop) (St:Nat->Heap->Prop),Draws P w X.A.in1 it fp n V St/\St n s.heap
section
variable{prog:Program}{w:World}{A:Around}{E:Value->Shared->Prop}{s:Shared}
theorem Iz{g t:Addr}{i:Nat}{its:Array Value}{x:Value}{Q:Value->Shared->Prop}(hg:s.heap.IsTupleIter g t i)(ht:s.heap.IsTuple t its)(hx:its[i]?=some x)
  (hQ:∀h',h'.IsTupleIter g t (i+1)->Heap.SameBut g s.heap h'->Q x { s with heap:=h' }):wpAny (model prog w) A (Builtin.SmallTypes.nextOf (.ref g)) Q E s:=by
 obtain⟨og,e1,e2,e3⟩:=id hg;obtain⟨ot,f1,_,nt,f3⟩:=ht;unfold Builtin.SmallTypes.nextOf;refine wpAny_bind (wpAny_callSpecial?_slot (name:=Str.ofString "__next__") hg.typeIs F.slot_tuple_iterator_next (wpAny_call_entry F.slot_tuple_iterator_next hg.typeIs F.entry_tuple_iterator_next ?_ (F.args_tuple_iterator_next_1 _)))
 show wpAny _ _ (field (.ref g) 0 >>= _) _ _ s
 refine wpAny_bind (wpAny_field e1 e3 (x:=.ref t) rfl ?_)
 show wpAny _ _ (if (Value.ref t==Value.none)=true then _ else _) _ _ s;rw[if_neg (show ¬((Value.ref t==Value.none)=true) from Bool.false_ne_true)]
 show wpAny _ _ (field (.ref g) 1 >>= _) _ _ s
 refine wpAny_bind (wpAny_field e1 e3 (x:=.int i 0) rfl ?_)
 show wpAny _ _ (seqItems? (.ref t) >>= _) _ _ s;refine wpAny_bind (wpAny_seqItems f1 f3 ?_)
 simp only[Int.toNat_natCast,hx];refine wpAny_bind (wpAny_setField e1 e3 (by simp) (wpAny_pure ⟨x,rfl,wpAny_pure (hQ _ ?_ (Heap.SameBut.update ..))⟩))
 exact⟨_,Heap.get?_update_self _ e1 (Obj.isFreed_of_fields (Obj.data_mapFields e3 _)),(Obj.cls_mapFields ..).trans e2,by rw[Obj.data_mapFields e3];simp[rawInt]⟩
theorem Em{g t:Addr}{i:Nat}{its:Array Value}{Q:Value->Shared->Prop}(hh:A.handled=none)(hg:s.heap.IsTupleIter g t i)(ht:s.heap.IsTuple t its)(hx:its[i]?=none)
  (hE:∀h' e,Heap.ExtBut g s.heap h'->(∃o,h'.get? e=some o/\o.cls=.type "StopIteration")->E (.ref e) { s with heap:=h' }):wpAny (model prog w) A (Builtin.SmallTypes.nextOf (.ref g)) Q E s:=by
 obtain⟨og,e1,e2,e3⟩:=id hg;obtain⟨ot,f1,_,nt,f3⟩:=ht;unfold Builtin.SmallTypes.nextOf;refine wpAny_bind (wpAny_callSpecial?_slot (name:=Str.ofString "__next__") hg.typeIs F.slot_tuple_iterator_next (wpAny_call_entry F.slot_tuple_iterator_next hg.typeIs F.entry_tuple_iterator_next ?_ (F.args_tuple_iterator_next_1 _)))
 show wpAny _ _ (field (.ref g) 0 >>= _) _ _ s
 refine wpAny_bind (wpAny_field e1 e3 (x:=.ref t) rfl ?_)
 show wpAny _ _ (if (Value.ref t==Value.none)=true then _ else _) _ _ s;rw[if_neg (show ¬((Value.ref t==Value.none)=true) from Bool.false_ne_true)]
 show wpAny _ _ (field (.ref g) 1 >>= _) _ _ s
 refine wpAny_bind (wpAny_field e1 e3 (x:=.int i 0) rfl ?_)
 show wpAny _ _ (seqItems? (.ref t) >>= _) _ _ s;refine wpAny_bind (wpAny_seqItems f1 f3 ?_)
 simp only[Int.toNat_natCast,hx];refine wpAny_bind (wpAny_rule (wpAny_bind (wpAny_setField e1 e3 (by simp) ?_)))
 show wpAny _ _ (newExc (.type "StopIteration") [] >>= _) _ _ _;refine wpAny_bind ?_
 simp only[newExc,newTuple];refine wpAny_bind (wpAny_newObj_type ?_ (by size_fits))
 refine wpAny_bind (m:=firstArgMember _ _) (wpAny_of_eq (a:=Value.none) (by first|rfl|(simp only[firstArgMember];rfl)) ?_);refine wpAny_newObj_type ?_ (by size_fits)
 simp only[raiseNew];refine wpAny_bind (wpAny_handled ?_)
 first|rw[show A.in1.handled=none from hh]|rw[hh]
 refine wpAny_bind (wpAny_pure (wpAny_throw ?_));exact hE _ _ (((Heap.SameBut.update ..).extBut.push _).push _) ⟨_,Heap.get?_push_size _ rfl,rfl⟩
end
theorem Sz{prog:Program}{w:World}{A:Around}(hh:A.handled=none)(it l:Addr)(hne:l≠it)(items:Array Value) :
  Draws prog w A it [it,l] items.size (λi v=>items[i]?=some v) (λi h=>h.IsTupleIter it l i/\h.IsTuple l items) where
 live:=λ_ _ st=>let ⟨o,ho,_⟩:=st.1;⟨o,ho⟩
 frame:=λ_ h h' st hk=>by
  obtain⟨⟨o,e,r⟩,⟨o',e',r'⟩⟩:=st;exact⟨⟨o,hk it (by simp) o e,r⟩,⟨o',hk l (by simp) o' e',r'⟩⟩
 item:=λi s Q E hi st hQ=>Iz st.1 st.2 (x:=items[i]) (by simp[hi]) λh' hit' hs'=>hQ _ h' s.toks (by simp[hi]) ⟨hit',st.2.extBut hs'.extBut hne⟩ hs'
 done:=λs Q E st hE=>Em hh st.1 st.2 (by simp) hE
theorem Db{a b:String}(h:a≠b):Value.type a≠Value.type b:=λz=>h (by cases z;rfl)
theorem Q8{P:Program}{w:World}{K:PySem.W.Frag}(a it:Addr):DrawnBy P w K (Itl K a) it (λi h=>h.IsListIter it a i) where
  obj:=λi h st=>by
    obtain⟨o,e,c,d⟩:=st;exact⟨o,e,⟨λv z=>(by rw[d] at z;cases z),(by rw[c];exact Db (by decide))⟩⟩
  keep:=λi h h' st k=>st.at k
  item:=by
    intro X hP hw hK hc i pins s σ H I st hg;subst hP hw hK;obtain⟨xs,x,hq,hx⟩:=hg;obtain⟨its,rv,p,hz⟩:=I.list hq;obtain⟨u,hu,ru⟩:=rv.get hx;obtain⟨o,eo,co,dO⟩:=id st;obtain⟨o',eo',co',n',do'⟩:=id p.isList
    have hne:a≠it:=λz=>by
      subst z;rw[eo] at eo';cases eo';rw[co] at co';exact Db (by decide) co'
    have hl:=rv.length;have hi:i<its.toArray.size:=by
      obtain⟨z,_⟩:=List.getElem?_eq_some_iff.mp hu;simpa using z
    refine⟨_,_,_,_,Draws.list (A:=X.A.in1) (show X.A.handled=none from I.ok.hd hc) it a hne its.toArray,by simp,hi,⟨st,p.isList⟩,λh z=>z.1,λb hb o2 e2=>?_,λv hv=>?_⟩
    · rcases List.mem_cons.mp hb with z|hb
      · subst z
        rw[eo] at e2;cases e2;rw[co];exact Db (by decide)
      · have z:b=a:=by simpa using hb
        subst z;rw[eo'] at e2;cases e2;rw[co'];exact Db (by decide)
    · have:v=u:=by
        have h1:its[i]?=some v:=by simpa using hv
        rw[hu] at h1;exact(Option.some.inj h1).symm
      subst this;exact⟨x,ru,rfl,λys hy=>by rw[I.list_inj hy hq];exact hx⟩
  done:=by
    intro X hP hw hK hc i pins s σ H I st hg;subst hP hw hK;obtain⟨xs,hq,hx⟩:=hg;obtain⟨its,rv,p,hz⟩:=I.list hq;have hl:=rv.length;refine⟨[it,a],i,λ_ _=>True,λj h=>j=i/\h.IsListIter it a i/\h.IsList a its.toArray,?_,rfl,st,p.isList⟩
    exact { live:=fun _ _ z=>let ⟨o,ho,_⟩:=z.2.1; ⟨o,ho⟩
            frame:=λ_ _ _ z hk=>⟨z.1,z.2.1.at λo e=>hk it (by simp) o e,z.2.2.at λo e=>hk a (by simp) o e⟩
            item:=λj s Q E hj z _=>absurd z.1 (Nat.ne_of_lt hj)
            done:=λs Q E z hE=>wpAny_nextOf_list_end (show X.A.handled=none from I.ok.hd hc) z.2.1 z.2.2 (by simp;omega) hE }
theorem T0{P:Program}{w:World}{K:PySem.W.Frag}(a it:Addr):DrawnBy P w K (Itt K a) it (λi h=>h.IsTupleIter it a i) where
  obj:=λi h st=>by
    obtain⟨o,e,c,d⟩:=st;exact⟨o,e,⟨λv z=>(by rw[d] at z;cases z),(by rw[c];exact Db (by decide))⟩⟩
  keep:=λi h h' st k=>st.at k
  item:=by
    intro X hP hw hK hc i pins s σ H I st hg;subst hP hw hK;obtain⟨xs,x,hq,hx⟩:=hg;obtain⟨its,rv,p,hz⟩:=I.tuple hq;obtain⟨u,hu,ru⟩:=rv.get hx;obtain⟨o,eo,co,dO⟩:=id st;obtain⟨o',eo',co',n',do'⟩:=id (show s.heap.IsTuple a its.toArray from p)
    have hne:a≠it:=λz=>by
      subst z;rw[eo] at eo';cases eo';rw[co] at co';exact Db (by decide) co'
    have hl:=rv.length;have hi:i<its.toArray.size:=by
      obtain⟨z,_⟩:=List.getElem?_eq_some_iff.mp hu;simpa using z
    refine⟨_,_,_,_,Sz (A:=X.A.in1) (show X.A.handled=none from I.ok.hd hc) it a hne its.toArray,by simp,hi,⟨st,p⟩,λh z=>z.1,λb hb o2 e2=>?_,λv hv=>?_⟩
    · rcases List.mem_cons.mp hb with z|hb
      · subst z
        rw[eo] at e2;cases e2;rw[co];exact Db (by decide)
      · have z:b=a:=by simpa using hb
        subst z;rw[eo'] at e2;cases e2;rw[co'];exact Db (by decide)
    · have:v=u:=by
        have h1:its[i]?=some v:=by simpa using hv
        rw[hu] at h1;exact(Option.some.inj h1).symm
      subst this;exact⟨x,ru,rfl,λys hy=>by rw[I.tuple_inj hy hq];exact hx⟩
  done:=by
    intro X hP hw hK hc i pins s σ H I st hg;subst hP hw hK;obtain⟨xs,hq,hx⟩:=hg;obtain⟨its,rv,p,hz⟩:=I.tuple hq;have hl:=rv.length;refine⟨[it,a],i,λ_ _=>True,λj h=>j=i/\h.IsTupleIter it a i/\h.IsTuple a its.toArray,?_,rfl,st,p⟩
    exact { live:=fun _ _ z=>let ⟨o,ho,_⟩:=z.2.1; ⟨o,ho⟩
            frame:=λ_ _ _ z hk=>by
              obtain⟨z0,⟨o,e,r⟩,⟨o',e',r'⟩⟩:=z;exact⟨z0,⟨o,hk it (by simp) o e,r⟩,⟨o',hk a (by simp) o' e',r'⟩⟩
            item:=λj s Q E hj z _=>absurd z.1 (Nat.ne_of_lt hj)
            done:=λs Q E z hE=>Em (show X.A.handled=none from I.ok.hd hc) z.2.1 z.2.2 (by simp;omega) hE }
theorem T1{P:Program}{w:World}{K:PySem.W.Frag}{elts:List Expr}{kk:Nat}{pos:Pos}{J:It}{it:Addr}{tn:Nat->Heap->Prop}(D:DrawnBy P w K J it tn)(e:Addr)(hei:e≠it) :
  Turn P w K (.Tuple elts kk pos) (Ite J) [e,it] e (λi h=>(∃old,IsEnum h e it i old)/\tn i h) where
 mem:=by simp
 obj:=λi h st b hb=>by
  obtain⟨⟨old,he⟩,st⟩:=st;rcases List.mem_cons.mp hb with z|hb
  ·subst z
   exact⟨_,he,λv z=>by have z':Data.fields _=Data.cell v:=z;cases z'⟩
  ·have z:b=it:=by simpa using hb
   subst z;obtain⟨o,eo,q,_⟩:=D.obj i h st;exact⟨o,eo,q⟩
 keep:=λi h h' st k=>by
  obtain⟨⟨old,he⟩,st⟩:=st;exact⟨⟨old,k e (by simp) _ he⟩,D.keep i h h' st λo eo=>k it (by simp) o eo⟩
 item:=by
  intro X hP hw hK hc i pins s σ H E I hf st hg;obtain⟨⟨old,he⟩,st⟩:=st;obtain⟨fp,n,V,St,Dr,hif,hin,hst,hnx,hcl,hval⟩:=D.item X hP hw hK hc i pins s σ H I st hg;subst hP hw hK;have hef:e∉fp:=λz=>hcl e z _ he rfl
  refine wpAny_pyNext_enum_itemD Dr he hst hin hei hef λx h' tk hV hout hst' hT hsz hk=>⟨_,rfl,wpAny_letOwnedTupleGo_enum hout λh'' he'' hs''=>?_⟩
  obtain⟨y,ry,hy⟩:=hval x hV;have hTe:s.heap.objs.size≠e:=Nat.ne_of_gt (Heap.lt_size he);have k2:∀b u,b∉[e,it]->s.heap.get? b=some u->h''.get? b=some u:=λb u hb eb=>by
   have b1:b≠e:=λz=>hb (by simp[z])
   have b2:b≠it:=λz=>hb (by simp[z])
   exact(hs''.2 b b1).trans (hk b u b1 b2 eb)
  have hT':h''.get? s.heap.objs.size=some { cls:=.type "tuple",data:=.seq #[.int i tk,x] }:=(hs''.2 _ hTe).trans hT;have new:C6 X.prog X.w (upd H s.heap.objs.size (.tup [.int i,y])) h'' s.heap.objs.size (.tup [.int i,y]):=
   ⟨by simp only[List.length_cons,List.length_nil];rw[sizeLine_eq];decide,⟨[.int i tk,x],.cons ⟨tk,rfl⟩ (.cons ry .nil),⟨_,hT',rfl,_,rfl⟩⟩,λo q=>by rw[hT'] at q;cases q;rfl⟩
  have I2:Inv X pins σ (upd H s.heap.objs.size (.tup [.int i,y])) { s with heap:=h'',toks:=tk+1 }:=I.drew k2 hf (Nat.le_refl _) new
  refine⟨.ref s.heap.objs.size,_,I2,rfl,⟨_,y,rfl,I.hok.fresh (Nat.le_refl _),rfl,hy⟩,⟨⟨x,by simpa using he''⟩,?_⟩,λb hb=>?_⟩
  ·exact D.keep _ h' h'' (hnx h' hst') λo eo=>(hs''.2 it (Ne.symm hei)).trans eo
  ·have hb':b≠s.heap.objs.size:=by
    rcases List.mem_cons.mp hb with z|hb
    ·subst z;exact hTe.symm
    ·have z:b=it:=by simpa using hb
     subst z;obtain⟨o,eo,_⟩:=D.obj i _ st;exact Nat.ne_of_lt (Heap.lt_size eo)
   rw[A7 hb'];exact(hf b hb).1
 done:=by
  intro X hP hw hK hc i pins s σ H E I hf st hg;obtain⟨⟨old,he⟩,st⟩:=st;obtain⟨fp,n,V,St,Dr,hst⟩:=D.done X hP hw hK hc i pins s σ H I st hg;subst hP hw hK;exact wpAny_pyNext_enum_endD Dr he hst λh' hx=>⟨rfl,I.turnedL (t':=s.toks) (λb u hb eb=>hx b u (λz=>hb (by simp[z])) eb) hf⟩
 self:=λ_ _ _ _ _ st h=>by
  obtain⟨⟨old,he⟩,_⟩:=st;exact wpAny_pyIter_enum he h
end L2
namespace L2
open PySem PySem.Spec PyProof.Rows
open PySem.AutoSeq1 (wpAny_loadPart')
theorem Mx(l:Addr)(its:Array Value)(n:Nat)(dct:Option Addr)(sl:Array (Option Value)) :
  Meets (Builtin.«enumerate.__new__» ⟨[.type "enumerate",.ref l],[]⟩) (λ_ R s=>s.heap.get? l=some { cls:=.type "tuple",dict:=dct,data:=.seq its n,slots:=sl } /\
   R (.ok (.ret (.ref (s.heap.push { cls:=.type "tuple_iterator",data:=.fields #[.ref l,.int 0 0] }).objs.size)))
    { s with heap:=(s.heap.push { cls:=.type "tuple_iterator",data:=.fields #[.ref l,.int 0 0] }).push { cls:=.type "enumerate",data:=.fields #[.none,.bool false,.ref s.heap.objs.size,rawInt 0,.none,.none] } }):=
 .of_wp λprog w A R s h=>by
  obtain⟨hp,g,d,tk,os⟩:=s;obtain⟨hl,h⟩:=h;have hsub:=sub_enumerate;have hL:Heap.IsTuple (Shared.heap ⟨hp,g,d,tk,os⟩) l its:=⟨_,hl,rfl,n,rfl⟩
  wp_walk using wpAny_loadPart' hl
  refine wpAny_stack_any λst=>wpAny_pure ?_
  split
  ·rename_i c _ _ _ _ _
   cases (c==Value.type "enumerate")<;>(wp_walk using wpAny_loadPart' hl,wpAny_pyIter_tuple hL;exact⟨_,rfl,h⟩)
  ·wp_walk using wpAny_loadPart' hl,wpAny_pyIter_tuple hL;exact⟨_,rfl,h⟩
section
variable{prog:Program}{w:World}{A:Around}{E:Value->Shared->Prop}{s:Shared}
theorem L5{l:Addr}{its:Array Value}{Q:Value->Shared->Prop}(hL:s.heap.IsTuple l its)
  (h:∀h',IsEnum h' (s.heap.objs.size+1) s.heap.objs.size 0 .none->h'.IsTupleIter s.heap.objs.size l 0->h'.objs.size=s.heap.objs.size+2->(∀b o,s.heap.get? b=some o->h'.get? b=some o)->Q (.ref (s.heap.objs.size+1)) { s with heap:=h' }) :
  wpAny (model prog w) A (call (.type "enumerate") [.ref l]) Q E s:=by
 obtain⟨⟨c,dct,dt,sl⟩,hl,hc,n,hd⟩:=hL
 replace hc:c=.type "tuple" := hc
 replace hd:dt=.seq its n:=hd
 subst hc hd;refine callType_new F.called_enumerate (by decide) (F.typeCall_enumerate_1 _) (F.newCall_enumerate_1 _) (λobj=>F.args_object_init_2 obj _) F.entry_enumerate_new (Mx l its n dct sl) ⟨hl,?_⟩
 have hz:(s.heap.push { cls:=.type "tuple_iterator",data:=.fields #[.ref l,.int 0 0] }).objs.size=s.heap.objs.size+1:=Heap.size_push ..
 show _/\_;rw[hz]
 have he:IsEnum ((s.heap.push { cls:=.type "tuple_iterator",data:=.fields #[.ref l,.int 0 0] }).push { cls:=.type "enumerate",data:=.fields #[.none,.bool false,.ref s.heap.objs.size,rawInt 0,.none,.none] }) (s.heap.objs.size+1) s.heap.objs.size 0 .none:=by
  have:=Heap.get?_push_size (s.heap.push { cls:=.type "tuple_iterator",data:=.fields #[.ref l,.int 0 0] }) (o:={ cls:=.type "enumerate",data:=.fields #[.none,.bool false,.ref s.heap.objs.size,rawInt 0,.none,.none] }) rfl;rw[hz] at this;exact this
 exact⟨⟨_,he,rfl⟩,h _ he ⟨_,Heap.get?_push_of_some _ (Heap.get?_push_size _ rfl),rfl,rfl⟩ (by rw[Heap.size_push,hz]) λb o x=>Heap.get?_push_of_some _ (Heap.get?_push_of_some _ x)⟩
end
theorem T2:bootBuiltins "enumerate" = some (.type "enumerate"):=by decide +kernel
section
variable{X:Cx}{elts:List Expr}{kk:Nat}{tpos:Pos}
def Qiz(K:PySem.W.Frag)(ta:TA):TI:=λσ H R=>ta σ H λvs H1=>∃a,vs=[.ref a]/\(((∃xs,SqL K H1 a xs)/\R (Ite (Itl K a)) H1)\/((∃xs,SqT K H1 a xs)/\R (Ite (Itt K a)) H1))
theorem Ym{a:Expr}{ta:TA}{p pos:Pos}(hg:Gl X "enumerate")(hm:X.mg "enumerate" = none)(ha:PA X [a] ta)(hs:starEach [a] X.env=[(false,eval a X.env)]:=by rfl) :
  PI X (.Tuple elts kk tpos) (.Call (.Name "enumerate" p) [a] [] pos) (Qiz X.K ta):=by
 intro pins s σ H R I h;refine Call_ (Dh I hg hm T2 (PyProof.Rows.callWith_type1 (thn (ha pos pins s σ H _ I h) λus s1 ⟨vs,H1,I1,r1,q1⟩=>?_) hs rfl))
 obtain⟨a,rfl,q⟩:=q1
 cases r1 with
 |cons r rr=>
  cases rr;cases r;have fin:∀(J:It) (tn:Nat->Heap->Prop) (h':Heap),IsEnum h' (s1.heap.objs.size+1) s1.heap.objs.size 0 .none->tn 0 h'->(∀b o,s1.heap.get? b=some o->h'.get? b=some o)->DrawnBy X.prog X.w X.K J s1.heap.objs.size tn->R (Ite J) H1 ->
    wpAny (model X.prog X.w) X.A (pyIter (.ref (s1.heap.objs.size+1))) (PIE X pins σ (.Tuple elts kk tpos) R) X.xe { s1 with heap:=h' }:=by
   intro J tn h' he ht hk D q;refine wpAny_pyIter_enum he ⟨_,[s1.heap.objs.size+1,s1.heap.objs.size],_,_,H1,rfl,I1.kept (t':=s1.toks) hk,T1 D _ (Nat.ne_of_gt (Nat.lt_succ_self _)),⟨⟨_,he⟩,ht⟩,λb hb=>?_,q⟩
   have hb':s1.heap.objs.size<=b:=by
    rcases List.mem_cons.mp hb with z|hb
    ·rw[z];exact Nat.le_succ _
    ·have z:b=s1.heap.objs.size:=by simpa using hb
     rw[z];exact Nat.le_refl _
   exact I1.fpOk hb' (I1.hok.fresh hb')
  rcases q with⟨⟨xs,hq⟩,q⟩|⟨⟨xs,hq⟩,q⟩
  ·obtain⟨its,rv,pp,hz⟩:=I1.list hq
   exact call_enumerate_list pp.isList λh' he hl hsz hk=>fin _ _ h' he hl hk (Q8 a _) q
  ·obtain⟨its,rv,pp,hz⟩:=I1.tuple hq
   exact L5 pp λh' he hl hsz hk=>fin _ _ h' he hl hk (T0 a _) q
end
section
variable{prog:Program}{w:World}{A:Around}{E:Value->Shared->Prop}{s:Shared}
end
end L2
namespace L2
open PySem PySem.Spec PyProof.Rows
section
variable{prog:Program}{w:World}{A:Around}{E:Value->Shared->Prop}{s:Shared}
end
section
variable{X:Cx}
end
end L2
namespace L2
open PySem PySem.Spec PyProof.Rows
open PySem.AutoSeq1 (wpAny_loadPart')
theorem T4{M:Model}{A:Around}{E:Value->Shared->Prop}{s:Shared}{β:Type}{lo hi:Nat}(f:Nat->β->Sem (ForInStep β))(I:List Nat->β->Shared->Prop)(Q:β->Shared->Prop)
  (turn:∀x rest b s,I (x::rest) b s->wpAny M A (f x b) (λr s'=>match r with|.yield b'=>I rest b' s'|.done b'=>Q b' s') E s)
  (fin:∀b s,I [] b s->Q b s) (b:β) (h:I (List.range' lo (hi-lo)) b s):wpAny M A (forIn [lo:hi] b f) Q E s:=by
 rw[Std.Legacy.Range.forIn_eq_forIn_range'];have e:([lo:hi]:Std.Legacy.Range).size=hi-lo:=by simp[Std.Legacy.Range.size]
 show wpAny M A (forIn (List.range' lo ([lo:hi]:Std.Legacy.Range).size 1) b f) Q E s
 rw[e];exact wpAny_forIn_list f I Q turn fin _ b h
theorem O6(l:Addr)(its:Array Value)(n:Nat)(dd:Option Addr)(sl:Array (Option Value))(x:Value)(e:Value->Bool)(j:Nat)(hj:j<its.size)(hit:e its[j]=true)(hno:∀m (hm:m<its.size),m<j->e its[m]=false) :
  Meets (Builtin.«tuple.index» ⟨[.ref l,x],[]⟩)
   (λA R s=>s.heap.get? l=some { cls:=.type "tuple",dict:=dd,data:=.seq its n,slots:=sl }/\(∀y,y∈its->SeqAt.EqAt A.in1 s y x (e y))/\R (.ok (.ret (.int j s.toks))) { s with toks:=s.toks+1 }):=
 .of_wp λprog w A R s h=>by
  obtain⟨hp,g,d,tk,os⟩:=s;obtain⟨hl,he,h⟩:=h
  wp_walk using wpAny_loadPart' hl,T4 _ (λrest (b:Option Fin×PUnit) s'=>b.1=none/\s'=⟨hp,g,d,tk,os⟩/\∃i,rest=List.range' i (its.size-i)/\i<=j) _
  case turn=>
   rintro y rest b s' ⟨hb,rfl,i,hr,hij⟩
   have hlt:i<its.size:=by omega
   rw[show its.size-i=(its.size-(i+1))+1 by omega,List.range'_succ] at hr
   injection hr with e1 e2
   subst e1 e2;have hi:its[y]?=some its[y]:=by simp[hlt]
   rw[hi];refine wpAny_bind (he _ (Array.getElem_mem hlt) prog w _ _ ?_);by_cases c:y=j
   ·subst c
    rw[hit]
    wp_walk
    exact⟨_,rfl,h⟩
   ·rw[hno y hlt (by omega)]
    wp_walk
    exact⟨rfl,rfl,y+1,rfl,by omega⟩
  case fin=>
   rintro b s' ⟨hb,rfl,i,hr,hij⟩
   have:(List.range' i (its.size-i)).length=0:=by rw[<-hr];rfl
   simp at this;omega
  case h=>exact⟨rfl,rfl,0,by simp,Nat.zero_le _⟩
end L2
namespace HT
open PySem PySem.Spec PyProof.Rows
section
variable{prog:Program}{w:World}{A:Around}{E:Value->Shared->Prop}{s:Shared}
theorem getItem_tuple_whole{t sl:Addr}{items:Array Value}{vl vu:Value}{lo hi:Option Int}{Q:Value->Shared->Prop}(ht:IsTup s.heap t items)(hs:s.heap.IsSliceOf sl vl vu .none)(pl:IsPart vl lo)(pu:IsPart vu hi)
  (hw:sIx items.size 0 lo=0/\sIx items.size items.size hi=items.size) (h:Q (.ref t) s):wpAny (model prog w) A (getItem (.ref t) (.ref sl)) Q E s:=by
 obtain⟨os,hos,hcs,hds⟩:=id hs;have hTs:s.TypeIs (.ref sl) "slice" := ⟨os,hos,hcs⟩;unfold getItem
 try with_reducible refine wpAny_holding ?_
 first|refine wpAny_bind (wpAny_pure ?_)|skip
 refine wpAny_bind (wpAny_sequenceKey ht.typeIs (by decide) ?_)
 refine wpAny_bind (wpAny_callSpecial?_slot (name:=Str.ofString "__getitem__") ht.typeIs PyProof.Rows.slot_tuple_getitem
  (wpAny_call_entry PyProof.Rows.slot_tuple_getitem ht.typeIs entry_tuple_getitem ?_ (args_tuple_getitem _ _)))
 show wpAny _ _ (Builtin.Tuple.tupleItemsOf (.ref t) >>= _) _ _ s
 refine wpAny_bind (tupleItemsOf_ ht ?_);refine wpAny_bind (wpAny_typeOf hTs ?_);rw[if_pos (by decide)]
 refine wpAny_bind (Dp hs pl pu ?_);have hyes:((((sIx items.size 0 lo:Nat):Int)==0&&(1:Int)==1&&(sIx items.size items.size hi-sIx items.size 0 lo)==items.size)=true):=by
  rw[hw.1,hw.2];simp
 show wpAny _ _ (if (((sIx items.size 0 lo:Nat):Int)==0&&(1:Int)==1&&(sIx items.size items.size hi-sIx items.size 0 lo)==items.size)=true then _ else _) _ _ s
 rw[if_pos hyes];refine wpAny_bind ?_;unfold Builtin.Tuple.tupleIsExact
 first
  |refine wpAny_bind (wpAny_typeOf ht.typeIs (wpAny_pure ?_))
  |(refine wpAny_typeOf ht.typeIs ?_)
 rw[if_pos (by decide)]
 exact wpAny_bind (wpAny_rule (wpAny_pure ⟨_,rfl,wpAny_pure h⟩))
end
end HT
namespace L2
open PySem PySem.Spec PyProof.Rows
variable{X:Cx}
def Qj0(K:PySem.W.Frag):V->Option Int->Option Int->Hp->VK->Prop:=λx lo hi H Q=>∃a xs,x=.ref a/\SqT K H a xs/\(HT.sIx xs.length 0 lo=0/\HT.sIx xs.length xs.length hi=xs.length)/\Q (.ref a) H
theorem Yn:SlR X (Qj0 X.K):=by
 intro pins s σ H x v vl vu lo hi sl Q I rx hs pl pu h;obtain⟨a,xs,rfl,hx,hw,q⟩:=h;cases rx;obtain⟨its,r,ht,hz⟩:=I.tuple hx;have hlen:its.toArray.size=xs.length:=by rw[List.size_toArray];exact r.length.symm
 refine⟨"tuple",_,PyProof.Rows.slot_tuple_getitem.lookup,ht.typeIs,?_⟩;exact HT.getItem_tuple_whole ht hs pl pu (by rw[hlen];exact hw) ⟨.ref a,H,I,rfl,q⟩
section
variable{M:Model}{A:Around}{E:Value->Shared->Prop}
structure CellsOk(n0:Nat)(cl:List (Str×Addr))(Cn:Str->Prop)(h:Heap)(cs:List (Str×Addr)):Prop where
 at':∀x c,cs.lookup x=some c->(Cn x/\n0<c/\c<h.objs.size/\h.IsCell c none)\/cl.lookup x=some c
 inj:∀x y c,cs.lookup x=some c->cs.lookup y=some c->x=y
 old:∀x c,cl.lookup x=some c->∃c',cs.lookup x=some c'
theorem Ju{n0:Nat}{cl:List (Str×Addr)}{Cn:Str->Prop}(hcl:∀x c,cl.lookup x=some c->c<n0){k:List (Str×Addr)->Sem Env}{Q:Env->Shared->Prop}:∀(names:List (Str×NameKind)) (acc:List (Str×Addr)) (s:Shared),(∀y∈names,y.2=.cell->Cn y.1)->n0<s.heap.objs.size->CellsOk n0 cl Cn s.heap acc ->
  (∀h' cs,(∀b o,s.heap.get? b=some o->h'.get? b=some o)->CellsOk n0 cl Cn h' cs->(∀y∈names,y.2=.cell->∃c,cs.lookup y.1=some c)->(∀x c,acc.lookup x=some c->∃c',cs.lookup x=some c')->wpAny M A (k cs) Q E { s with heap:=h' }) ->
  wpAny M A ((forIn names acc λ(x:Str×NameKind) (r:List (Str×Addr))=>match x with|(name,kind)=>if (kind==NameKind.cell)=true then do let c <-alloc { cls:=Value.type "cell",data:=Data.cell none };pure (ForInStep.yield ((name,c)::r)) else pure (ForInStep.yield r)) >>= k) Q E s
 |[],acc,s,_,_,ok,h=>by
  rw[List.forIn_nil];refine wpAny_bind (wpAny_pure ?_);exact h s.heap acc (λ_ _ z=>z) ok (λy hy=>nomatch hy) (λx c z=>⟨c,z⟩)
 |(nm,kd)::r,acc,s,hn,hs,ok,h=>by
  rw[List.forIn_cons,bind_assoc];by_cases hk:kd=.cell
  ·subst hk
   simp only[beq_self_eq_true,if_true];refine wpAny_bind (wpAny_bind (wpAny_alloc (wpAny_pure ?_)));have hcn:Cn nm:=hn (nm,.cell) List.mem_cons_self rfl;have look:∀x c,((nm,s.heap.objs.size)::acc).lookup x=some c->(x=nm/\c=s.heap.objs.size)\/(x≠nm/\acc.lookup x=some c):=λx c z=>by
    rw[List.lookup_cons] at z
    cases e:x==nm with
    |true=>rw[e] at z;cases z;exact .inl ⟨eq_of_beq e,rfl⟩
    |false=>rw[e] at z;exact .inr ⟨λy=>(by rw[y,beq_self_eq_true] at e;cases e),z⟩
   have sz:(s.heap.push { cls:=Value.type "cell",data:=Data.cell none }).objs.size=s.heap.objs.size+1:=Heap.size_push _ _;have lt:∀x c,acc.lookup x=some c->c<s.heap.objs.size:=λx c z=>by
    rcases ok.at' x c z with y|y
    ·exact y.2.2.1
    ·exact Nat.lt_trans (hcl x c y) hs
   refine Ju hcl r ((nm,s.heap.objs.size)::acc) { s with heap:=s.heap.push { cls:=Value.type "cell",data:=Data.cell none } } (λy hy=>hn y (List.mem_cons_of_mem _ hy)) (by rw[sz];exact Nat.lt_succ_of_lt hs) ⟨λx c z=>?_,λx y c z1 z2=>?_,λx c z=>?_⟩ λh' cs k1 ok' k2 k3=>?_
   ·rcases look x c z with⟨rfl,rfl⟩|⟨_,z'⟩
    ·exact .inl ⟨hcn,hs,by rw[sz];exact Nat.lt_succ_self _,_,Heap.get?_push_size _ rfl,rfl⟩
    ·rcases ok.at' x c z' with⟨y1,y2,y3,o,y4,y5⟩|y
     ·exact .inl ⟨y1,y2,by rw[sz];exact Nat.lt_succ_of_lt y3,o,Heap.get?_push_of_some _ y4,y5⟩
     ·exact .inr y
   ·rcases look x c z1 with⟨e1,e2⟩|⟨e1,z1'⟩
    ·rcases look y c z2 with⟨e3,e4⟩|⟨e3,z2'⟩
     ·rw[e1,e3]
     ·exact absurd (lt y c z2') (by rw[e2];exact Nat.lt_irrefl _)
    ·rcases look y c z2 with⟨e3,e4⟩|⟨e3,z2'⟩
     ·exact absurd (lt x c z1') (by rw[e4];exact Nat.lt_irrefl _)
     ·exact ok.inj x y c z1' z2'
   ·obtain⟨c',z'⟩:=ok.old x c z
    rw[List.lookup_cons]
    cases e:x==nm with
    |true=>exact⟨_,rfl⟩
    |false=>exact⟨c',z'⟩
   ·refine h h' cs (λb o e=>k1 b o (Heap.get?_push_of_some _ e)) ok' (λy hy hc=>?_) (λx c z=>?_)
    ·rcases List.mem_cons.mp hy with rfl|hy
     ·exact k3 _ s.heap.objs.size (by rw[List.lookup_cons,beq_self_eq_true])
     ·exact k2 y hy hc
    ·cases e:x==nm with
     |true=>exact k3 x s.heap.objs.size (by rw[List.lookup_cons,e])
     |false=>exact k3 x c (by rw[List.lookup_cons,e];exact z)
  ·have hb:(kd==NameKind.cell)=false:=by simpa using hk
   simp only[hb,Bool.false_eq_true,if_false,pure_bind];refine Ju hcl r acc s (λy hy=>hn y (List.mem_cons_of_mem _ hy)) hs ok λh' cs k1 ok' k2 k3=>h h' cs k1 ok' (λy hy hc=>?_) k3
   rcases List.mem_cons.mp hy with rfl|hy
   ·exact absurd hc hk
   ·exact k2 y hy hc
theorem Mz{s:Shared}{scope:Scope}{globals:Addr}{cl:List (Str×Addr)}{qual:Str}{env:Env}{Q:Env->Shared->Prop}(hcl:∀x c,cl.lookup x=some c->c<s.heap.objs.size)(hinj:∀x y c,cl.lookup x=some c->cl.lookup y=some c->x=y)
  (h:∀h' cs,(∀b o,s.heap.get? b=some o->h'.get? b=some o)->h'.Ns s.heap.objs.size (λ_=>none)->CellsOk s.heap.objs.size cl (λx=>(x,NameKind.cell)∈scope.names) h' cs->(∀y∈scope.names,y.2=.cell->∃c,cs.lookup y.1=some c) ->
   Q (newEnv scope s.heap.objs.size globals cs qual none .none (some env) builtinsNs) { s with heap:=h' }) :
  wpAny M A (newFunctionEnv scope globals cl [] qual none .none (some env)) Q E s:=by
 unfold newFunctionEnv;refine wpAny_bind (wpAny_alloc ?_);have sz:(s.heap.push { cls:=Value.type "dict",data:=Data.dict #[] }).objs.size=s.heap.objs.size+1:=Heap.size_push _ _;refine Ju (n0:=s.heap.objs.size) (cl:=cl) (Cn:=λx=>(x,NameKind.cell)∈scope.names) hcl scope.names cl { s with heap:=s.heap.push { cls:=Value.type "dict",data:=Data.dict #[] } } (λy hy hc=>by rw[<-hc];exact hy) (by rw[sz];exact Nat.lt_succ_self _) ⟨λx c z=>.inr z,hinj,λx c z=>⟨c,z⟩⟩ λh' cs k1 ok k2 k3=>?_
 refine wpAny_bind (wpAny_pure ?_);exact wpAny_pure (h h' cs (λb o e=>k1 b o (Heap.get?_push_of_some _ e)) ((Heap.Ns.new s.heap _).keeps k1) ok k2)
end
section
variable{X:Cx}{pins:List (Addr×Obj)}{σ:L2.St}{H:Hp}{s:Shared}
end
section
variable{X:Cx}
def Qfz:R2:=λx y H Q=>∃a b,x=.str a/\y=.str b/\a.length+b.length<=sizeLine/\Q (.str (a++b)) H
theorem Yo:OpR X (binaryOp .Add) Qfz:=by
 intro pins s σ H x y v u Q I rx ry h;obtain⟨a,b,rfl,rfl,hz,q⟩:=h;obtain⟨t,rfl⟩:=rx;obtain⟨t',rfl⟩:=ry;exact PyProof.Rows.add_str (λt' tk=>⟨.str (a++b),H,I.tok _,⟨t',rfl⟩,q⟩) hz
theorem Lq:∀(l:List (Str×Tok)),Ab (l.map λp=>V.str p.1) (strValues l)
 |[]=>.nil
 |p::l=>.cons ⟨p.2,rfl⟩ (Lq l)
theorem Rc:∀{zs:List Str} {us:List Value},Ab (zs.map V.str) us->∃l,us=strValues l/\l.map (·.1)=zs
 |[],_,.nil=>⟨[],rfl,rfl⟩
 |z::zs,_,.cons ⟨t,e⟩ r=>by
  obtain⟨l,e1,e2⟩:=Rc r;subst e;exact⟨(z,t)::l,by rw[e1];rfl,by rw[List.map_cons,e2]⟩
def Qcz:V->List V->Hp->VK->Prop:=λx vs H Q=>∃z c,x=.str z/\vs=[.str ⟨#[c]⟩]/\z.length+2<=sizeLine/\∀p,H p=none->Q (.ref p) (upd H p (.lst ((Txt.split z ⟨#[c]⟩).map V.str)))
theorem V5:MtR X "str.split" Qcz:=by
 intro pins s σ H x vs v us Q I rx rv h;obtain⟨z,c,rfl,rfl,hz,q⟩:=h;obtain⟨t,rfl⟩:=rx;obtain⟨u,rfl,ru⟩:=rv.one;obtain⟨t',rfl⟩:=ru;have hl:=PyProof.Rows.split_le z ⟨#[c]⟩;have hz1:z.length<=sizeLine:=by omega
 have fin:∀(l:List (Str×Tok)) (k:Nat),l.map (·.1)=Txt.split z ⟨#[c]⟩->EP X pins σ Q (.ref s.heap.objs.size) { s with heap:=s.heap.push { cls:=.type "list",data:=.seq (strValues l).toArray },toks:=k }:=λl k e=>by
  have e2:(Txt.split z ⟨#[c]⟩).map V.str=l.map λp=>V.str p.1:=by rw[<-e,List.map_map];rfl
  have r:=Lq l;rw[<-e2] at r;exact⟨.ref _,_,I.lnew (t':=k) r (by rw[List.length_map];omega),rfl,q _ I.fresh⟩
 have hy:((⟨#[c]⟩:Str).length==0)=false:=rfl;unfold Txt.split at hl fin;cases h1:(decide (z.length<(⟨#[c]⟩:Str).length)||decide (Builtin.Str.strKind z<Builtin.Str.strKind ⟨#[c]⟩))
 ·rw[h1,if_neg Bool.false_ne_true] at hl
  simp only[h1,Bool.false_eq_true,if_false] at fin;cases hf:(Builtin.Str.occurrences z ⟨#[c]⟩ 0 z.length (z.length+1)).isEmpty
  ·rw[hf,if_neg Bool.false_ne_true] at hl
   simp only[hf,Bool.false_eq_true,if_false] at fin;refine call_meets F.slot_str_split (typeIs_str _ _ _) F.entry_str_split (F.args_str_split_2 _ _) (meets_str_split_sep z ⟨#[c]⟩ t t' h1 hy hf hz1 (by omega)) ?_
   show wants (EP X pins σ Q) X.xe _ { s with toks:=_,heap:=s.heap.push { cls:=.type "list",data:=.seq (strsFrom s.toks (Builtin.Str.partsBetween z (Builtin.Str.occurrences z ⟨#[c]⟩ 0 z.length (z.length+1)) (⟨#[c]⟩:Str).length)).toArray } }
   rw[strsFrom_eq];exact fin (numbered s.toks _) _ (numbered_texts _ _)
  ·simp only[hf,if_true] at fin
   exact call_meets F.slot_str_split (typeIs_str _ _ _) F.entry_str_split (F.args_str_split_2 _ _) (meets_str_split_not_found z ⟨#[c]⟩ t t' h1 hy hf) (fin [(z,t)] s.toks rfl)
 ·simp only[h1,if_true] at fin
  exact call_meets F.slot_str_split (typeIs_str _ _ _) F.entry_str_split (F.args_str_split_2 _ _) (meets_str_split_cannot_occur z ⟨#[c]⟩ t t' h1) (fin [(z,t)] s.toks rfl)
def Qg0(K:PySem.W.Frag):V->List V->Hp->VK->Prop:=λx vs H Q=>∃z l zs,x=.str z/\vs=[.ref l]/\SqL K H l (zs.map V.str)/\JoinOk z zs=true/\Q (.str (Str.join z zs)) H
theorem Yp:MtR X "str.join" (Qg0 X.K):=by
 intro pins s σ H x vs v us Q I rx rv h;obtain⟨z,l,zs,rfl,rfl,hq,hj,q⟩:=h;obtain⟨t,rfl⟩:=rx;obtain⟨u,rfl,ru⟩:=rv.one;cases ru;obtain⟨its,r,pl,_⟩:=I.list hq;obtain⟨ll,e1,e2⟩:=Rc r;subst e1;refine SC.join (texts:=zs) pl.isList e2 hj λt' k=>⟨.str (Str.join z zs),H,I.tok _,⟨t',?_⟩,q⟩
 rw[<-StrLaws.glued_eq_join];rfl
def Qj1:List V->Hp->VK->Prop:=λvs H Q=>∃i:Int,vs=[.int i]/\0<=i/\i<=9/\Q (.str ⟨#[48+i.toNat]⟩) H
theorem T5:Be X (.type "str") Qj1:=by
 intro pins s σ H vs us Q I rv h;obtain⟨i,rfl,h0,h9,q⟩:=h;obtain⟨u,rfl,ru⟩:=rv.one;obtain⟨t,rfl⟩:=ru;have hb:i.natAbs.log2<1920:=by
  have:i=0\/i=1\/i=2\/i=3\/i=4\/i=5\/i=6\/i=7\/i=8\/i=9:=by omega
  rcases this with rfl|rfl|rfl|rfl|rfl|rfl|rfl|rfl|rfl|rfl<;>decide
 refine PySem.P.str_of_int hb ⟨.str ⟨#[48+i.toNat]⟩,H,I.tok _,⟨s.toks,?_⟩,q⟩;have:i=0\/i=1\/i=2\/i=3\/i=4\/i=5\/i=6\/i=7\/i=8\/i=9:=by omega
 rcases this with rfl|rfl|rfl|rfl|rfl|rfl|rfl|rfl|rfl|rfl<;>rfl
end
theorem T6(o:Obj)(f):(o.mapFields f).dict=o.dict:=by
 unfold Obj.mapFields;split<;>rfl
def TrX(h base:Heap)(e:Addr)(c:Value)(d:Option Addr)(fl:Value):Prop:=
 ∃oe vs T oT ts,h.get? e=some oe/\(oe.cls=c/\oe.dict=d/\(d≠none->vs[2]?=some .none))/\oe.data=.fields vs/\vs[1]?=some (.ref T)/\base.get? T=none/\T≠e/\h.get? T=some oT/\oT.data=.fields ts/\ts[3]?=some fl
structure NtX(base:Heap)(l:List Env)(e:Addr)(c:Value)(d:Option Addr)(fl:Value)(h h':Heap):Prop where
 st:base.StaysIn h'
 ff:h'.FunFrames base l
 tr:TrX h' base e c d fl
 sl:h.UpToSlots h'
section
variable{M:Model}{A:Around}{E:Value->Shared->Prop}{s:Shared}{base:Heap}{env:Env}{outer:List Env}{L e:Addr}{c:Value}{d:Option Addr}{Q:Unit->Shared->Prop}
theorem V6{oe:Obj}{vs:Array Value}{head:Value}{hadNext:Bool}(hfr:A.frames=some (env::outer))(hl:s.heap.FunFrames base (env::outer))(hf:env.frame=some L)
  (he:s.heap.get? e=some oe) (hkb:base.StaysIn s.heap) (hen:base.get? e=none) (hd:oe.data=.fields vs) (hsz:1<vs.size) (h0:oe.cls=c/\oe.dict=d/\(d≠none->vs[2]?=some .none))
  (h:∀h',NtX base (env::outer) e c d (rawInt L) s.heap h'->Q () { s with heap:=h' }) :
  wpAny M A (do let a <-frameOf env;let pl <-entryPlaceOf L hadNext;let b <-EntryCells.newEntry head a .none (rawInt L) .none pl;setField (.ref e) 1 b) Q E s:=by
 have hene:e∉(env::outer).filterMap (·.frame):=λhm=>by
  obtain⟨_,o,ho,hnf⟩:=hl.mem hm;rw[he] at ho;cases ho;exact hnf vs hd
 refine wpAny_bind (wpAny_frameOf_fun hfr hl hf λh1 hs=>?_)
 refine wpAny_bind (wpAny_entryPlaceOf λpl hpl=>?_)
 unfold EntryCells.newEntry newFields;refine wpAny_bind (wpAny_newObj_type ?_ (hpl.sizeOk5 _ _ _ _ _));have he1:h1.get? e=some oe:=(hs.2.1 e hene).trans he;have kb1:base.StaysIn h1:=λb o q=>(hs.2.1 b λhm=>by rw[(hl.mem hm).1] at q;cases q).trans (hkb b o q)
 generalize hoT:({ cls:=.type "traceback",dict:=none,data:=.fields ([head,.ref L,.none,rawInt L,.none]++(if pl.isEmpty then List.replicate 6 Value.none else pl)).toArray }:Obj)=oT
 have hdT:oT.data=.fields ([head,.ref L,.none,rawInt L,.none]++(if pl.isEmpty then List.replicate 6 Value.none else pl)).toArray:=by rw[<-hoT]
 have he2:=Heap.get?_push_of_some (h:=h1) oT he1;refine wpAny_setField he2 hd hsz (h _ ?_);have ne:h1.objs.size≠e:=Nat.ne_of_gt (Heap.lt_size he1);have hd3:=Obj.data_mapFields hd (·.setIfInBounds 1 (Value.ref h1.objs.size));have he3:=Heap.get?_update_self (Obj.mapFields (·.setIfInBounds 1 (Value.ref h1.objs.size))) he2 (Obj.isFreed_of_fields hd3);have hT3:=(Heap.get?_update_other (h1.push oT) (Obj.mapFields (·.setIfInBounds 1 (Value.ref h1.objs.size))) (Ne.symm ne)).trans (Heap.get?_push_size h1 (Obj.isFreed_of_fields hdT));have keep:∀b o,b≠e->h1.get? b=some o->((h1.push oT).update e (Obj.mapFields (·.setIfInBounds 1 (Value.ref h1.objs.size)))).get? b=some o:=λb o hbe hb=>by
  rw[Heap.get?_update_other _ _ (Ne.symm hbe)];exact Heap.get?_push_of_some _ hb
 have nr:∀b o,s.heap.get? b=some o->(∀vs,o.data≠.fields vs)->b≠e:=λb o hb hnf q=>by
  rw[q,he] at hb;cases hb;exact hnf vs hd
 refine⟨λb o q=>keep b o (λz=>by rw[z,hen] at q;cases q) (kb1 b o q),hl.of_keeps λb o hb hnf=>?_,?_,λb o hb hnf=>?_⟩
 ·obtain⟨sl,q⟩:=hs.2.2 b o hb
  exact⟨_,keep b _ (nr b o hb hnf) q,rfl⟩
 ·exact⟨_,_,h1.objs.size,_,_,he3,⟨(Obj.cls_mapFields _ _).trans h0.1,(T6 _ _).trans h0.2.1,λz=>by rw[Array.getElem?_setIfInBounds_ne (by decide)];exact h0.2.2 z⟩,hd3,by simp[hsz],kb1.fresh,ne,hT3,hdT,by first|(simp;done)|(rcases hpl with rfl|⟨_,_,_,_,_,_,_,rfl⟩<;>simp)⟩
 ·obtain⟨sl,q⟩:=hs.2.2 b o hb
  exact⟨sl,keep b _ (nr b o hb hnf) q⟩
theorem O7{oe:Obj}{vs:Array Value}(hfr:A.frames=some (env::outer))(hl:s.heap.FunFrames base (env::outer))(hf:env.frame=some L)
  (he:s.heap.get? e=some oe) (hkb:base.StaysIn s.heap) (hen:base.get? e=none) (hd:oe.data=.fields vs) (h1:vs[1]?=some .none) (h0:oe.cls=c/\oe.dict=d/\(d≠none->vs[2]?=some .none))
  (h:∀h',NtX base (env::outer) e c d (rawInt L) s.heap h'->Q () { s with heap:=h' }):wpAny M A (noteFrame (.ref e) env) Q E s:=by
 unfold noteFrame;simp only[hf];refine wpAny_bind (wpAny_field he hd h1 ?_);rw[if_neg (by decide)]
 exact V6 hfr hl hf he hkb hen hd (Array.getElem?_eq_some_iff.mp h1).1 h0 h
theorem Gr(hfr:A.frames=some (env::outer))(hl:s.heap.FunFrames base (env::outer))(hf:env.frame=some L)(ht:TrX s.heap base e c d .none)(hkb:base.StaysIn s.heap)(hen:base.get? e=none)
  (h:∀h',NtX base (env::outer) e c d (rawInt L) s.heap h'->Q () { s with heap:=h' }):wpAny M A (noteFrame (.ref e) env) Q E s:=by
 obtain⟨oe,vs,T,oT,ts,he,h0,hd,h1,hnT,hTe,hT,hdT,h3⟩:=ht;unfold noteFrame;simp only[hf];refine wpAny_bind (wpAny_field he hd h1 ?_);rw[if_pos (show (Value.ref T != Value.none)=true from by simp)]
 refine wpAny_bind (wpAny_field hT hdT h3 ?_);rw[if_neg (show ¬((Value.none==rawInt L)=true) from by simp[rawInt])]
 refine wpAny_bind (wpAny_setField hT hdT (Array.getElem?_eq_some_iff.mp h3).1 ?_);have oth:∀b,b≠T->(s.heap.update T (Obj.mapFields (·.setIfInBounds 3 Value.none))).get? b=s.heap.get? b:=λb hb=>Heap.get?_update_other _ _ (Ne.symm hb)
 have nr:∀b o,s.heap.get? b=some o->(∀vs,o.data≠.fields vs)->b≠T:=λb o hb hnf q=>by
  rw[q,hT] at hb;cases hb;exact hnf ts hdT
 refine V6 hfr (hl.of_keeps λb o hb hnf=>⟨o,(oth b (nr b o hb hnf)).trans hb,rfl⟩) hf ((oth e (Ne.symm hTe)).trans he)
  (λb o q=>(oth b λz=>by rw[z,hnT] at q;cases q).trans (hkb b o q)) hen hd (Array.getElem?_eq_some_iff.mp h1).1 h0
  λh' x=>h h' ⟨x.st,x.ff,x.tr,λb o hb hnf=>x.sl b o ((oth b (nr b o hb hnf)).trans hb) hnf⟩
theorem Bk{l:List Env}{fl:Value}(hkb:base.StaysIn s.heap)(hl:s.heap.FunFrames base l)(ht:TrX s.heap base e c d fl)
  (h:∀h',NtX base l e c d .none s.heap h'->Q () { s with heap:=h' }):wpAny M A (setFlight (.ref e) none) Q E s:=by
 obtain⟨oe,vs,T,oT,ts,he,h0,hd,h1,hnT,hTe,hT,hdT,h3⟩:=ht;have hsz3:3<ts.size:=(Array.getElem?_eq_some_iff.mp h3).1;have oth:∀b,b≠T->(s.heap.update T (Obj.mapFields (·.setIfInBounds 3 ((none:Option Addr).elim Value.none λf=>rawInt f)))).get? b=s.heap.get? b:=λb hb=>Heap.get?_update_other _ _ (Ne.symm hb)
 have nr:∀b o,s.heap.get? b=some o->(∀vs,o.data≠.fields vs)->b≠T:=λb o hb hnf q=>by
  rw[q,hT] at hb;cases hb;exact hnf ts hdT
 unfold setFlight;refine wpAny_bind (wpAny_field he hd h1 ?_);rw[if_pos (show (Value.ref T != Value.none)=true from by simp)]
 refine wpAny_setField hT hdT hsz3 (h _ ⟨λb o q=>(oth b λz=>by rw[z,hnT] at q;cases q).trans (hkb b o q),hl.of_keeps λb o hb hnf=>⟨o,(oth b (nr b o hb hnf)).trans hb,rfl⟩,?_,λb o hb hnf=>⟨o.slots,(oth b (nr b o hb hnf)).trans hb⟩⟩)
 exact⟨oe,vs,T,_,_,(oth e (Ne.symm hTe)).trans he,h0,hd,h1,hnT,hTe,Heap.get?_update_self _ hT (Obj.isFreed_of_fields (Obj.data_mapFields hdT _)),Obj.data_mapFields hdT _,by simp[hsz3]⟩
theorem Gu{oe:Obj}{vs:Array Value}(hfr:A.frames=some (env::outer))(hl:s.heap.FunFrames base (env::outer))(hf:env.frame=some L)
  (he:s.heap.get? e=some oe) (hkb:base.StaysIn s.heap) (hen:base.get? e=none) (hd:oe.data=.fields vs) (h1:vs[1]?=some .none) (h0:oe.cls=c/\oe.dict=d/\(d≠none->vs[2]?=some .none))
  (h:∀h',NtX base (env::outer) e c d .none s.heap h'->Q () { s with heap:=h' }):wpAny M A (leaving env (.ref e)) Q E s:=by
 unfold leaving;exact wpAny_bind (O7 hfr hl hf he hkb hen hd h1 h0 λh2 x=>Bk (s:={ s with heap:=h2 }) x.st x.ff x.tr λh3 y=>h h3 ⟨y.st,y.ff,y.tr,x.sl.trans y.sl⟩)
theorem O8(hfr:A.frames=some (env::outer))(hl:s.heap.FunFrames base (env::outer))(hf:env.frame=some L)(ht:TrX s.heap base e c d .none)(hkb:base.StaysIn s.heap)(hen:base.get? e=none)
  (h:∀h',NtX base (env::outer) e c d .none s.heap h'->Q () { s with heap:=h' }):wpAny M A (leaving env (.ref e)) Q E s:=by
 unfold leaving;exact wpAny_bind (Gr hfr hl hf ht hkb hen λh2 x=>Bk (s:={ s with heap:=h2 }) x.st x.ff x.tr λh3 y=>h h3 ⟨y.st,y.ff,y.tr,x.sl.trans y.sl⟩)
end
def Qbh(h:Heap)(e:Addr)(C:Value)(dx:Option Addr)(T:Addr):Prop:=
 ∃oe vs oT ts,h.get? e=some oe/\(oe.cls=C/\oe.dict=dx/\(dx≠none->vs[2]?=some .none))/\oe.data=.fields vs/\vs[1]?=some (.ref T)/\T≠e/\h.get? T=some oT/\oT.data=.fields ts/\ts[3]?=some .none
def CXx(P:Program)(w:World):CXT:=λouter H s E e s'=>∃a C dx T H',e=.ref a/\s'.os=s.os/\AllBare s'.gens/\Un (frs outer) [] H H' s.heap s'.heap/\HOk P w H' s'.heap /\
 Qbh s'.heap a C dx T/\(H' a=none/\H' T=none)/\(s.heap.get? a=none/\s.heap.get? T=none)/\E C dx H'
theorem Qd0{P:Program}{w:World}{X:Cx}:Ct (CXx P w) X E0:=λ_ _ _ _ _ _ _ h=>by
 obtain⟨_,_,_,_,_,_,_,_,_,_,_,_,_,z⟩:=h;exact z.elim
theorem C6.there{P:Program}{w:World}{H:Hp}{h:Heap}{a:Addr}{o:HO}(x:C6 P w H h a o):∃u,h.get? a=some u:=by
 cases o with
 |lst xs=>obtain⟨_,_,_,_,e⟩:=x;exact⟨_,e⟩
 |tup xs=>obtain⟨_,⟨_,_,o,e,_⟩,_⟩:=x;exact⟨_,e⟩
 |dK kvs=>obtain⟨_,_,_,_,o,_,_,e,_⟩:=x;exact⟨_,e⟩
 |dT kvs=>obtain⟨_,_,_,_,o,_,_,e,_⟩:=x;exact⟨_,e⟩
 |set S n=>obtain⟨o,_,_,_,e,_⟩:=x;exact⟨_,e⟩
 |ins C dx fs=>obtain⟨_,_,_,e,_⟩:=x;exact⟨_,e⟩
 |own y=>obtain⟨_,e⟩:=x;exact⟨_,e⟩
 |xd fs=>obtain⟨_,⟨_,_,_,e,_⟩,_⟩:=x;exact⟨_,e⟩
 |rng lo hi=>obtain⟨_,_,_,e⟩:=x;exact⟨_,e⟩
 |frz ob u=>obtain⟨e,_⟩:=x;exact⟨_,e⟩
 |tbl ps=>obtain⟨_,e,_⟩:=x;exact⟨_,e⟩
 |met f y=>exact⟨_,(show h.get? a=some _ from x)⟩
 |ext φ=>obtain⟨_,e,_⟩:=x;exact e
theorem HOk.none{P:Program}{w:World}{H:Hp}{h:Heap}{a:Addr}(x:HOk P w H h)(e:h.get? a=none):H a=none:=by
 cases q:H a with
 |none=>rfl
 |some o=>
  obtain⟨u,z⟩:=(x a o q).there;rw[e] at z;cases z
theorem E1{h h' base base':Heap}:∀{l:List Env},h.FunFrames base l->(∀b∈frs l,base'.get? b=none)->(∀b∈frs l,∀o,h.get? b=some o->∃o',h'.get? b=some o'/\o'.data=o.data)->h'.FunFrames base' l
 |[],_,_,_=>trivial
 |env::rest,⟨hk,⟨L,o,hf,hn,ho,hd⟩,hr⟩,n,k=>by
  have e:frs (env::rest)=L::frs rest:=by unfold frs;rw[List.filterMap_cons,hf]
  rw[e] at n k;obtain⟨o',ho',hd'⟩:=k L List.mem_cons_self o ho;exact⟨hk,⟨L,o',hf,n L List.mem_cons_self,ho',λvs=>hd' ▸ hd vs⟩,E1 hr (λb hb=>n b (List.mem_cons_of_mem _ hb)) λb hb=>k b (List.mem_cons_of_mem _ hb)⟩
section
variable{P:Program}{w:World}{fs hs:List Addr}{H H1:Hp}{h h1 h2:Heap}
theorem Cl{l:List Addr}:(PySem.W.hideAll h l).StaysIn h:=λb o q=>PySem.W.of_hideAll _ q
theorem Yq(u:Un fs [] H H1 h h1)(hn:∀b∈hs,h.get? b=none)(st:(PySem.W.hideAll h1 (hs++fs)).StaysIn h2)(sl:h1.UpToSlots h2)(ff:∀b∈fs,∃o,h1.get? b=some o/\∀vs,o.data≠.fields vs):Un fs [] H H1 h h2 where
 keep:=λb o q n hb hx=>st b o (PySem.W.hideAll_get _ (u.keep b o q n hb hx) λz=>(List.mem_append.mp z).elim (λz=>by rw[hn b z] at q;cases q) hb)
 slot:=λb o q n hb hx=>by
  obtain⟨sl1,e1⟩:=u.slot b o q n hb hx;obtain⟨o',e2,nf⟩:=ff b hb;rw[e1] at e2;cases e2;obtain⟨sl2,e3⟩:=sl b _ e1 nf;exact⟨sl2,e3⟩
 free:=u.free
 there:=λb o q hx=>by
  obtain⟨o',e⟩:=u.there b o q hx;by_cases hb:b∈fs
  ·obtain⟨o2,e2,nf⟩:=ff b hb
   obtain⟨sl2,e3⟩:=sl b _ e2 nf;exact⟨_,e3⟩
  ·exact⟨o',st b o' (PySem.W.hideAll_get _ e λz=>(List.mem_append.mp z).elim (λz=>by rw[hn b z] at q;cases q) hb)⟩
 tups:=u.tups
 frzs:=u.frzs
 tbls:=u.tbls
theorem O9(ok:HOk P w H1 h1)(hn:∀b∈hs++fs,H1 b=none)(st:(PySem.W.hideAll h1 (hs++fs)).StaysIn h2):HOk P w H1 h2:=λa o e=>
 (ok a o e).stay (λb u hb q=>st b u (PySem.W.hideAll_get _ q λz=>by
  have:=hn b z;rcases hb with rfl|hb
  ·rw[this] at e;cases e
  ·rw[this] at hb;cases hb)) (λ_ q=>q) (λ_ _ q=>q) λ_ _ _ q=>q
end
section
variable{X:Cx}{pins:List (Addr×Obj)}{σ:St}{H H1:Hp}{s s1:Shared}{hs:List Addr}{h2:Heap}
theorem Iq(I:Inv X pins σ H s)(u:Un (frs X.stack) [] H H1 s.heap s1.heap):s1.heap.FunFrames X.base X.stack:=
 E1 I.stack (λb hb=>(I.stack.mem hb).1) λb hb o q=>by
  obtain⟨sl,e⟩:=u.slot b o q (I.stkFree b hb) hb (by simp)
  exact⟨_,e,rfl⟩
theorem Inv.flew(I:Inv X pins σ H s)(os:s1.os=s.os)(bare:AllBare s1.gens)(u:Un (frs X.stack) [] H H1 s.heap s1.heap)(ok:HOk X.prog X.w H1 s1.heap)(hn:∀b∈hs,s.heap.get? b=none/\H1 b=none)
  (st:(PySem.W.hideAll s1.heap (hs++frs X.stack)).StaysIn h2) (sl:s1.heap.UpToSlots h2):Inv X pins σ H1 { s1 with heap:=h2 }:=by
 have ff:∀b∈frs X.stack,∃o,s1.heap.get? b=some o/\∀vs,o.data≠.fields vs:=λb hb=>((Iq I u).mem hb).2
 have fn:∀b∈frs X.stack,H1 b=none:=λb hb=>by
  obtain⟨_,o,q,_⟩:=I.stack.mem hb;exact u.free b o q (I.stkFree b hb) (by simp)
 exact I.call' (s':={ s1 with heap:=h2 }) os (Yq u (λb hb=>(hn b hb).1) st sl ff) (O9 ok (λb hb=>(List.mem_append.mp hb).elim (λz=>(hn b z).2) (fn b)) st) bare λb z=>absurd z (by simp)
theorem Cm(I:Inv X pins σ H s)(u:Un (frs X.stack) [] H H1 s.heap s1.heap):s1.heap.FunFrames (PySem.W.hideAll s1.heap (hs++frs X.stack)) X.stack:=
 E1 (Iq I u) (λb hb=>PySem.W.hideAll_none _ (List.mem_append_right _ hb)) λb _ o q=>⟨o,q,rfl⟩
theorem T7{base h':Heap}{l:List Env}{e:Addr}{C:Value}{d:Option Addr}(ff:h'.FunFrames base l)(t:TrX h' base e C d .none):∃T,Qbh h' e C d T/\base.get? T=none/\T∉frs l:=by
 obtain⟨oe,vs,T,oT,ts,q1,q2,q3,q4,q5,q6,q7,q8,q9⟩:=t;refine⟨T,⟨oe,vs,oT,ts,q1,q2,q3,q4,q6,q7,q8,q9⟩,q5,λz=>?_⟩
 obtain⟨_,o,e1,nf⟩:=ff.mem z;rw[q7] at e1;cases e1;exact nf ts q8
theorem V7{h:Heap}{l:List Addr}{b:Addr}(e:(PySem.W.hideAll h l).get? b=none):b∈l\/h.get? b=none:=by
 by_cases hb:b∈l
 ·exact .inl hb
 ·cases q:h.get? b with
  |none=>exact .inr rfl
  |some o=>rw[PySem.W.hideAll_get _ q hb] at e;cases e
theorem V8(I:Inv X pins σ H s)(os:s1.os=s.os)(bare:AllBare s1.gens)(u:Un (frs X.stack) [] H H1 s.heap s1.heap)(ok:HOk X.prog X.w H1 s1.heap)(hn:∀b∈hs,s.heap.get? b=none/\H1 b=none)
  (hx:X.ex=[]) {e:Addr} {C:Value} {d:Option Addr} (he:e∈hs) {E:XK} (q:E C d H1) {l:List Env} (L:NtX (PySem.W.hideAll s1.heap (hs++frs X.stack)) X.stack e C d .none s1.heap h2) :
  CXx X.prog X.w X.outer X.H₀ X.s₀ E (.ref e) { s1 with heap:=h2 }:=by
 obtain⟨k1,k2,k3,k4⟩:=L;have J:=I.flew os bare u ok hn k1 k4;obtain⟨T,fl,tn,tf⟩:=T7 k2 k3;have inS:∀b o,X.s₀.heap.get? b=some o->∃o',s.heap.get? b=some o':=λb o z=>I.base.there b o z (by rw[hx];simp)
 have jb:Un (frs X.outer) [] X.H₀ H1 X.s₀.heap h2:=by have:=J.base;rw[hx] at this;exact this
 have newT:H1 T=none/\X.s₀.heap.get? T=none:=by
  rcases V7 tn with z|z
  ·rcases List.mem_append.mp z with z|z
   ·refine⟨(hn T z).2,?_⟩
    cases w':X.s₀.heap.get? T with
    |none=>rfl
    |some o=>obtain⟨o',z'⟩:=inS T o w';rw[(hn T z).1] at z';cases z'
   ·exact absurd z tf
  ·refine⟨ok.none z,?_⟩
   cases w':X.s₀.heap.get? T with
   |none=>rfl
   |some o=>
    obtain⟨o',z'⟩:=inS T o w';obtain⟨o2,z2⟩:=u.there T o' z' (by simp)
    rw[z] at z2;cases z2
 refine⟨e,C,d,T,H1,rfl,J.os,J.bare,jb,J.hok,fl,⟨(hn e he).2,newT.1⟩,⟨?_,newT.2⟩,q⟩
 cases w':X.s₀.heap.get? e with
 |none=>rfl
 |some o=>obtain⟨o',z'⟩:=inS e o w';rw[(hn e he).1] at z';cases z'
end
section
variable{P:Program}{w:World}{K:PySem.W.Frag}{mg:Str->Option Value}{base:Heap}{N:List Str}{qual:Str}{scope:Scope}{f:Addr}{cd:Value}{A:Around}{outer:List Env}{s0:Shared}{H0:Hp}{E:XK}
theorem V9:Ct (CXx P w) (Ej (CXx P w) P w K mg base N qual scope f cd A outer s0 H0 E) E:=by
 intro pins σ H s e s1 I h;obtain⟨a,C,dx,T,H1,rfl,os,bare,u,ok,fl,⟨n1,n2⟩,⟨m1,m2⟩,q⟩:=h;have hn:∀b∈[a,T],s.heap.get? b=none/\H1 b=none:=λb hb=>by
  rcases List.mem_cons.mp hb with rfl|hb
  ·exact⟨m1,n1⟩
  ·rw[List.mem_singleton.mp hb];exact⟨m2,n2⟩
 obtain⟨oe,vs,oT,ts,q1,q2,q3,q4,q6,q7,q8,q9⟩:=id fl;refine O8 (base:=PySem.W.hideAll s1.heap ([a,T]++frs (envOfC qual scope s0.heap.objs.size f cd::outer))) (c:=C) (d:=dx) I.ok.frames (Cm I u) rfl
  ⟨oe,vs,T,oT,ts,q1,q2,q3,q4,PySem.W.hideAll_none _ (by simp),q6,q7,q8,q9⟩ Cl (PySem.W.hideAll_none _ (by simp)) λh' L=>?_
 exact V8 (l:=outer) I os bare u ok hn rfl (by simp) q L
theorem Va{pins:List (Addr×Obj)}{σ:St}{H:Hp}{s:Shared}{h':Heap}{e:Addr}{C:Value}{oe:Obj}{vs:Array Value}(I:Inv (Ej (CXx P w) P w K mg base N qual scope f cd A outer s0 H0 E) pins σ H s)(keeps:∀b o,s.heap.get? b=some o->h'.get? b=some o)(new:s.heap.get? e=none)
  (he:h'.get? e=some oe) (hc:oe.cls=C) (hd:oe.dict=none) (hdat:oe.data=.fields vs) (h1:vs[1]?=some .none) (q:E C none H) :
  (Ej (CXx P w) P w K mg base N qual scope f cd A outer s0 H0 E).xe (.ref e) { s with heap:=h' }:=by
 have u:Un (frs (envOfC qual scope s0.heap.objs.size f cd::outer)) [] H H s.heap h':=Un.kept keeps;have ok:HOk P w H h':=I.hok.kept keeps;have hn:∀b∈[e],s.heap.get? b=none/\H b=none:=λb hb=>by rw[List.mem_singleton.mp hb];exact⟨new,I.hok.none new⟩
 refine Gu (s:={ s with heap:=h' }) (base:=PySem.W.hideAll h' ([e]++frs (envOfC qual scope s0.heap.objs.size f cd::outer))) (c:=C) (d:=none) I.ok.frames (Cm (s1:={ s with heap:=h' }) I u) rfl
  he Cl (PySem.W.hideAll_none _ (by simp)) hdat h1 ⟨hc,hd,λz=>absurd rfl z⟩ λh2 L=>?_
 exact V8 (s1:={ s with heap:=h' }) (l:=outer) I rfl I.bare u ok hn rfl (by simp) q L
theorem Qd1{fs:List Addr}{H:Hp}{h h':Heap}{x:Addr}{o:HO}(u:Un fs [] H H h h')(n:h.get? x=none)(nH:H x=none):Un fs [] H (upd H x o) h h' where
 keep:=u.keep
 slot:=u.slot
 free:=λb ob q z hx=>by
  rw[A7 (λy=>by rw[y,n] at q;cases q)]
  exact z
 there:=u.there
 tups:=λb xs q=>by rw[A7 (A8 q nH)];exact q
 frzs:=λb ob v q=>by rw[A7 (A8 q nH)];exact q
 tbls:=λb ps q=>⟨#[],by rw[A7 (A8 q nH),Array.append_empty];exact q⟩
theorem Yr{H:Hp}{h:Heap}{x:Addr}{o:HO}(ok:HOk P w H h)(nH:H x=none)(new:C6 P w (upd H x o) h x o):HOk P w (upd H x o) h:=λb v q=>by
 by_cases hb:b=x
 ·subst hb
  rw[Az] at q;cases q;exact new
 ·rw[A7 hb] at q
  exact(ok b v q).stay (λ_ _ _ z=>z) (λc z=>by rw[A7 (A8 z nH)];exact z) (λc xs z=>by rw[A7 (A8 z nH)];exact z) λc o u z=>by rw[A7 (A8 z nH)];exact z
theorem Vb{pins:List (Addr×Obj)}{σ:St}{H:Hp}{s s':Shared}{e t dx C:Addr}{v:V}{u:Value}(I:Inv (Ej (CXx P w) P w K mg base N qual scope f cd A outer s0 H0 E) pins σ H s)
  (os:s'.os=s.os) (bare:AllBare s'.gens) (un:Un (frs (envOfC qual scope s0.heap.objs.size f cd::outer)) [] H H s.heap s'.heap) (ok:HOk P w H s'.heap) (ne:s.heap.get? e=none)
  (he:s'.heap.get? e=some { cls:=.ref C,dict:=some dx,data:=.fields #[.ref t,.none,.none,.none,.bool false,.none] }) (ru:An v u) (ns:s'.heap.Ns1 dx (λy=>if y = "at" then some u else none)) (nx:s.heap.get? dx=none)
  (q:E (.ref C) (some dx) (upd H dx (.xd [("at",v)]))):(Ej (CXx P w) P w K mg base N qual scope f cd A outer s0 H0 E).xe (.ref e) s':=by
 have nH:H dx=none:=I.hok.none nx;have dne:e≠dx:=λz=>by
  obtain⟨o,es,ep,e1,e2,_⟩:=ns;rw[<-z,he] at e1;cases e1;cases e2
 have u2:=Qd1 (o:=.xd [("at",v)]) un nx nH;have ok2:HOk P w (upd H dx (.xd [("at",v)])) s'.heap:=Yr ok nH ⟨_,ns,λg=>by
  by_cases hg:g = "at"
  ·subst hg
   exact ru
  ·have e1:List.lookup g [(("at" : Str),v)]=none:=by
    rw[List.lookup_cons,show (g==("at" : Str))=false from beq_false_of_ne hg]
    rfl
   rw[e1,if_neg hg]
   trivial⟩
 have hn:∀b∈[e],s.heap.get? b=none/\upd H dx (.xd [("at",v)]) b=none:=λb hb=>by
  rw[List.mem_singleton.mp hb,A7 dne];exact⟨ne,I.hok.none ne⟩
 obtain⟨h',g,dr,tk,o'⟩:=s';refine Gu (s:=⟨h',g,dr,tk,o'⟩) (base:=PySem.W.hideAll h' ([e]++frs (envOfC qual scope s0.heap.objs.size f cd::outer))) (c:=.ref C) (d:=some dx) I.ok.frames (Cm (s1:=⟨h',g,dr,tk,o'⟩) I u2) rfl
  he Cl (PySem.W.hideAll_none _ (by simp)) rfl rfl ⟨rfl,rfl,λ_=>rfl⟩ λh2 L=>?_
 exact V8 (s1:=⟨h',g,dr,tk,o'⟩) (l:=outer) I os bare u2 ok2 hn rfl (by simp) q L
end
end L2
namespace L2
open PySem PySem.Spec PyProof.Rows PySem.W
section
variable{prog:Program}{w:World}{A:Around}{E:Value->Shared->Prop}{s:Shared}{K:Frag}{x C:Addr}{ox:Obj}{od:Option Obj}{name:Str}
structure GaX(K:Frag)(C:Addr):Prop where
 ga:findIn K (.ref C) "__getattribute__" = some (some (.builtin "BaseException.__getattribute__"))
 hk:findIn K (.ref C) "__getattr__" = some none
 mb:mroIn K C (.type "BaseException")=some true
theorem Qd2{tk:Tok}{fill expr:Bool}{Q:Value->Shared->Prop}(X:K.In s.heap)(I:InstAt s.heap x ox C od)(G:GaX K C)
  (h:∀(A':Around) (R:Result->Shared->Prop),(∀v s',wpAny (model prog w) A (handedOut v) Q E s'->R (.ok (.ret v)) s') ->
   wpAny (model prog w) A'.in1 (Builtin.«object.__getattribute__» ⟨[.ref x,.str name tk],[]⟩) (λfin s'=>match fin with|.done f=>R (.ok f) s'|.again c'=>c'.quiet=true/\codeAny (model prog w) A' c' R s') (λe s'=>R (.error e) s') s) :
  wpAny (model prog w) A (getAttrBy (.ref x) (.str name tk) fill expr) Q E s:=by
 have L0:=I.type (M:=model prog w);have L1:=looks_findIn (M:=model prog w) X G.ga;have L2:=looks_findIn (M:=model prog w) X G.hk;have L3:Looks (model prog w) s.heap (isInstance (.ref x) (.type "BaseException")) true:=L0.andThen (looks_mroIn X G.mb);have f3:=PySem.F.attr_ValueError.ga.bind (.ref x);have hx0:(expr&&onTheHeap (Value.builtin "BaseException.__getattribute__"))=false:=by cases expr<;>rfl
 have hx2:(Value.builtin "BaseException.__getattribute__" == Value.builtin "object.__getattribute__")=false:=by decide +kernel
 have hx1:(onTheHeap (Value.ref C)&&Value.builtin "BaseException.__getattribute__" == Value.builtin "object.__getattribute__")=false:=by rw[hx2];rfl
 unfold getAttrBy;refine wpAny_holding (wpAny_bind (L0.here (wpAny_bind (L1.here ?_))))
 show wpAny _ _ (if (onTheHeap (Value.ref C)&&Value.builtin "BaseException.__getattribute__" == Value.builtin "object.__getattribute__")=true then getAttrEveryday (.ref x) (.str name tk) fill else getAttrByItsOwn (.ref x) (.str name tk) (.ref C) (.builtin "BaseException.__getattribute__") fill expr) _ _ _
 rw[hx1,if_neg Bool.false_ne_true];unfold getAttrByItsOwn hookBefore;rw[if_pos (show onTheHeap (.ref C)=true from rfl)]
 refine wpAny_bind (L2.here (wpAny_bind (wpAny_attempt (wpAny_holding ?_))));unfold callGetattribute;rw[hx0,if_neg Bool.false_ne_true];unfold boundAndCalled;rw[f3];refine wpAny_bind (wpAny_pure (wpAny_call ?_))
 show codeAny (model prog w) A (.call (.builtin "BaseException.__getattribute__") ⟨[.ref x,.str name tk],[]⟩) _ s
 have hk:builtinKind "BaseException.__getattribute__" = some .slot:=by decide +kernel
 have hsp:splitId "BaseException.__getattribute__" = some ("BaseException","__getattribute__"):=by decide +kernel
 refine codeAny_call_builtin PySem.F.attr_ValueError.ga.plain PySem.F.entry_bexc_ga ?_;refine @check_slot (model prog w) _ _ s "BaseException.__getattribute__" "BaseException" "__getattribute__" (.ref x) [.str name tk] [] _ hk hsp L3 (PySem.F.args_bexc_ga (.ref x) (.str name tk)) ?_
 exact h A (λr s'=>match r with
  |.ok (.ret v)=>wpAny (model prog w) A (handedOut v) Q E s'
  |.ok _=>False
  | .error e=>wpAny (model prog w) A (getattributeRaised (.ref x) (.str name tk) (.ref C) e none fill expr) Q E s') (λv s' z=>z)
theorem T8{Q:Option Value->Shared->Prop}(X:K.In s.heap)(I:InstAt s.heap x ox C od)(G:GaX K C)(hf:findObj K C od "__class__" = some (.bind (.builtin "getset_descriptor.__get__") (.builtin "object.__class__")))(hm:mroIn K C (.type "object")=some true)
  (h:Q (some (.ref C)) { s with toks:=s.toks+1 }):wpAny (model prog w) A (getAttr? (.ref x) "__class__") Q E s:=by
 obtain⟨hp,g,d,t,os⟩:=s;unfold getAttr? getAttrBy?;refine wpAny_bind (wpAny_mkText (wpAny_bind (wpAny_attempt (Qd2 (s:=⟨hp,g,d,t+1,os⟩) X I G λA' R hR=>?_))))
 have L0:=I.type (M:=model prog w);have L1:=looks_find (M:=model prog w) X I hf;refine wpAny_bind (wpAny_pure (wpAny_bind (wpAny_pure (wpAny_bind (L0.at (wpAny_bind (L1.at ?_)))))));refine wpAny_bind (wpAny_holding (wpAny_call (class_get (s:=⟨hp,g,d,t+1,os⟩) X I hm ?_)));exact wpAny_pure (hR _ _ (wpAny_pure (wpAny_pure h)))
structure ClX(K:Frag)(C:Addr):Prop extends GaX K C where
 hd:hasDictIn K C=true
 ha:findIn K (.ref C) "__class__" = some (some (.builtin "object.__class__"))
 hn:specialIn K (.builtin "object.__class__") "__get__" = some (some (.builtin "getset_descriptor.__get__"))
 htk:takesIn K (.builtin "object.__class__")=some true
 mo:mroIn K C (.type "object")=some true
 na:findIn K (.ref C) "at" = some none
theorem Vc(Z:ClX K C):KitX K (.ref x) (.ref C) (λh=>InstAt h x ox C od) where
 ty:=λ_ _ _ I=>I.type
 it:=λ_ _ X _=>by
  obtain⟨cdD,hcD,_⟩:=any_some Z.hd;unfold clsIn at hcD;split at hcD
  ·rename_i c' d' cd' sl' ho
   intro A' Q' E' s' k q;unfold isType loadHead;exact wpAny_bind (wpAny_loadPart (k _ _ (X _ _ ho)) (wpAny_pure q))
  ·cases hcD
 ne:=λh tp dd its n sl X htp=>by
  obtain⟨cdD,hcD,_⟩:=any_some Z.hd;refine Bool.eq_false_iff.mpr λq=>?_
  have e:C=tp:=Value.ref.inj (beq_iff_eq.mp q);subst e;unfold clsIn at hcD;split at hcD
  ·rename_i c' d' cd' sl' ho
   have z:=(X _ _ ho).symm.trans htp;cases z
  ·cases hcD
 ca:=λX I k=>T8 X I Z.toGaX (by obtain⟨cd,hc,_⟩:=any_some Z.hd;unfold findObj;rw[hc,Z.ha,Option.bind_some,Option.bind_some];simp only[Z.hn,Z.htk,Option.bind_some]) Z.mo k
end
end L2
namespace L2
open PySem
theorem L6:entryFor table "proto.unchain" = some Builtin.«proto.unchain»:=entryFor_of_tree (by kernel_rfl)
section
variable{prog:Program}{w:World}{A:Around}{E:Value->Shared->Prop}{s:Shared}{env:Env}
variable{nm q:Str}{C N:Addr}{bs bm bmB:List Value}{hdct:Bool}{sn:List Str}{sub:List Value}{ab:Bool}{col:Option Bool}{dd:Option Addr}{k0 k1 k2 k3 k5:Option Value}{B newId initId:String}
def Ys(C t a:Addr):Obj:={ cls:=.ref C,data:=.fields #[.ref t,.none,.ref a,.none,.bool true,.none] }
theorem N1{e a:Addr}{oa:Obj}{va:Array Value}{Q:Value->Shared->Prop}(ha:s.heap.get? a=some oa)(hd:oa.data=.fields va)(h2:va[2]?=some .none)(h:Q .none s) :
  wpAny (model prog w) A (runValue (.builtin "proto.unchain" ⟨[.ref e,.ref a,.ref a,.bool false],[]⟩)) Q E s:=by
 refine wpAny_runValue (codeAny_builtin L6 ?_);unfold Builtin.«proto.unchain»;refine wpAny_bind (wpAny_field ha hd h2 ?_);rw[if_pos (by decide)]
 repeat wp_step
 exact h
theorem L7{α:Type}{e a:Addr}{oe oa:Obj}{ve va:Array Value}{Q:α->Shared->Prop}(hh:A.handled=some (.ref a))(ne:a≠e)(he:s.heap.get? e=some oe)(hde:oe.data=.fields ve)(hsz:2<ve.size)(ha:s.heap.get? a=some oa)(hd:oa.data=.fields va)(h2:va[2]?=some .none)
  (h:E (.ref e) { s with heap:=s.heap.update e (Obj.mapFields (·.setIfInBounds 2 (.ref a))) }):wpAny (model prog w) A (raiseNew (.ref e):Sem α) Q E s:=by
 unfold raiseNew;refine wpAny_bind (wpAny_handled ?_);rw[hh];simp only;rw[if_pos (show (Value.ref a != Value.ref e)=true from by simp[ne])]
 refine wpAny_bind (wpAny_holding (N1 ha hd h2 (wpAny_bind ?_)));unfold updateField;refine wpAny_bind (wpAny_load he ?_);rw[hde];simp only;rw[if_pos hsz];exact wpAny_update he (wpAny_throw h)
theorem N4{h:Heap}{e:Addr}{c:Value}{vs:Array Value}{f:Array Value->Array Value}(he:h.get? e=some { cls:=c,data:=.fields vs }):(h.update e (Obj.mapFields f)).get? e=some { cls:=c,data:=.fields (f vs) }:=
 Heap.get?_update_self (Obj.mapFields f) he (Obj.isFreed_of_fields (Obj.data_mapFields rfl _))
theorem T9{α:Type}{e a t:Addr}{oa:Obj}{va:Array Value}{Q:α->Shared->Prop}{hp:Heap}{g:Array GenState}{d:Drawn}{tk:Nat}{os:OsState}(hh:A.handled=some (.ref a))(ne:a≠e)(he:hp.get? e=some { cls:=.ref C,data:=.fields #[.ref t,.none,.none,.none,.bool false,.none] })(ha:hp.get? a=some oa)(hd:oa.data=.fields va)(h2:va[2]?=some .none)
  (hE:∀h':Heap,(∀b,b≠e->h'.get? b=hp.get? b)->h'.get? e=some (Ys C t a)->E (.ref e) ⟨h',g,d,tk,os⟩) :
  wpAny (model prog w) A (raiseNew (.ref e):Sem α) Q E ⟨(hp.update e (Obj.mapFields λx=>x.setIfInBounds 3 Value.none)).update e (Obj.mapFields λx=>x.setIfInBounds 4 (Value.bool true)),g,d,tk,os⟩:=by
 have he1:=N4 (f:=λx=>x.setIfInBounds 3 Value.none) he
 have he2:=N4 (f:=λx=>x.setIfInBounds 4 (Value.bool true)) he1
 have oth:∀(h:Heap) (f:Obj->Obj) b,b≠e->(h.update e f).get? b=h.get? b:=λh f b hb=>Heap.get?_update_other _ _ (Ne.symm hb)
 have e2:(#[Value.ref t,.none,.none,.none,.bool false,.none].setIfInBounds 3 Value.none).setIfInBounds 4 (Value.bool true)=#[.ref t,.none,.none,.none,.bool true,.none]:=by simp
 rw[e2] at he2;have e3:#[Value.ref t,.none,.none,.none,.bool true,.none].setIfInBounds 2 (Value.ref a)=#[.ref t,.none,.ref a,.none,.bool true,.none]:=by simp
 have he3:=N4 (f:=λx=>x.setIfInBounds 2 (Value.ref a)) he2
 rw[e3] at he3;have ot:∀b,b≠e->((hp.update e (Obj.mapFields λx=>x.setIfInBounds 3 Value.none)).update e (Obj.mapFields λx=>x.setIfInBounds 4 (Value.bool true))).get? b=hp.get? b:=λb hb=>by rw[oth _ _ b hb,oth _ _ b hb]
 generalize (hp.update e (Obj.mapFields λx=>x.setIfInBounds 3 Value.none)).update e (Obj.mapFields λx=>x.setIfInBounds 4 (Value.bool true))=hq at he2 he3 ot |-
 refine L7 (s:=⟨hq,g,d,tk,os⟩) hh ne he2 rfl (by show 2<6;decide) ((ot a ne).trans ha) hd h2 ?_
 exact hE (hq.update e (Obj.mapFields λx=>x.setIfInBounds 2 (Value.ref a))) (λb hb=>(oth _ _ b hb).trans (ot b hb)) he3
theorem En{x c:Sem Value}{a:Addr}{Q:Flow->Shared->Prop}(hbase:bm.contains (.type "BaseException")=true)(hh:A.handled=some (.ref a))(hc:∀(Q:Value->Shared->Prop) (s:Shared),Q .none s->wpAny (model prog w) A c Q E s)
  (h:wpAny (model prog w) A x (λv s₁=>∃e t oa va,v=.ref e/\a≠e/\s₁.heap.get? C=some (excClassObj nm q C N bs bm hdct sn sub ab col dd k0 k1 k2 k3 k5 newId)/\C≠e /\
   s₁.heap.get? e=some { cls:=.ref C,data:=.fields #[.ref t,.none,.none,.none,.bool false,.none] }/\s₁.heap.get? a=some oa/\oa.data=.fields va/\va[2]?=some .none /\
   ∀h',(∀b,b≠e->h'.get? b=s₁.heap.get? b)->h'.get? e=some (Ys C t a)->E (.ref e) { s₁ with heap:=h' }) E s) :
  wpAny (model prog w) A (raiseStmt env (some x) (some c)) Q E s:=by
 have hcB:(Value.ref C::bm).contains (.type "BaseException")=true:=by rw[List.contains_cons,hbase,Bool.or_true]
 unfold raiseStmt;refine wpAny_bind (wpAny_mono h (λv s₁ h₁=>?_) λ_ _ x=>x)
 obtain⟨e,t,oa,va,rfl,ne,hC,neC,he,ha,hd,h2,hE⟩:=h₁;obtain⟨hp,g,d,tk,os⟩:=s₁;refine wpAny_bind (wpAny_holding (hc _ _ (wpAny_bind (wpAny_pure ?_))))
 repeat (first|with_reducible refine wpAny_loadPart_at he ?_|with_reducible refine wpAny_loadPart_at hC ?_|(with_reducible refine wpAny_isSubtype_exc hC ?_;rw[hcB])|wp_step)
 exact T9 hh ne he ha hd h2 hE
theorem Ta{M:Model}{j:Nat}{pos:Pos}{Q:Value->Shared->Prop}(h:Q .none s):wpAny M A (eval (.Constant .none j pos) env) Q E s:=λ_ _ _=>h
theorem Oa(F:ExcBaseFacts B newId initId bmB){mN:Str->Option Value}{x:Str}{np cpos pos p2:Pos}{args:List Expr}{j2:Nat}{a:Addr}{Q:Flow->Shared->Prop}
  (hbase:bm.contains (.type "BaseException")=true) (hh:A.handled=some (.ref a)) (hplain:(backTo cpos (starEach args env)).any (·.1)=false) (hni:mN "__init__" = none)
  (h:wpAny (model prog w) A (eval (.Name x np) env) (λf s₁=>f=.ref C/\wpAny (model prog w) A (evalArgs (.ref C) true (backTo cpos (starEach args env)) [])
   (λar s₂=>ar.kw=[]/\ar.pos.length<=sizeLine/\s₂.heap.get? C=some (excClassObj nm q C N bs bm hdct sn sub ab col dd k0 k1 k2 k3 k5 newId)/\s₂.heap.Ns N mN/\OwnTail s₂.heap bmB bm/\(∃oa va,s₂.heap.get? a=some oa/\oa.data=.fields va/\va[2]?=some .none) /\
    ∀h' e t,(∀b o,s₂.heap.get? b=some o->h'.get? b=some o)->s₂.heap.get? e=none->h'.get? e=some (Ys C t a)->E (.ref e) { s₂ with heap:=h' }) E s₁) E s) :
  wpAny (model prog w) A (exec (.Raise (some (.Call (.Name x np) args [] cpos)) (some (.Constant .none j2 p2)) pos) env) Q E s:=by
 rw[arm_exec_Raise];have hc:∀(Q:Value->Shared->Prop) (s:Shared),Q .none s->wpAny (model prog w) A (do let v <-eval (.Constant .none j2 p2) env;standAt pos;pure v) Q E s:=λQ s q=>wpAny_bind (Ta (wpAny_bind (wpAny_standAt (wpAny_pure q))))
 first
  |refine wpAny_bind (wpAny_standAt (En (a:=a) (C:=C) (nm:=nm) (q:=q) (N:=N) (bs:=bs) (bm:=bm) (hdct:=hdct) (sn:=sn) (sub:=sub) (ab:=ab) (col:=col) (dd:=dd) (k0:=k0) (k1:=k1) (k2:=k2) (k3:=k3) (k5:=k5) (newId:=newId) hbase hh hc (wpAny_bind (wpAny_mono (wpAny_Call_ofName (wpAny_mono h (λf s₁ h₁=>?_) λ_ _ x=>x)) (λv s₃ h₃=>wpAny_bind (wpAny_standAt (wpAny_pure h₃))) λ_ _ x=>x))))
  |(simp only[evalOpt,Option.map];refine wpAny_bind (wpAny_standAt (En (a:=a) (C:=C) (nm:=nm) (q:=q) (N:=N) (bs:=bs) (bm:=bm) (hdct:=hdct) (sn:=sn) (sub:=sub) (ab:=ab) (col:=col) (dd:=dd) (k0:=k0) (k1:=k1) (k2:=k2) (k3:=k3) (k5:=k5) (newId:=newId) hbase hh hc (wpAny_bind (wpAny_mono (wpAny_Call_ofName (wpAny_mono h (λf s₁ h₁=>?_) λ_ _ x=>x)) (λv s₃ h₃=>wpAny_bind (wpAny_standAt (wpAny_pure h₃))) λ_ _ x=>x)))))
  |(refine wpAny_bind (wpAny_standAt (En (a:=a) (C:=C) (nm:=nm) (q:=q) (N:=N) (bs:=bs) (bm:=bm) (hdct:=hdct) (sn:=sn) (sub:=sub) (ab:=ab) (col:=col) (dd:=dd) (k0:=k0) (k1:=k1) (k2:=k2) (k3:=k3) (k5:=k5) (newId:=newId) hbase hh ?_ ?_));rotate_left;refine wpAny_bind (wpAny_mono (wpAny_Call_ofName (wpAny_mono h (λf s₁ h₁=>?_) λ_ _ x=>x)) (λv s₃ h₃=>wpAny_bind (wpAny_standAt (wpAny_pure h₃))) λ_ _ x=>x))
 obtain⟨rfl,h₁⟩:=h₁;unfold callWith;refine wpAny_bind (wpAny_holding (wpAny_mono h₁ (λar s₂ h₂=>wpAny_bind (wpAny_standAt ?_)) λ_ _ x=>x))
 obtain⟨apos,akw⟩:=ar;obtain⟨hkw,hlen,hC,hn,T,⟨oa,va,ha,hda,h2⟩,h₂⟩:=h₂;obtain rfl:akw=[]:=hkw;obtain⟨hp,g,d,tk,os⟩:=s₂;simp only[hplain];refine wpAny_bind (wpAny_keeperOf_exc hC ?_);refine wpAny_bind (wpAny_call_exc_subT (hrest:=hlen) F T hC hn hni λh' e hm=>wpAny_bind (wpAny_holding (wpAny_point (wpAny_pure ?_))))
 obtain⟨t,ht,_,_⟩:=hm.there;have nw:hp.get? e=none:=hm.new;have ne:∀{b:Addr} {o:Obj},hp.get? b=some o->b≠e:=λ{b o} q z=>by rw[z,nw] at q;cases q
 refine⟨e,t,oa,va,rfl,ne ha,hm.keeps _ _ hC,ne hC,ht,hm.keeps _ _ ha,hda,h2,λh2' k1 k2=>?_⟩
 exact h₂ h2' e t (λb o q=>(k1 b (ne q)).trans (hm.keeps _ _ q)) nw k2
end
end L2
namespace L2
open PySem PySem.Spec PyProof.Rows PySem.W
def hcx(X:Cx)(pins:List (Addr×Obj))(a:Addr)(oe:Obj)(xe:Value->Shared->Prop):Cx:={ X with A:=X.A.mark (some (.ref a)),calm:=false,pn:=(a,oe)::(X.pn++pins),xe:=xe }
section
variable{X:Cx}{pins:List (Addr×Obj)}{σ:St}{H:Hp}{s:Shared}{a:Addr}{oe:Obj}{xe:Value->Shared->Prop}
theorem Inv.inh(J:Inv X pins σ H s)(e:s.heap.get? a=some oe)(n:H a=none)(hl:a≠X.env.locals)(hf:a∉X.fs)(hc:∀v,oe.data≠.cell v):Inv (hcx X pins a oe xe) [] σ H s:=
 ⟨{ J.ok with hd:=λz=>by cases z },J.os,J.bare,J.base,J.loc,J.cell,J.free,J.freeC,λp hp=>by
  have hp':p∈((a,oe)::(X.pn++pins)):=by simpa [hcx] using hp
  rcases List.mem_cons.mp hp' with rfl|hp'
  ·exact⟨e,n,hl,hf,hc⟩
  ·exact J.pin p hp',J.hok,J.len⟩
theorem Inv.unh(J:Inv (hcx X pins a oe xe) [] σ H s)(ok:X.Ok):Inv X pins σ H s:=
 ⟨ok,J.os,J.bare,J.base,J.loc,J.cell,J.free,J.freeC,λp hp=>J.pin p (by
  show p∈((a,oe)::(X.pn++pins))++[]
  rw[List.append_nil];exact List.mem_cons_of_mem _ hp),J.hok,J.len⟩
theorem Inv.goes(J:Inv X pins σ H s)(nd:X.N.Nodup){i:Nat}{n:Str}(hi:X.N[i]?=some n){m:Str->Option Value}
  (hlk:∀(i:Nat) (x:Str) (v:V),X.N[i]?=some x->σ[i]?=some (some v)->Vis X.env.scope x->∃u,An v u/\Qfa X.env s.heap m x u)
  {h':Heap} {v:Option Value} {t:Nat} (hm:h'.Ns X.env.locals (λx=>if x=n then v else m x)) (sb:Heap.SameBut X.env.locals s.heap h'):Inv X pins (σ.set i none) H { s with heap:=h',toks:=t }:=by
 have neL:∀b o,X.s₀.heap.get? b=some o->b≠X.env.locals:=λb o e=>Nat.ne_of_lt (Nat.lt_of_lt_of_le (Heap.lt_size e) J.ok.above)
 have kp:∀b o,b≠X.env.locals->s.heap.get? b=some o->h'.get? b=some o:=λb o hb e=>(sb.2 b hb).trans e
 have kt:∀b u,H b=some u->b≠X.env.locals:=λb u e z=>by rw[z,J.free] at e;cases e
 refine⟨J.ok,J.os,J.bare,⟨λb o q n hb hx=>kp b o (neL b o q) (J.base.keep b o q n hb hx),λb o q n hb hx=>?_,J.base.free,λb o q hx=>?_,J.base.tups,J.base.frzs,J.base.tbls⟩,⟨_,hm,λj x v e1 e2 vis=>?_⟩,λx c e=>?_,J.free,J.freeC,λp hp=>?_,λb u e=>?_,by rw[List.length_set];exact J.len⟩
 ·obtain⟨sl,e⟩:=J.base.slot b o q n hb hx
  exact⟨sl,kp b _ (neL b o q) e⟩
 ·obtain⟨o',e⟩:=J.base.there b o q hx
  exact⟨o',kp b o' (neL b o q) e⟩
 ·rw[List.getElem?_set] at e2
  split at e2
  ·split at e2<;>cases e2
  ·rename_i hne
   obtain⟨u,ru,lk⟩:=hlk j x v e1 e2 vis;have hx:x≠n:=λz=>by
    subst z;obtain⟨h1,h2⟩:=List.getElem?_eq_some_iff.mp hi;obtain⟨h3,h4⟩:=List.getElem?_eq_some_iff.mp e1;exact hne ((List.getElem_inj nd).mp (h2.trans h4.symm))
   refine⟨u,ru,?_⟩;rcases lk with⟨q1,q2⟩|⟨q1,c,q2,o,q3,q4⟩
   ·exact .inl ⟨q1,by show (if x=n then _ else m x)=_;rw[if_neg hx];exact q2⟩
   ·exact .inr ⟨q1,c,q2,o,kp c o (J.cne x c q2) q3,q4⟩
 ·obtain⟨v,o,q,d⟩:=J.cell x c e
  exact⟨v,o,kp c o (J.cne x c e) q,d⟩
 ·obtain⟨p1,p2,p3,p4,p5⟩:=J.pin p hp
  exact⟨kp _ _ p3 p1,p2,p3,p4,p5⟩
 ·refine(J.hok b u e).stay (λc v hc q=>kp c v ?_ q) (λ_ q=>q) (λ_ _ q=>q) λ_ _ _ q=>q
  rcases hc with z|z
  ·rw[z];exact kt b u e
  ·exact kt c _ z
end
theorem Vd{M:Model}{h:Heap}{a:Addr}{oe:Obj}{C:Value}(e:h.get? a=some oe)(hc:oe.cls=C):Looks M h (typeOf (.ref a)) C:=by
 subst hc;exact(Looks.ld e).andThen .now
theorem Ve{K:Frag}{C:Addr}:kitOne K (.ref C) (.ref C)=some true:=by
 unfold kitOne;rw[if_pos (beq_self_eq_true _)]
theorem Yt{K:Frag}{C D:Addr}{b:Bool}(hne:(Value.ref C==Value.ref D)=false)(h1:hasDictIn K D=true)(h2:typeIn K (.ref D)=some (.type "type"))(h3:subIn K (.ref C) (.ref D)=some b):kitOne K (.ref C) (.ref D)=some b:=by
 obtain⟨cd,hc,_⟩:=any_some h1;unfold kitOne;rw[if_neg (by rw[hne];exact Bool.false_ne_true)]
 show (if ((clsIn K D).isSome&&typeIn K (.ref D)==some (.type "type"))=true then subIn K (.ref C) (.ref D) else none)=_
 rw[if_pos (by rw[hc,h2];rfl),h3]
theorem Qd3{K:Frag}{C:Addr}(h:subIn K (.ref C) (.type "ValueError")=some true):kitOne K (.ref C) (.type "ValueError")=some true:=by
 unfold kitOne;rw[if_neg (by simp)]
 show (if kitMeta "ValueError" = true then subIn K (.ref C) (.type "ValueError") else none)=_
 rw[if_pos (by decide +kernel),h]
section
variable{X:Cx}{pins:List (Addr×Obj)}{σ:St}{H:Hp}{s:Shared}{a Ca:Addr}{oe:Obj}{va:Array Value}
theorem Yu(I:Inv X pins σ H s)(hp:(a,oe)∈X.pn)(hc:oe.cls=.ref Ca)(hd:oe.data=.fields va)(hx:∀dx,oe.dict=some dx->∃fs,H dx=some (.xd fs)):∃od,PySem.W.InstAt s.heap a oe Ca od:=by
 obtain⟨e,_⟩:=I.pin (a,oe) (List.mem_append_left _ hp);have nc:notCls oe=true:=by unfold notCls;rw[hd]
 cases q:oe.dict with
 |none=>exact⟨none,e,hc,nc,by rw[q];trivial⟩
 |some dx=>
  obtain⟨fs,hf⟩:=hx dx q;obtain⟨mA,⟨o,es,ep,e1,_⟩,_⟩:=I.hok dx _ hf;exact⟨some o,e,hc,nc,by rw[q];exact e1⟩
theorem Qg1{c:V}{u:Value}{b:Bool}(hp:(a,oe)∈X.pn)(hc:oe.cls=.ref Ca)(hd:oe.data=.fields va)(Z:ClX X.K Ca)(hr:∀w,An c w->w=u)(e:kitOne X.K (.ref Ca) u=some b) :
  Be X (.builtin "isinstance") (λxs H Q=>xs=[.ref a,c]/\(∀dx,oe.dict=some dx->∃fs,H dx=some (.xd fs))/\Q (.bl b) H):=by
 intro pins s σ H xs us Q I r h;obtain⟨rfl,hx,q⟩:=h;obtain⟨w1,w2,rfl,r1,r2⟩:=Ab.two r;cases r1;obtain rfl:=hr _ r2;obtain⟨od,hi⟩:=Yu I hp hc hd hx;exact kia_one (Vc (x:=a) (ox:=oe) (od:=od) Z) I.kIn hi e (by simp) λtk=>⟨.bl b,H,I.kept (h':=s.heap) (t':=tk) (λ_ _ z=>z),rfl,q⟩
def KB(X:Cx)(Ca:Addr)(k:Str)(b:Bool):Prop:=∃c u,(∀w,An c w->w=u)/\kitOne X.K (.ref Ca) u=some b/\∀pos,PE X (.Name k pos) (tC c)
structure Hn(X:Cx)(i:Nat)(n xF:Str)(CF:Addr):Prop where
 nd:X.N.Nodup
 at':X.N[i]?=some n
 loc:X.env.scope.names.lookup n=some .local
 nB:(n==("__debug__" : Str))=false
 nC:(n==("__classdict__" : Str))=false
 gF:Gl X xF
 dF:(xF==("__debug__" : Str))=false
 mF:X.mg xF=some (.ref CF)
 gI:Gl X "isinstance"
 mI:X.mg "isinstance" = none
 stk:X.stack=X.env::X.outer
 frm:X.env.frame=some X.env.locals
theorem Qd4{i:Nat}{n xF k:Str}{CF:Addr}{b:Bool}{xe:Value->Shared->Prop}(Z:Hn X i n xF CF)(hc:oe.cls=.ref Ca)(hd:oe.data=.fields va)(Y:ClX X.K Ca)(kb:KB (hcx X pins a oe xe) Ca k b){p1 p2 p3 p4:Pos} :
  PE (hcx X pins a oe xe) (.Call (.Name "isinstance" p1) [.Name n p2,.Name k p3] [] p4) (λσ H Q=>(σ[i]?=some (some (.ref a))/\∀dx,oe.dict=some dx->∃fs,H dx=some (.xd fs))/\Q (.bl b) H):=by
 obtain⟨c,u,k1,k2,k3⟩:=kb;have hv:Vis (hcx X pins a oe xe).env.scope n:=.inl Z.loc;have e1:PE (hcx X pins a oe xe) (.Name n p2) (Uf i):=Jp (X:=hcx X pins a oe xe) Z.at' hv Z.nB Z.nC;have h:=El (X:=hcx X pins a oe xe) (x := "isinstance") (p:=p1) (pos:=p4) (Qg1 (X:=hcx X pins a oe xe) (a:=a) List.mem_cons_self hc hd Y k1 k2) Z.gI Z.mI (by decide +kernel) (Ay e1 (Ay (k3 p3) Bq))
 intro pins' s' σ' H' Q I q;exact h pins' s' σ' H' Q I ⟨_,q.1.1,rfl,q.1.2,q.2⟩
end
section
variable{X:Cx}{pins:List (Addr×Obj)}{σ:St}{H H1:Hp}{s s1:Shared}{a T:Addr}{C:Value}{dx:Option Addr}
theorem Fk(hstk:X.stack=X.env::X.outer)(hfrm:X.env.frame=some X.env.locals)(I:Inv X pins σ H s)(os:s1.os=s.os)(bare:AllBare s1.gens)(u:Un (frs X.stack) [] H H1 s.heap s1.heap)(ok:HOk X.prog X.w H1 s1.heap)(hn:∀b∈[a,T],s.heap.get? b=none/\H1 b=none)
  {h':Heap} (r1:(PySem.W.hideAll s1.heap ([a,T]++frs X.stack)).StaysIn h') (r2:h'.FunFrames (PySem.W.hideAll s1.heap ([a,T]++frs X.stack)) (X.env::X.outer)) (r3:TrX h' (PySem.W.hideAll s1.heap ([a,T]++frs X.stack)) a C dx .none) (sl:s1.heap.UpToSlots h') :
  ∃oe va,h'.get? a=some oe/\oe.cls=C/\oe.dict=dx/\oe.data=.fields va/\(dx≠none->va[2]?=some .none)/\Inv X pins σ H1 { s1 with heap:=h' }/\∀xe,Inv (hcx X pins a oe xe) [] σ H1 { s1 with heap:=h' }:=by
 have J:Inv X pins σ H1 { s1 with heap:=h' }:=I.flew os bare u ok hn r1 sl
 obtain⟨oe3,vs3,T3,oT3,ts3,a1,⟨a2,a4,a5⟩,a3,_⟩:=r3;refine⟨oe3,vs3,a1,a2,a4,a3,a5,J,λxe=>J.inh a1 (hn a (by simp)).2 (λz=>?_) (λz=>?_) λv z=>?_⟩
 ·obtain⟨m,⟨o,es,ep,eo,ed,_⟩,_⟩:=J.loc
  have eo':h'.get? X.env.locals=some o:=eo;rw[<-z,a1] at eo';cases eo';rw[a3] at ed;cases ed
 ·have z':a∈frs (X.env::X.outer):=by
   unfold frs;rw[List.filterMap_cons,hfrm];exact List.mem_cons_of_mem _ z
  obtain⟨_,o,e1,nf⟩:=r2.mem z';rw[a1] at e1;cases e1;exact nf vs3 a3
 ·rw[a3] at z
  cases z
variable{i:Nat}{n xF:Str}{CF:Addr}{E:XK}{e:Value}{D:Ends}{b₀:Stmt}{hb:List Stmt}{p0 hp:Pos}
theorem Yv(Z:Hn X i n xF CF)(I:Inv X pins σ H s)(h:CXx X.prog X.w X.stack H s E e s1)
  (hE:∀v dx H1,E v dx H1->∃Ca,v=.ref Ca/\exmOne X.K (.ref Ca) (.ref CF)=some true/\∀a oe va,oe.cls=.ref Ca->oe.dict=dx->oe.data=.fields va ->
   ∃t:TS,PSs (hcx X pins a oe (λ_ _=>False)) (b₀::hb) t/\t { nx:=λσ' H'=>D.nx (σ'.set i none) H',rt:=D.rt } (σ.set i (some (.ref a))) H1) :
  wpAny (model X.prog X.w) X.A (noteFrame e X.env) (λ_ s2=>wpAny (model X.prog X.w) X.A (setFlight e none) (λ_ s3=>wpAny (model X.prog X.w) X.A (handleBy e X.env [.ExceptHandler (some (.Name xF p0)) (some n) (b₀::hb) hp]) (SP X pins D) X.xe s3) X.xe s2) X.xe s1:=by
 obtain⟨a,C,dx,T,H1,rfl,os,bare,u,ok,fl,⟨n1,n2⟩,⟨m1,m2⟩,q⟩:=h;obtain⟨Ca,rfl,hm,hk⟩:=hE _ _ _ q;have hn:∀b∈[a,T],s.heap.get? b=none/\H1 b=none:=λb hb=>by
  rcases List.mem_cons.mp hb with rfl|hb
  ·exact⟨m1,n1⟩
  ·rw[List.mem_singleton.mp hb];exact⟨m2,n2⟩
 obtain⟨oe,vs,oT,ts,q1,q2,q3,q4,q6,q7,q8,q9⟩:=id fl;have fr:X.A.frames=some (X.env::X.outer):=by rw[I.ok.frames,Z.stk]
 have ff:=Cm (hs:=[a,T]) I u;have ff':s1.heap.FunFrames (PySem.W.hideAll s1.heap ([a,T]++frs X.stack)) (X.env::X.outer):=by rw[<-Z.stk];exact ff
 refine Gr (base:=PySem.W.hideAll s1.heap ([a,T]++frs X.stack)) (c:=.ref Ca) (d:=dx) fr ff' Z.frm ⟨oe,vs,T,oT,ts,q1,q2,q3,q4,PySem.W.hideAll_none _ (by simp),q6,q7,q8,q9⟩ Cl (PySem.W.hideAll_none _ (by simp)) λh2 L2'=>?_
 refine Bk (s:={ s1 with heap:=h2 }) (base:=PySem.W.hideAll s1.heap ([a,T]++frs X.stack)) L2'.st L2'.ff L2'.tr λh3 L3=>?_
 have sl3:s1.heap.UpToSlots h3:=L2'.sl.trans L3.sl;obtain⟨oe3,va3,a1,a2,a3,a4,a5,J3,I3⟩:=Fk Z.stk Z.frm I os bare u ok hn L3.st L3.ff L3.tr sl3;refine wpAny_handleBy_cons (codeAny_handlers_test ?_) (by intro z;cases z)
 refine D8 (X:=hcx X pins a oe3 (λ_ _=>False)) (I3 _) Z.gF Z.mF ?_ Z.dF
 refine(exm_one (K:=X.K) J3.kIn (Vd a1 a2) hm).here ?_;rw[if_pos rfl];refine codeAny_handlers_suite_as ?_;refine Bk (s:={ s1 with heap:=h3 }) (base:=PySem.W.hideAll s1.heap ([a,T]++frs X.stack)) L3.st L3.ff L3.tr λh4 L4=>?_
 obtain⟨oe4,va4,b1,b2,b3,b4,b5,J4,I4⟩:=Fk Z.stk Z.frm I os bare u ok hn L4.st L4.ff L4.tr (sl3.trans L4.sl);refine Jo (X:=hcx X pins a oe4 (λ_ _=>False)) (v:=.ref a) (I4 _) Z.nd Z.at' (.inl Z.loc) rfl (λs5 I5=>?_) (.inr Z.loc)
 obtain⟨t,ht,hh⟩:=hk a oe4 va4 b2 b3 b4;refine wpAny_mono (ht [] s5 (σ.set i (some (.ref a))) H1 _ I5 hh) (λf s6 h6=>?_) (λ_ _ z=>z.elim)
 have go:∀{σ6:St} {H6:Hp} {Q:Shared->Prop},Inv (hcx X pins a oe4 (λ_ _=>False)) [] σ6 H6 s6->(∀s7,Inv X pins (σ6.set i none) H6 s7->Q s7)->wpAny (model X.prog X.w) X.A (do bindName X.env n .none;unbindBehindTheSuite X.env n hp) (λ_ s7=>Q s7) X.xe s6:=λ{σ6 H6 Q} I6 k=>by
  obtain⟨m6,hm6,hl6⟩:=id I6.loc;refine PySem.wpAny_nameGoes_keeps (m:=m6) Z.loc hm6 (by rw[I.ok.kind];rfl) λh7 v7 hm7 sb=>k _ ?_
  exact(I6.unh I.ok).goes Z.nd Z.at' hl6 hm7 sb
 cases f with
 |next=>
  obtain⟨σ6,H6,I6,z⟩:=h6;exact go I6 λs7 I7=>⟨_,H6,I7,z⟩
 |brk=>obtain⟨_,_,_,z⟩:=h6;exact z.elim
 |cont=>obtain⟨_,_,_,z⟩:=h6;exact z.elim
 |ret w=>
  obtain⟨v,σ6,H6,I6,rv,q6⟩:=h6;exact go I6 λs7 I7=>⟨v,_,H6,I7,rv,q6⟩
theorem Yw(hstk:X.stack=X.env::X.outer)(hfrm:X.env.frame=some X.env.locals)(gF:Gl X xF)(dF:(xF==("__debug__" : Str))=false)(mF:X.mg xF=some (.ref CF))(I:Inv X pins σ H s)(h:CXx X.prog X.w X.stack H s E e s1)
  (hpo:∀hd,PassesOwnAt (model X.prog X.w) (X.A.mark hd) X.A X.env X.xe)
  (hE:∀v dx H1,E v dx H1->∃Ca,v=.ref Ca/\dx≠none/\exmOne X.K (.ref Ca) (.ref CF)=some true/\∀a oe va s4,oe.data=.fields va->va[2]?=some .none->Inv (hcx X pins a oe X.xe) [] σ H1 s4 ->
   wpAny (model X.prog X.w) (X.A.mark (some (.ref a))) (execs (b₀::hb) X.env) (SP X pins D) X.xe s4) :
  wpAny (model X.prog X.w) X.A (noteFrame e X.env) (λ_ s2=>wpAny (model X.prog X.w) X.A (setFlight e none) (λ_ s3=>wpAny (model X.prog X.w) X.A (handleBy e X.env [.ExceptHandler (some (.Name xF p0)) none (b₀::hb) hp]) (SP X pins D) X.xe s3) X.xe s2) X.xe s1:=by
 obtain⟨a,C,dx,T,H1,rfl,os,bare,u,ok,fl,⟨n1,n2⟩,⟨m1,m2⟩,q⟩:=h;obtain⟨Ca,rfl,hdx,hm,hk⟩:=hE _ _ _ q;have hn:∀b∈[a,T],s.heap.get? b=none/\H1 b=none:=λb hb=>by
  rcases List.mem_cons.mp hb with rfl|hb
  ·exact⟨m1,n1⟩
  ·rw[List.mem_singleton.mp hb];exact⟨m2,n2⟩
 obtain⟨oe,vs,oT,ts,q1,q2,q3,q4,q6,q7,q8,q9⟩:=id fl;have fr:X.A.frames=some (X.env::X.outer):=by rw[I.ok.frames,hstk]
 have ff:=Cm (hs:=[a,T]) I u;have ff':s1.heap.FunFrames (PySem.W.hideAll s1.heap ([a,T]++frs X.stack)) (X.env::X.outer):=by rw[<-hstk];exact ff
 refine Gr (base:=PySem.W.hideAll s1.heap ([a,T]++frs X.stack)) (c:=.ref Ca) (d:=dx) fr ff' hfrm ⟨oe,vs,T,oT,ts,q1,q2,q3,q4,PySem.W.hideAll_none _ (by simp),q6,q7,q8,q9⟩ Cl (PySem.W.hideAll_none _ (by simp)) λh2 L2'=>?_
 refine Bk (s:={ s1 with heap:=h2 }) (base:=PySem.W.hideAll s1.heap ([a,T]++frs X.stack)) L2'.st L2'.ff L2'.tr λh3 L3=>?_
 have sl3:s1.heap.UpToSlots h3:=L2'.sl.trans L3.sl;obtain⟨oe3,va3,a1,a2,a3,a4,a5,J3,I3⟩:=Fk hstk hfrm I os bare u ok hn L3.st L3.ff L3.tr sl3;refine wpAny_handleBy_cons (codeAny_handlers_test ?_) (by intro z;cases z)
 refine D8 (X:=hcx X pins a oe3 (λ_ _=>False)) (I3 _) gF mF ?_ dF
 refine(exm_one (K:=X.K) J3.kIn (Vd a1 a2) hm).here ?_;rw[if_pos rfl];refine codeAny_handlers_suite ?_;refine Bk (s:={ s1 with heap:=h3 }) (base:=PySem.W.hideAll s1.heap ([a,T]++frs X.stack)) L3.st L3.ff L3.tr λh4 L4=>?_
 obtain⟨oe4,va4,b1,b2,b3,b4,b5,J4,I4⟩:=Fk hstk hfrm I os bare u ok hn L4.st L4.ff L4.tr (sl3.trans L4.sl);exact wpAny_passesOwnAt (hpo _) (hk a oe4 va4 _ b4 (b5 hdx) (I4 _))
theorem Yx{ve:Expr}{rp:Pos}(hstk:X.stack=X.env::X.outer)(hfrm:X.env.frame=some X.env.locals)(gF:Gl X xF)(dF:(xF==("__debug__" : Str))=false)(mF:X.mg xF=some (.ref CF))(I:Inv X pins σ H s)(h:CXx X.prog X.w X.stack H s E e s1)
  (hE:∀v dx H1,E v dx H1->∃Ca,v=.ref Ca/\exmOne X.K (.ref Ca) (.ref CF)=some true/\∃te:TE,(∀a oe,PE (hcx X pins a oe (λ_ _=>False)) ve te)/\te σ H1 D.rt) :
  wpAny (model X.prog X.w) X.A (noteFrame e X.env) (λ_ s2=>wpAny (model X.prog X.w) X.A (setFlight e none) (λ_ s3=>wpAny (model X.prog X.w) X.A (handleBy e X.env [.ExceptHandler (some (.Name xF p0)) none [.Return (some ve) rp] hp]) (SP X pins D) X.xe s3) X.xe s2) X.xe s1:=by
 obtain⟨a,C,dx,T,H1,rfl,os,bare,u,ok,fl,⟨n1,n2⟩,⟨m1,m2⟩,q⟩:=h;obtain⟨Ca,rfl,hm,te,hp,hk⟩:=hE _ _ _ q;have hn:∀b∈[a,T],s.heap.get? b=none/\H1 b=none:=λb hb=>by
  rcases List.mem_cons.mp hb with rfl|hb
  ·exact⟨m1,n1⟩
  ·rw[List.mem_singleton.mp hb];exact⟨m2,n2⟩
 obtain⟨oe,vs,oT,ts,q1,q2,q3,q4,q6,q7,q8,q9⟩:=id fl;have fr:X.A.frames=some (X.env::X.outer):=by rw[I.ok.frames,hstk]
 have ff:=Cm (hs:=[a,T]) I u;have ff':s1.heap.FunFrames (PySem.W.hideAll s1.heap ([a,T]++frs X.stack)) (X.env::X.outer):=by rw[<-hstk];exact ff
 refine Gr (base:=PySem.W.hideAll s1.heap ([a,T]++frs X.stack)) (c:=.ref Ca) (d:=dx) fr ff' hfrm ⟨oe,vs,T,oT,ts,q1,q2,q3,q4,PySem.W.hideAll_none _ (by simp),q6,q7,q8,q9⟩ Cl (PySem.W.hideAll_none _ (by simp)) λh2 L2'=>?_
 refine Bk (s:={ s1 with heap:=h2 }) (base:=PySem.W.hideAll s1.heap ([a,T]++frs X.stack)) L2'.st L2'.ff L2'.tr λh3 L3=>?_
 have sl3:s1.heap.UpToSlots h3:=L2'.sl.trans L3.sl;obtain⟨oe3,va3,a1,a2,a3,a4,a5,J3,I3⟩:=Fk hstk hfrm I os bare u ok hn L3.st L3.ff L3.tr sl3;refine wpAny_handleBy_cons (codeAny_handlers_test ?_) (by intro z;cases z)
 refine D8 (X:=hcx X pins a oe3 (λ_ _=>False)) (I3 _) gF mF ?_ dF
 refine(exm_one (K:=X.K) J3.kIn (Vd a1 a2) hm).here ?_;rw[if_pos rfl];refine codeAny_handlers_suite ?_;refine Bk (s:={ s1 with heap:=h3 }) (base:=PySem.W.hideAll s1.heap ([a,T]++frs X.stack)) L3.st L3.ff L3.tr λh4 L4=>?_
 obtain⟨oe4,va4,b1,b2,b3,b4,b5,J4,I4⟩:=Fk hstk hfrm I os bare u ok hn L4.st L4.ff L4.tr (sl3.trans L4.sl);refine wpAny_mono (Y9 (Mp (hp a oe4)) [] _ σ H1 _ (I4 _) hk) (λf s6 h6=>?_) (λ_ _ z=>z.elim)
 cases f with
 |next=>
  obtain⟨σ6,H6,I6,z⟩:=h6;exact⟨σ6,H6,I6.unh I.ok,z⟩
 |brk=>
  obtain⟨σ6,H6,I6,z⟩:=h6;exact⟨σ6,H6,I6.unh I.ok,z⟩
 |cont=>
  obtain⟨σ6,H6,I6,z⟩:=h6;exact⟨σ6,H6,I6.unh I.ok,z⟩
 |ret w=>
  obtain⟨v,σ6,H6,I6,rv,q6⟩:=h6;exact⟨v,σ6,H6,I6.unh I.ok,rv,q6⟩
theorem Q9{body:List Stmt}{hd:ExceptHandler}{tp:Pos}{t:TS}(hb:PSs X.nox body t):PS X (.Try body [hd] [] [] tp) t:=by
 intro pins s σ H D I h;refine wpAny_Try_except (wpAny_mono (hb pins s σ H D (I.wish _) h) (λf s1 q=>?_) λ_ _ z=>False.elim z)
 have q':=q.unwish
 cases f with
 |next=>exact wpAny_execs_nil q'
 |brk=>exact q'
 |cont=>exact q'
 |ret u=>exact q'
theorem Hw(I:Inv X pins σ H s){hd:ExceptHandler}{body:List Stmt}{t:TS}{tp:Pos}
  (hc:∀σ2 H2 s2 e s',Inv X pins σ2 H2 s2->CXx X.prog X.w X.stack H2 s2 E e s'->wpAny (model X.prog X.w) X.A (noteFrame e X.env) (λ_ s2=>wpAny (model X.prog X.w) X.A (setFlight e none) (λ_ s3=>wpAny (model X.prog X.w) X.A (handleBy e X.env [hd]) (SP X pins D) X.xe s3) X.xe s2) X.xe s')
  (hb:∀(pn:List (Addr×Obj)) (xe:Value->Shared->Prop),Ct (CXx X.prog X.w) { X with pn:=pn,xe:=xe } E->PSs { X with pn:=pn,xe:=xe } body t)
  (h:t { nx:=λ_ _=>False,rt:=λ_ _=>False } σ H) :
  wpAny (model X.prog X.w) X.A (exec (.Try body [hd] [] [] tp) X.env) (SP X pins D) X.xe s:=by
 refine wpAny_Try_except ?_
 generalize hxe:(λ(e:Value) (s1:Shared)=>wpAny (model X.prog X.w) X.A (noteFrame e X.env) (λ_ s2=>wpAny (model X.prog X.w) X.A (setFlight e none) (λ_ s3=>wpAny (model X.prog X.w) X.A (handleBy e X.env [hd]) (SP X pins D) X.xe s3) X.xe s2) X.xe s1)=xe
 have hp:Ct (CXx X.prog X.w) { X with pn:=X.pn++pins,xe:=xe } E:=λpins2 σ2 H2 s2 e s' I2 h2=>by
  show xe e s'
  rw[<-hxe];have I2':Inv X pins σ2 H2 s2:=⟨I.ok,I2.os,I2.bare,I2.base,I2.loc,I2.cell,I2.free,I2.freeC,λp hp=>I2.pin p (List.mem_append_left _ hp),I2.hok,I2.len⟩
  exact hc σ2 H2 s2 e s' I2' h2
 have I':Inv { X with pn:=X.pn++pins,xe:=xe } [] σ H s:=⟨{ I.ok with },I.os,I.bare,I.base,I.loc,I.cell,I.free,I.freeC,λp hp=>I.pin p (by simpa using hp),I.hok,I.len⟩
 refine wpAny_mono (hb _ _ hp [] s σ H _ I' h) (λf s1 q=>?_) λe s1 z=>z
 cases f with
 |next=>obtain⟨_,_,_,z⟩:=q;exact z.elim
 |brk=>obtain⟨_,_,_,z⟩:=q;exact z.elim
 |cont=>obtain⟨_,_,_,z⟩:=q;exact z.elim
 |ret u=>obtain⟨_,_,_,_,_,z⟩:=q;exact z.elim
end
abbrev veM:List Value:=[.type "ValueError",.type "Exception",.type "BaseException",.type "object"]
section
variable{X:Cx}{x m:Str}{C:Addr}{np kp cpos pos:Pos}{k:Nat}{W:Hp->Prop}
theorem Vf(O:OwnCls x C veM "ValueError.__new__" X.mg X.base)(hg:Gl X x)(hd:(x==("__debug__" : Str))=false)(hc:X.calm=true)
  (hx:∀pins σ H s h' e vs,Inv X pins σ H s->Heap.MadeExcOf s.heap h' e (.ref C) vs->W H->X.xe (.ref e) { s with heap:=h' }) :
  PS X (.Raise (some (.Call (.Name x np) [.Constant (.str m) k kp] [] cpos)) none pos) (λ_ _ H=>W H):=by
 intro pins s σ H D I h;obtain⟨tl,N,nm,q,bs,hdct,sn,sub,ab,col,dd,k0,k1,k2,k3,k5,mN,hC,hN,hni,T⟩:=O.obj;refine wpAny_Raise_call_subT (C:=C) (nm:=nm) (q:=q) (N:=N) (bs:=bs) (bm:=tl) (hdct:=hdct) (sn:=sn) (sub:=sub) (ab:=ab) (col:=col) (dd:=dd) (k0:=k0) (k1:=k1) (k2:=k2) (k3:=k3) (k5:=k5)
  PySem.F.excBase_ValueError (mN:=mN) (T.hasType PySem.F.excBase_ValueError.hasBase) (I.ok.hd hc) rfl hni (D8 I hg O.bound ⟨rfl,?_⟩ hd)
 have pa:PA X [.Constant (.str m) k kp] (Jr (tC (.str m)) Q3):=Ay Ps Bq;refine Calls.evalArgs_plain (wpAny_mono (pa cpos pins s σ H (λxs H'=>H'=H/\xs.length=1) I ⟨rfl,rfl⟩) (λvs s2 h2=>?_) λ_ _ y=>y)
 obtain⟨xs,H2,I2,rv,rfl,l0⟩:=h2;have l1:vs.length<=sizeLine:=by
  rw[<-rv.length,l0,sizeLine_eq];decide
 exact⟨rfl,l1,I2.bk _ _ hC,hN.keeps I2.bk,T.keeps I2.bk,λh' e hm=>hx pins σ H2 s2 h' e vs I2 hm h⟩
theorem Qa{pins:List (Addr×Obj)}{σ:St}{H:Hp}{s:Shared}{a:Addr}{oe:Obj}{va:Array Value}{j2:Nat}{p2:Pos}{Q:Flow->Shared->Prop}(O:OwnCls x C veM "ValueError.__new__" X.mg X.base)(hg:Gl X x)(hd:(x==("__debug__" : Str))=false)
  (I:Inv (hcx X pins a oe X.xe) [] σ H s) (hda:oe.data=.fields va) (h2:va[2]?=some .none)
  (hx:∀s2 h' e t,Inv (hcx X pins a oe X.xe) [] σ H s2->(∀b o,s2.heap.get? b=some o->h'.get? b=some o)->s2.heap.get? e=none->h'.get? e=some (Ys C t a)->X.xe (.ref e) { s2 with heap:=h' }) :
  wpAny (model X.prog X.w) (X.A.mark (some (.ref a))) (execs [.Raise (some (.Call (.Name x np) [.Constant (.str m) k kp] [] cpos)) (some (.Constant .none j2 p2)) pos] X.env) Q X.xe s:=by
 obtain⟨tl,N,nm,q,bs,hdct,sn,sub,ab,col,dd,k0,k1,k2,k3,k5,mN,hC,hN,hni,T⟩:=O.obj;refine wpAny_execs_cons ?_;refine Oa (C:=C) (nm:=nm) (q:=q) (N:=N) (bs:=bs) (bm:=tl) (hdct:=hdct) (sn:=sn) (sub:=sub) (ab:=ab) (col:=col) (dd:=dd) (k0:=k0) (k1:=k1) (k2:=k2) (k3:=k3) (k5:=k5)
  PySem.F.excBase_ValueError (mN:=mN) (a:=a) (T.hasType PySem.F.excBase_ValueError.hasBase) rfl rfl hni (D8 (X:=hcx X pins a oe X.xe) I hg O.bound ⟨rfl,?_⟩ hd)
 have pa:PA (hcx X pins a oe X.xe) [.Constant (.str m) k kp] (Jr (tC (.str m)) Q3):=Ay Ps Bq;refine Calls.evalArgs_plain (wpAny_mono (pa cpos [] s σ H (λxs H'=>H'=H/\xs.length=1) I ⟨rfl,rfl⟩) (λvs s2 h2'=>?_) λ_ _ y=>y)
 obtain⟨xs,H2,I2,rv,rfl,l0⟩:=h2';have l1:vs.length<=sizeLine:=by
  rw[<-rv.length,l0,sizeLine_eq];decide
 obtain⟨ea,_⟩:=I2.pin (a,oe) (List.mem_append_left _ List.mem_cons_self);exact⟨rfl,l1,I2.bk _ _ hC,hN.keeps I2.bk,T.keeps I2.bk,⟨oe,va,ea,hda,h2⟩,λh' e t k n he=>hx s2 h' e t I2 k n he⟩
end
end L2
namespace L2
open PySem PySem.Spec PyProof.Rows PySem.W PySem.Builtin PySem.Builtin.ObjectAttr
section
variable{prog:Program}{w:World}{A:Around}{E:Value->Shared->Prop}{h:Heap}{g:Array GenState}{d:Drawn}{t:Nat}{os:OsState}
variable{nm q:Str}{C N:Addr}{bs bm bmB:List Value}{hdct:Bool}{sn:List Str}{sub:List Value}{ab:Bool}{col:Option Bool}{dd:Option Addr}{k0 k1 k2 k3 k5:Option Value}{B newId initId:String}
theorem Jv(F:ExcBaseFacts B newId initId bmB)(T:OwnTail h bmB bm){mN:Str->Option Value}{rest:List Value}{fI:Addr}{oI:Obj}{Q:Fin->Shared->Prop}
  (hC:h.get? C=some (excClassObj nm q C N bs bm hdct sn sub ab col dd k0 k1 k2 k3 k5 newId)) (hn:h.Ns N mN) (hi:mN "__init__" = some (.ref fI))
  (hfI:h.get? fI=some oI) (hfc:oI.cls=.type "function")
  (hq:∀h' e,Heap.MadeExcOf h h' e (.ref C) rest ->
   wpAny (model prog w) A (call (.ref fI) (.ref e::rest)) (λr s'=>r=.none/\Q (.done (.ret (.ref e))) s') E ⟨h',g,d,t,os⟩) (hrest:rest.length<=sizeLine:=by size_fits) :
  wpAny (model prog w) A (Builtin.«type.__call__» ⟨.ref C::rest,[]⟩) Q E ⟨h,g,d,t,os⟩:=by
 repeat (first|with_reducible refine wpAny_loadPart_at hC ?_|with_reducible refine wpAny_madeBy_exc hC ?_|wp_step)
 refine codeAny_call_builtin_code (Code.quiet_builtin _ F.quiet) (wpAny_check_new_subT F T hC ?_);refine codeAny_exc_new_subT F T hC ?_ hrest
 show wpAny _ _ _ _ _ _
 have hC₁:=Heap.get?_push_of_some { cls:=.ref C,data:=.fields #[.ref h.objs.size,.none,.none,.none,.bool false,.none] }
  (Heap.get?_push_of_some { cls:=.type "tuple",data:=.seq rest.toArray } hC)
 have hfI₁:=Heap.get?_push_of_some { cls:=.ref C,data:=.fields #[.ref h.objs.size,.none,.none,.none,.bool false,.none] }
  (Heap.get?_push_of_some { cls:=.type "tuple",data:=.seq rest.toArray } hfI)
 have hn₁:((h.push { cls:=.type "tuple",data:=.seq rest.toArray }).push { cls:=.ref C,data:=.fields #[.ref h.objs.size,.none,.none,.none,.bool false,.none] }).Ns N mN:=
  let ⟨o,es,ep,e,r⟩:=hn;⟨o,es,ep,Heap.get?_push_of_some _ (Heap.get?_push_of_some _ e),r⟩
 have hget:((h.push { cls:=.type "tuple",data:=.seq rest.toArray }).push
   { cls:=.ref C,data:=.fields #[.ref h.objs.size,.none,.none,.none,.bool false,.none] }).get? (h.objs.size+1)=some
   { cls:=.ref C,data:=.fields #[.ref h.objs.size,.none,.none,.none,.bool false,.none] }:=by heap_get
 have hcC:(Value.ref C::bm).contains (.ref C)=true:=by simp
 have T₁:=T.keeps (h':=(h.push { cls:=.type "tuple",data:=.seq rest.toArray }).push { cls:=.ref C,data:=.fields #[.ref h.objs.size,.none,.none,.none,.bool false,.none] })
  λb o e=>Heap.get?_push_of_some _ (Heap.get?_push_of_some _ e)
 unfold isInstance
 repeat (first|with_reducible refine wpAny_loadPart_at hget ?_|(with_reducible refine wpAny_isSubtype_exc hC₁ ?_;rw[hcC])|wp_step)
 show wpAny _ _ (typeLookup (.ref C) _) _ _ _
 refine wpAny_typeLookup_tail hC₁ hn₁ T₁ F.mroIs F.init.lookup ?_;rw[hi];refine wpAny_holding (wpAny_bind ?_);unfold bindSpecial;refine wpAny_bind (wpAny_typeOf (T := "function") ⟨_,hfI₁,hfc⟩ ?_);rw[if_pos (by decide)]
 refine wpAny_pure (wpAny_bind (wpAny_mono (hq _ (h.objs.size+1) ⟨λb o hb=>Heap.get?_push_of_some _ (Heap.get?_push_of_some _ hb),Heap.get?_none_of_le (Nat.le_succ _),h.objs.size,hget,Heap.get?_none_of_le (Nat.le_refl _),?_⟩) (λr s' hr=>?_) λ_ _ x=>x))
 ·exact Heap.get?_push_of_some _ (Heap.get?_push_at rfl rfl)
 ·obtain⟨rfl,hQ⟩:=hr
  wp_walk
  exact hQ
theorem Tc(F:ExcBaseFacts B newId initId bmB)(T:OwnTail h bmB bm){mN:Str->Option Value}{rest:List Value}{fI:Addr}{oI:Obj}{Q:Value->Shared->Prop}
  (hC:h.get? C=some (excClassObj nm q C N bs bm hdct sn sub ab col dd k0 k1 k2 k3 k5 newId)) (hn:h.Ns N mN) (hi:mN "__init__" = some (.ref fI))
  (hfI:h.get? fI=some oI) (hfc:oI.cls=.type "function")
  (hq:∀h' e,Heap.MadeExcOf h h' e (.ref C) rest ->
   wpAny (model prog w) (A.under (.builtin "type.__call__" ⟨.ref C::rest,[]⟩)) (call (.ref fI) (.ref e::rest)) (λr s'=>r=.none/\Q (.ref e) s') E ⟨h',g,d,t,os⟩) (hrest:rest.length<=sizeLine:=by size_fits) :
  wpAny (model prog w) A (call (.ref C) rest) Q E ⟨h,g,d,t,os⟩:=by
 have f1:=tc_lookup;have f2:=tc_bind (.ref C);have hT:(⟨h,g,d,t,os⟩:Shared).TypeIs (.ref C) "type" := ⟨_,hC,rfl⟩;refine wpAny_call (codeAny_of_tree ?_)
 show wpAny _ _ (callAny (.ref C) _) _ _ _
 repeat (any_goals (first|assumption|with_reducible refine wpAny_loadPart_at hC ?_|wp_step))
 refine⟨rfl,?_⟩;refine codeAny_call_builtin_at (Code.quiet_builtin _ (by decide +kernel)) entry_typeCall (wpAny_check_type_call_sub hC (Jv (hrest:=hrest) F T hC hn hi hfI hfc λh' e hm=>?_))
 exact hq h' e hm
end
def isR:Value->Bool
 |.ref _=>true
 |_=>false
theorem Qd5{c:Value}(h:isR c=true):∃a,c=.ref a:=by
 cases c<;>first|exact⟨_,rfl⟩|cases h
def Lr:List Value->Bool
 |[]=>false
 |c::r=>if isR c then Lr r else (c::r)==veM
def Jw(K:Frag)(C:Addr):Bool:=(clsIn K C).any λcd=>Lr cd.mro
theorem Jx(self:Value):∀{l:List Value},Lr l=true->refuseLoop self "__setattr__" l=pure ()
 |[],e=>by cases e
 |c::r,e=>by
  unfold Lr at e;split at e
  ·rename_i hc
   obtain⟨a,rfl⟩:=Qd5 hc;rw[refuseLoop_ref];exact Jx self e
  ·rw[show c::r=veM from beq_iff_eq.mp e]
   kernel_rfl
theorem Ls:∀{l:List Value},Lr l=true->l.contains (.type "object")=true
 |[],e=>by cases e
 |c::r,e=>by
  unfold Lr at e;split at e
  ·rw[List.contains_cons,Ls e,Bool.or_true]
  ·rw[show c::r=veM from beq_iff_eq.mp e]
   decide
section
variable{prog:Program}{w:World}{A:Around}{s:Shared}{K:Frag}{x C:Addr}{R:Result->Shared->Prop}
theorem Td{ox:Obj}{od:Option Obj}{name:Str}{tk:Tok}{v:Value}(X:K.In s.heap)(I:InstAt s.heap x ox C od)(hp:Jw K C=true)(ht:takerIn K C name=some none)
  (h:∀b,wpAny (model prog w) A.in1 (storeInOwnDict (.ref x) (.ref C) (.str name tk) name v b)
   (λfin s'=>match fin with|.done f=>R (.ok f) s'|.again c'=>c'.quiet=true/\codeAny (model prog w) A c' R s') (λe s'=>R (.error e) s') s) :
  codeAny (model prog w) A (.call (.builtin "object.__setattr__") ⟨[.ref x,.str name tk,v],[]⟩) R s:=by
 have SF:=PySem.F.store_object;obtain⟨cd,hc,ho⟩:=any_some hp;have ne:cd.mro.isEmpty=false:=by cases q:cd.mro with|nil=>rw[q] at ho;cases ho|cons _ _=>rfl
 have sub:Looks (model prog w) s.heap (isInstance (.ref x) (.type "object")) true:=I.type.andThen (looks_mroIn X (by unfold mroIn;rw[hc,Option.bind_some,if_neg (by rw[ne];decide),Ls ho]))
 refine codeAny_call_builtin SF.slot.plain SF.entry (@check_slot (model prog w) _ _ s "object.__setattr__" "object" "__setattr__" (.ref x) [.str name tk,v] [] _ SF.kind SF.split sub (SF.args (.ref x) (.str name tk) v) ?_);obtain⟨attr,ha,hr⟩:=Option.bind_eq_some_iff.mp ht;have hm:Looks (model prog w) s.heap (mroOf (.ref C)) cd.mro:=(looks_clsIn X hc).andThen .now;have L3:Looks (model prog w) s.heap (storeTaker? attr) none:=by
  cases attr with
  |none=>cases hr;exact .now
  |some a=>
   obtain⟨b,hb,hb2⟩:=Option.map_eq_some_iff.mp hr;refine(looks_takesIn X hb).andThen ?_;cases b
   ·exact .now
   ·cases hb2
 rw[osa_eq,refuse_eq];refine wpAny_bind (wpAny_bind (I.type.here (wpAny_bind (hm.here ?_))));rw[Jx _ ho];refine wpAny_pure (wpAny_bind (I.type.here (wpAny_bind ((looks_findIn X ha).here (wpAny_bind (L3.here ?_))))));exact h _
theorem Yy{E:Value->Shared->Prop}{oe:Obj}{vs:Array Value}{name:Str}{v:Value}{Q:Unit->Shared->Prop}(X:K.In s.heap)(he:s.heap.get? x=some oe)(hc:oe.cls=.ref C)(hd:oe.dict=none)(hdat:oe.data=.fields vs)
  (hs:findIn K (.ref C) "__setattr__" = some (some (.builtin "object.__setattr__"))) (hp:Jw K C=true) (ht:takerIn K C name=some none) (hh:hasDictIn K C=true)
  (h:∀h' dx tk,(∀b o,b≠x->s.heap.get? b=some o->h'.get? b=some o)->h'.get? x=some { oe with dict:=some dx }->h'.Ns1 dx (λy=>if y=name then some v else none)->s.heap.get? dx=none->Q () { s with heap:=h',toks:=tk }) :
  wpAny (model prog w) A (setAttr (.ref x) name v) Q E s:=by
 have I:InstAt s.heap x oe C none:=⟨he,hc,by unfold notCls;rw[hdat],by rw[hd];trivial⟩
 refine set_plain X I hs (Td (s:={ s with toks:=s.toks+1 }) X I hp ht λb=>?_)
 obtain⟨cd,hcl,hd'⟩:=any_some hh;obtain⟨oc,od,oda,osl⟩:=oe;simp only at hc hd hdat;subst hc hd hdat;refine wpAny_bind (wpAny_pure (wpAny_bind (wpAny_bind (wpAny_loadPart he (wpAny_bind (Looks.here (s:={ s with toks:=s.toks+1 }) (looks_clsIn X hcl) ?_))))))
 rw[hd']
 show wpAny (model prog w) A.in1 (alloc { cls:=Value.type "dict",data:=Data.dict #[] } >>= λd=>update x (λo=>{ o with dict:=some d }) >>= λ_=>dictMade (.ref C) x d) _ _ _
 have hx1:=Heap.get?_push_of_some { cls:=Value.type "dict",data:=Data.dict #[] } he;have hne:x≠s.heap.objs.size:=Nat.ne_of_lt (Heap.lt_size he);refine wpAny_bind (wpAny_alloc (wpAny_bind (wpAny_update hx1 ?_)));refine wpAny_pure (a:=some s.heap.objs.size) ?_;have hx2:=Heap.get?_update_self (λo:Obj=>{ o with dict:=some s.heap.objs.size }) hx1 rfl
 have hd2:((s.heap.push { cls:=Value.type "dict",data:=Data.dict #[] }).update x (λo=>{ o with dict:=some s.heap.objs.size })).get? s.heap.objs.size=some { cls:=Value.type "dict",data:=Data.dict #[] }:=
  (Heap.get?_update_other _ _ hne).trans (Heap.get?_push_size _ rfl)
 have n1:((s.heap.push { cls:=Value.type "dict",data:=Data.dict #[] }).update x (λo=>{ o with dict:=some s.heap.objs.size })).Ns1 s.heap.objs.size (λ_=>none):=
  ⟨_,#[],0,hd2,rfl,λy hy=>by simp at hy,by simp[UniqKeys],λname=>rfl⟩
 show wpAny _ _ (storeInDict s.heap.objs.size (.str name s.toks) name v) _ _ _
 refine wpAny_bind (wpAny_pure (wpAny_bind (wpAny_nsSet1 n1 λh' hn2 hs2=>?_)))
 obtain⟨oD,esD,epD,hoD,hdD,hcD⟩:=hn2.count (PySem.Within.cons name v PySem.Within.nil);refine wpAny_bind (wpAny_lookBehind hoD (by rw[hdD];exact pastItsLine_dict (Nat.le_trans hcD (by rw[sizeLine_eq,List.length_singleton];decide))) ?_)
 refine wpAny_pure (h _ _ _ (λb o hb e=>?_) ?_ hn2 (Heap.get?_none_of_le (Nat.le_refl _)))
 ·rw[hs2.2 b (Nat.ne_of_lt (Heap.lt_size e)),Heap.get?_update_other _ _ (Ne.symm hb)]
  exact Heap.get?_push_of_some _ e
 ·rw[hs2.2 x hne]
  exact hx2
end
section
variable{prog:Program}{w:World}{A:Around}{E:Value->Shared->Prop}{s:Shared}{env:Env}
variable{nm q:Str}{C N:Addr}{bs bm bmB:List Value}{hdct:Bool}{sn:List Str}{sub:List Value}{ab:Bool}{col:Option Bool}{dd:Option Addr}{k0 k1 k2 k3 k5:Option Value}{B newId initId:String}
theorem Eo{x:Sem Value}{Q:Flow->Shared->Prop}(hbase:bm.contains (.type "BaseException")=true)(hh:A.handled=none)
  (h:wpAny (model prog w) A x (λv s₁=>∃e t dx,v=.ref e/\s₁.heap.get? C=some (excClassObj nm q C N bs bm hdct sn sub ab col dd k0 k1 k2 k3 k5 newId) /\
   s₁.heap.get? e=some { cls:=.ref C,dict:=some dx,data:=.fields #[.ref t,.none,.none,.none,.bool false,.none] }/\E (.ref e) s₁) E s) :
  wpAny (model prog w) A (raiseStmt env (some x) none) Q E s:=by
 have hcB:(Value.ref C::bm).contains (.type "BaseException")=true:=by rw[List.contains_cons,hbase,Bool.or_true]
 unfold raiseStmt;refine wpAny_bind (wpAny_mono h (λv s₁ h₁=>?_) λ_ _ x=>x)
 obtain⟨e,t,dx,rfl,hC,he,hE⟩:=h₁;obtain⟨hp,g,d,tk,os⟩:=s₁
 repeat (first|with_reducible refine wpAny_loadPart_at he ?_|with_reducible refine wpAny_loadPart_at hC ?_|(with_reducible refine wpAny_isSubtype_exc hC ?_;rw[hcB])|wp_step)
 exact wpAny_raiseNew_none hh hE
theorem Ob(F:ExcBaseFacts B newId initId bmB){mN:Str->Option Value}{x:Str}{np cpos pos:Pos}{args:List Expr}{fI:Addr}{oI:Obj}{Q:Flow->Shared->Prop}
  (hbase:bm.contains (.type "BaseException")=true) (hh:A.handled=none) (hplain:(backTo cpos (starEach args env)).any (·.1)=false) (hi:mN "__init__" = some (.ref fI)) (hfc:oI.cls=.type "function")
  (h:wpAny (model prog w) A (eval (.Name x np) env) (λf s₁=>f=.ref C/\wpAny (model prog w) A (evalArgs (.ref C) true (backTo cpos (starEach args env)) [])
   (λa s₂=>a.kw=[]/\a.pos.length<=sizeLine/\s₂.heap.get? C=some (excClassObj nm q C N bs bm hdct sn sub ab col dd k0 k1 k2 k3 k5 newId)/\s₂.heap.Ns N mN/\OwnTail s₂.heap bmB bm/\s₂.heap.get? fI=some oI /\
    ∀h' e,Heap.MadeExcOf s₂.heap h' e (.ref C) a.pos->wpAny (model prog w) (A.under (.builtin "type.__call__" ⟨.ref C::a.pos,[]⟩)) (call (.ref fI) (.ref e::a.pos))
     (λr s'=>r=.none/\∃t dx,s'.heap.get? C=some (excClassObj nm q C N bs bm hdct sn sub ab col dd k0 k1 k2 k3 k5 newId)/\s'.heap.get? e=some { cls:=.ref C,dict:=some dx,data:=.fields #[.ref t,.none,.none,.none,.bool false,.none] }/\E (.ref e) s') E { s₂ with heap:=h' }) E s₁) E s) :
  wpAny (model prog w) A (exec (.Raise (some (.Call (.Name x np) args [] cpos)) none pos) env) Q E s:=by
 rw[arm_exec_Raise]
 first
  |refine wpAny_bind (wpAny_standAt (Eo (C:=C) (nm:=nm) (q:=q) (N:=N) (bs:=bs) (bm:=bm) (hdct:=hdct) (sn:=sn) (sub:=sub) (ab:=ab) (col:=col) (dd:=dd) (k0:=k0) (k1:=k1) (k2:=k2) (k3:=k3) (k5:=k5) (newId:=newId) hbase hh (wpAny_bind (wpAny_mono (wpAny_Call_ofName (wpAny_mono h (λf s₁ h₁=>?_) λ_ _ x=>x)) (λv s₃ h₃=>wpAny_bind (wpAny_standAt (wpAny_pure h₃))) λ_ _ x=>x))))
  |(simp only[evalOpt,Option.map];refine wpAny_bind (wpAny_standAt (Eo (C:=C) (nm:=nm) (q:=q) (N:=N) (bs:=bs) (bm:=bm) (hdct:=hdct) (sn:=sn) (sub:=sub) (ab:=ab) (col:=col) (dd:=dd) (k0:=k0) (k1:=k1) (k2:=k2) (k3:=k3) (k5:=k5) (newId:=newId) hbase hh (wpAny_bind (wpAny_mono (wpAny_Call_ofName (wpAny_mono h (λf s₁ h₁=>?_) λ_ _ x=>x)) (λv s₃ h₃=>wpAny_bind (wpAny_standAt (wpAny_pure h₃))) λ_ _ x=>x)))))
  |(refine wpAny_bind (wpAny_standAt (Eo (C:=C) (nm:=nm) (q:=q) (N:=N) (bs:=bs) (bm:=bm) (hdct:=hdct) (sn:=sn) (sub:=sub) (ab:=ab) (col:=col) (dd:=dd) (k0:=k0) (k1:=k1) (k2:=k2) (k3:=k3) (k5:=k5) (newId:=newId) hbase hh ?_));refine wpAny_bind (wpAny_mono (wpAny_Call_ofName (wpAny_mono h (λf s₁ h₁=>?_) λ_ _ x=>x)) (λv s₃ h₃=>wpAny_bind (wpAny_standAt (wpAny_pure h₃))) λ_ _ x=>x))
 obtain⟨rfl,h₁⟩:=h₁;unfold callWith;refine wpAny_bind (wpAny_holding (wpAny_mono h₁ (λa s₂ h₂=>wpAny_bind (wpAny_standAt ?_)) λ_ _ x=>x))
 obtain⟨apos,akw⟩:=a;obtain⟨hkw,hlen,hC,hn,T,hfI,h₂⟩:=h₂;obtain rfl:akw=[]:=hkw;obtain⟨hp,g,d,tk,os⟩:=s₂;simp only[hplain];refine wpAny_bind (wpAny_keeperOf_exc hC ?_);refine wpAny_bind (Tc (hrest:=hlen) F T hC hn hi hfI hfc λh' e hm=>wpAny_mono (h₂ h' e hm) (λr s' z=>⟨z.1,wpAny_bind (wpAny_holding (wpAny_point (wpAny_pure ?_)))⟩) λ_ _ x=>x)
 obtain⟨_,t,dx,z1,z2,z3⟩:=z;exact⟨e,t,dx,rfl,z1,z2,z3⟩
end
def Lu(p1 p2 p3 p4:Pos):List Stmt:=[.Assign [.Attribute (.Name "self" p1) "at" p2] (.Name "at" p3) p4]
theorem Qd6{fs:List Addr}{H:Hp}{h0 h1 h2:Heap}{e:Addr}(u:Un fs [] H H h0 h1)(k:∀b o,b≠e->h1.get? b=some o->h2.get? b=some o)(ne:h0.get? e=none):Un fs [] H H h0 h2 where
 keep:=λb o q n hb hx=>k b o (λz=>by subst z;rw[ne] at q;cases q) (u.keep b o q n hb hx)
 slot:=λb o q n hb hx=>by
  obtain⟨sl,e1⟩:=u.slot b o q n hb hx;exact⟨sl,k b _ (λz=>by subst z;rw[ne] at q;cases q) e1⟩
 free:=u.free
 there:=λb o q hx=>by
  obtain⟨o',e1⟩:=u.there b o q hx;exact⟨o',k b _ (λz=>by subst z;rw[ne] at q;cases q) e1⟩
 tups:=u.tups
 frzs:=u.frzs
 tbls:=u.tbls
theorem Te{P:Program}{w:World}{K:Frag}{mg:Str->Option Value}{base:Heap}{A:Around}{outer:List Env}{s:Shared}{H:Hp}{f e C:Addr}{name qual:Str}{params:Arguments}{scope:Scope}{dV kV doc pm cdv ct oc u:Value}{an od:Option Addr}{osl:Array (Option Value)}{p1 p2 p3 p4:Pos}{vs:Array Value}{v:V}
  (hr:Room 2 A) (e0:Env0 P w K mg base A outer s H) (lk:K.lookup f=some ⟨oc,od,.func (fnOf name qual params (Lu p1 p2 p3 p4) scope dV kV doc pm an cdv ct),osl⟩) (hcd:codeIn K cdv qual=true) (S:FnScope ["self","at"] ["self","at"] scope)
  (hb:bindArgs (fnOf name qual params (Lu p1 p2 p3 p4) scope dV kV doc pm an cdv ct) ⟨[.ref e,u],[]⟩=pure ([("self" : Str),"at"].zip [.ref e,u]))
  (he:s.heap.get? e=some { cls:=.ref C,data:=.fields vs }) (hn:H e=none) (hfr:e∉frs outer)
  (hs:findIn K (.ref C) "__setattr__" = some (some (.builtin "object.__setattr__"))) (hp:Jw K C=true) (ht:takerIn K C "at" = some none) (hh:hasDictIn K C=true) (ru:An v u)
  {Q:Value->Shared->Prop} {E:Value->Shared->Prop}
  (h:∀s' dx u',An v u'->s'.os=s.os->AllBare s'.gens->(∀h0:Heap,(∀b o,h0.get? b=some o->s.heap.get? b=some o)->h0.get? e=none->Un (frs outer) [] H H h0 s'.heap)->HOk P w H s'.heap->s'.heap.get? e=some { cls:=.ref C,dict:=some dx,data:=.fields vs }->s'.heap.Ns1 dx (λy=>if y = "at" then some u' else none)->s.heap.get? dx=none->H dx=none->Q .none s') :
  wpAny (model P w) A (call (.ref f) [.ref e,u]) Q E s:=by
 have KX:K.In s.heap:=e0.mod.kin.keeps λb o e=>(e0.bs b o e).1
 have lim:s.heap.NoLimit:=e0.mod.nolimit.keeps λb o e=>(e0.bs b o e).1
 have hkind:∀y∈[("self" : Str),"at"].zip [Value.ref e,u],scope.names.lookup y.1=some .local\/(scope.names.lookup y.1=some .cell/\((cellsFrom (s.heap.objs.size+1) scope.names []).lookup y.1).isSome=true):=λ⟨n,v⟩ hy=>by
  rcases S.par n (List.of_mem_zip hy).1 with q|q
  ·exact .inl q
  ·exact .inr ⟨q,cellsFrom_some _ _ _ (.inl q)⟩
 refine wpAny_call (codeAny_call_function hr.depth (KX _ _ lk) rfl S.co S.gen rfl (codeRec_of KX hcd) (wpAny_of_eq hb ?_));refine wpAny_newFunctionEnv_cells S.kind hkind λenv he' s1 x=>?_
 subst he';refine⟨lim.keeps x.toInCall.keep,codeAny_func ?_⟩;have I0:Inv (Ej (CXx P w) P w K mg base ["self","at"] qual scope f cdv A outer s H (λ_ _ _=>False)) [] (start ["self","at"] [.ref e,v]) H s1:=Ll S hr.hd e0 rfl (.cons rfl (.cons ru .nil)) x
 have vis:∀x∈[("self" : Str),"at"],Vis scope x:=λx hx=>(S.par x hx).elim .inl λz=>.inr (.inl z)
 have I:Inv (Ej (CXx P w) P w K mg base ["self","at"] qual scope f cdv A outer s H (λ_ _ _=>False)).nox [] (start ["self","at"] [.ref e,v]) H s1:=I0.wish _
 have pA:PE (Ej (CXx P w) P w K mg base ["self","at"] qual scope f cdv A outer s H (λ_ _ _=>False)).nox (.Name "at" p3) (Uf 1):=Jp rfl (vis _ (by simp)) (by decide +kernel) (by decide +kernel)
 have pS:PE (Ej (CXx P w) P w K mg base ["self","at"] qual scope f cdv A outer s H (λ_ _ _=>False)).nox (.Name "self" p1) (Uf 0):=Jp rfl (vis _ (by simp)) (by decide +kernel) (by decide +kernel)
 refine wpAny_execs_cons (wpAny_mono (plainObj_wpAny_Assign_Attribute (thn (pA [] s1 _ H (λy H'=>y=v/\H'=H) I ⟨v,rfl,rfl,rfl⟩) λu2 s2 ⟨y,H2,I2,ry,e1,e2⟩=>thn (pS [] s2 _ H2 (λy H'=>y=.ref e/\H'=H2) I2 ⟨.ref e,rfl,rfl,rfl⟩) λov s3 ⟨z,H3,I3,rz,e3,e4⟩=>?_) rfl) (λfl s4 q=>q) λ_ _ z=>False.elim z)
 subst e1 e2 e3 e4;obtain rfl:ov=Value.ref e:=rz;have b1:=I3.base;have he3:s3.heap.get? e=some { cls:=.ref C,data:=.fields vs }:=b1.keep e _ he hn hfr (by show e∉([]:List Addr);simp)
 refine Yy I3.kIn he3 rfl rfl rfl hs hp ht hh λh' dx tk k1 k2 k3 k4=>?_
 refine wpAny_execs_nil ?_;have ok:HOk P w H3 h':=O9 (hs:=[e]) (fs:=[]) I3.hok (λb hb=>by
  have:b=e:=by simpa using hb
  subst this;exact b1.free b _ he hn (by show b∉([]:List Addr);simp)) λb o q=>by
   by_cases hb:b=e
   ·subst hb
    rw[PySem.W.hideAll_none _ (by simp)] at q
    cases q
   ·exact k1 b o hb (PySem.W.of_hideAll _ q)
 have nx:s.heap.get? dx=none:=by
  cases z:s.heap.get? dx with
  |none=>rfl
  |some o=>
   obtain⟨o',z'⟩:=b1.there dx o z (by show dx∉([]:List Addr);simp)
   rw[k4] at z';cases z'
 exact h _ dx _ ry I3.os I3.bare (λh0 k0 ne=>Qd6 ((Un.kept k0).trans b1) k1 ne) ok k2 k3 nx (I3.hok.none k4)
structure OwnI(x:Str)(C:Addr)(K:Frag)(mg:Str->Option Value)(base:Heap):Prop where
 bound:mg x=some (.ref C)
 obj:∃bm N nm q bs hdct sn sub ab col dd k0 k1 k2 k3 k5 mN fI,base.get? C=some (excClassObj nm q C N bs bm hdct sn sub ab col dd k0 k1 k2 k3 k5 "ValueError.__new__")/\base.Ns N mN/\mN "__init__" = some (.ref fI)/\OwnTail base veM bm /\
  ∃od osl name qual params scope dV kV doc pm cdv ct an p1 p2 p3 p4,K.lookup fI=some ⟨.type "function",od,.func (fnOf name qual params (Lu p1 p2 p3 p4) scope dV kV doc pm an cdv ct),osl⟩/\codeIn K cdv qual=true/\FnScope ["self","at"] ["self","at"] scope /\
   ∀a b:Value,bindArgs (fnOf name qual params (Lu p1 p2 p3 p4) scope dV kV doc pm an cdv ct) ⟨[a,b],[]⟩=pure ([("self" : Str),"at"].zip [a,b])
 set:findIn K (.ref C) "__setattr__" = some (some (.builtin "object.__setattr__"))/\Jw K C=true/\takerIn K C "at" = some none/\hasDictIn K C=true
theorem Oc{X:Cx}{pins:List (Addr×Obj)}{σ:St}{H:Hp}{s:Shared}(I:Inv X pins σ H s){b:Addr}(hb:b∈frs X.stack):X.base.get? b=none/\∃o,s.heap.get? b=some o:=by
 obtain⟨h1,o,h2,_⟩:=I.stack.mem hb;exact⟨h1,o,h2⟩
theorem Tf{X:Cx}{x:Str}{C:Addr}{np cpos pos:Pos}{a:Expr}{ta:TE}{W:V->Hp->Prop}(O:OwnI x C X.K X.mg X.base)(hg:Gl X x)(hd:(x==("__debug__" : Str))=false)(hc:X.calm=true)(hr:Room 3 X.A)
  (ha:PE X a ta) (hst:starEach [a] X.env=[(false,eval a X.env)])
  (hx:∀pins σ H s s' e t dx v u,Inv X pins σ H s->s'.os=s.os->AllBare s'.gens->Un (frs X.stack) [] H H s.heap s'.heap->HOk X.prog X.w H s'.heap->s.heap.get? e=none->s'.heap.get? e=some { cls:=.ref C,dict:=some dx,data:=.fields #[.ref t,.none,.none,.none,.bool false,.none] }->An v u->s'.heap.Ns1 dx (λy=>if y = "at" then some u else none)->s.heap.get? dx=none->W v H->X.xe (.ref e) s') :
  PS X (.Raise (some (.Call (.Name x np) [a] [] cpos)) none pos) (λ_ σ H=>Jr ta Q3 σ H λxs H'=>∃v,xs=[v]/\W v H'):=by
 intro pins s σ H D I h;obtain⟨tl,N,nm,q,bs,hdct,sn,sub,ab,col,dd,k0,k1,k2,k3,k5,mN,fI,hC,hN,hi,T,od,osl,name,qual,params,scope,dV,kV,doc,pm,cdv,ct,an,p1,p2,p3,p4,lk,hcd,S,hb⟩:=O.obj;obtain⟨s1,s2,s3,s4⟩:=O.set;refine Ob (C:=C) (nm:=nm) (q:=q) (N:=N) (bs:=bs) (bm:=tl) (hdct:=hdct) (sn:=sn) (sub:=sub) (ab:=ab) (col:=col) (dd:=dd) (k0:=k0) (k1:=k1) (k2:=k2) (k3:=k3) (k5:=k5)
  PySem.F.excBase_ValueError (mN:=mN) (fI:=fI) (oI:=⟨.type "function",od,.func (fnOf name qual params (Lu p1 p2 p3 p4) scope dV kV doc pm an cdv ct),osl⟩) (T.hasType PySem.F.excBase_ValueError.hasBase) (I.ok.hd hc) (by rw[hst];rfl) hi rfl (D8 I hg O.bound ⟨rfl,?_⟩ hd)
 have pa:PA X [a] (Jr ta Q3):=Ay ha Bq hst;have hp:=pa cpos pins s σ H (λxs H'=>∃v,xs=[v]/\W v H') I h
 rw[hst] at hp |-;refine Calls.evalArgs_plain (wpAny_mono hp (λvs s2' h2=>?_) λ_ _ y=>y)
 obtain⟨xs,H2,I2,rv,v,rfl,hw⟩:=h2;obtain⟨u,rfl,ru⟩:=rv.one;refine⟨rfl,by rw[sizeLine_eq];show 1<=_;decide,I2.bk _ _ hC,hN.keeps I2.bk,T.keeps I2.bk,I2.kIn _ _ lk,λh' e hm=>?_⟩
 obtain⟨t,he,htn,ht⟩:=hm.there;have I3:Inv X pins σ H2 { s2' with heap:=h' }:=I2.kept (t':=s2'.toks) hm.keeps
 have fr:e∉frs X.stack:=λz=>by
  obtain⟨o,z'⟩:=(Oc I2 z).2;rw[hm.new] at z';cases z'
 refine Te (hr.make C [u] []) (I3.env0.make C [u] []) lk hcd S (hb _ _) he (I2.hok.none hm.new) fr s1 s2 s3 s4 ru λs' dx u' ru' os bare un ok he' ns nx nH=>?_
 have un2:=un s2'.heap hm.keeps hm.new;refine⟨rfl,t,dx,un2.keep C _ (I2.bk _ _ hC) (I2.bs _ _ hC).2 (λz=>by rw[(Oc I2 z).1] at hC;cases hC) (by simp),he',hx pins σ H2 s2' s' e t dx v u' I2 os bare un2 ok hm.new he' ru' ns ?_ hw⟩
 cases z:s2'.heap.get? dx with
 |none=>rfl
 |some o=>rw[hm.keeps _ _ z] at nx;cases nx
end L2
namespace L2
open PySem PySem.Spec PyProof.Rows
open Sem (wp)
open Builtin
end L2
namespace L2
open PySem PySem.Spec PyProof.Rows
theorem Q4(n:Nat)(o:Option Int):HT.sIx n 0 o<=n/\HT.sIx n n o<=n:=by
 cases o with
 |none=>exact⟨Nat.zero_le _,Nat.le_refl _⟩
 |some v=>
  show (if v<0 then (v+(n:Int)).toNat else min v.toNat n)<=n/\(if v<0 then (v+(n:Int)).toNat else min v.toNat n)<=n
  split<;>omega
theorem N5(l:List Nat):∀m a:Nat,(List.range' a m).filterMap (λi=>l[i]?)=(l.drop a).take m
 |0,a=>by simp
 |m+1,a=>by
  rw[List.range'_succ,List.filterMap_cons]
  cases h:l[a]? with
  |none=>
   have hl:l.length<=a:=List.getElem?_eq_none_iff.1 h;rw[N5 l m (a+1),List.drop_eq_nil_of_le (by omega),List.drop_eq_nil_of_le hl]
   simp
  |some v=>
   obtain⟨h1,h2⟩:=List.getElem?_eq_some_iff.1 h;rw[N5 l m (a+1),List.drop_eq_getElem_cons h1,List.take_succ_cons,h2]
theorem Vg(lo hi:Option Int)(n:Nat):Builtin.Str.strSliceIndices lo hi 1 n=List.range' (HT.sIx n 0 lo) (HT.sIx n n hi-HT.sIx n 0 lo):=by
 have c1:∀(o:Option Int) (d:Nat),(match o with|none=>(d:Int)|some i=>(let i:=if i<0 then i+(n:Int) else i;if (1:Int) > 0 then max 0 (min i (n:Int)) else max (-1) (min i ((n:Int)-1))))=(HT.sIx n d o:Int):=λo d=>by
  cases o with
  |none=>rfl
  |some v=>
   show (if (1:Int) > 0 then max 0 (min (if v<0 then v+(n:Int) else v) (n:Int)) else _)=((if v<0 then (v+(n:Int)).toNat else min v.toNat n:Nat):Int)
   rw[if_pos (by decide)]
   split<;>omega
 have e1:=c1 lo 0;have e2:=c1 hi n;unfold Builtin.Str.strSliceIndices;simp only[show ((1:Int) > 0)=True from eq_true (by decide),if_true] at e1 e2 |-
 rw[show ((0:Nat):Int)=0 from rfl] at e1
 refine(congrArg (λp=>sliceRange p _ 1) e1).trans ((congrArg (λq=>sliceRange _ q 1) e2).trans ?_)
 generalize HT.sIx n 0 lo=a
 generalize HT.sIx n n hi=b
 unfold sliceRange;simp only[show ((1:Int) > 0)=True from eq_true (by decide),if_true]
 have e3:(if (a:Int)<(b:Int) then ((b:Int)-a+1-1) / 1 else 0).toNat=b-a:=by
  split
  ·rw[Int.ediv_one];omega
  ·omega
 rw[e3,List.range'_eq_map_range];refine List.map_congr_left λk _=>?_
 show ((a:Int)+1*(k:Int)).toNat=a+k
 omega
theorem Vh(x:Str)(lo hi:Option Int):Txt.slice x lo hi=⟨((x.cps.toList.drop (HT.sIx x.length 0 lo)).take (HT.sIx x.length x.length hi-HT.sIx x.length 0 lo)).toArray⟩:=by
 have hp:((Builtin.Str.strSliceIndices lo hi 1 x.length).filterMap (x.cps[·]?))=(x.cps.toList.drop (HT.sIx x.length 0 lo)).take (HT.sIx x.length x.length hi-HT.sIx x.length 0 lo):=by
  rw[Vg,<-N5]
  congr 1
  funext i
  simp
 unfold Txt.slice;split
 ·rename_i h
  have h2:=(Bool.and_eq_true_iff.1 h).2;rw[Vg,List.length_range',beq_iff_eq] at h2;have b1:=(Q4 x.length hi).2;have hl:x.cps.toList.length=x.length:=Array.length_toList;have a0:HT.sIx x.length 0 lo=0\/x.length=0:=by omega
  have e:(x.cps.toList.drop (HT.sIx x.length 0 lo)).take (HT.sIx x.length x.length hi-HT.sIx x.length 0 lo)=x.cps.toList:=by
   rw[h2];rcases a0 with a0|a0
   ·rw[a0,List.drop_zero,List.take_of_length_le (by omega)]
   ·rw[List.eq_nil_of_length_eq_zero (l:=x.cps.toList) (by omega)]
    simp
  rw[e]
 ·rw[hp]
section
variable{X:Cx}
def Qj2:V->Option Int->Option Int->Hp->VK->Prop:=λx lo hi H Q=>∃z:Str,x=.str z/\z.length<=sizeLine/\Q (.str ⟨((z.cps.toList.drop (HT.sIx z.length 0 lo)).take (HT.sIx z.length z.length hi-HT.sIx z.length 0 lo)).toArray⟩) H
theorem Qd7:SlR X Qj2:=by
 intro pins s σ H x v vl vu lo hi sl Q I rx hs pl pu h;obtain⟨z,rfl,hz,q⟩:=h;obtain⟨t,rfl⟩:=rx;obtain⟨o,h1,h2,h3⟩:=hs;rw[<-Vh] at q;refine⟨"str",_,F.slot_str_getitem.lookup,typeIs_str _ _ _,?_⟩
 cases pl with
 |none=>
  cases pu with
  |none=>exact wpAny_getItem_str_slice (l:=none) (u:=none) (st:=none) ⟨o,h1,h2,h3⟩ rfl (post_val_or_str ⟨Nat.le_trans (Txt.slice_le z _ _) hz,λt' k=>⟨.str (Txt.slice z none none),H,I.tok _,⟨t',rfl⟩,q⟩⟩)
  |int j tj=>exact wpAny_getItem_str_slice (l:=none) (u:=some (j,tj)) (st:=none) ⟨o,h1,h2,h3⟩ rfl (post_val_or_str ⟨Nat.le_trans (Txt.slice_le z _ _) hz,λt' k=>⟨.str (Txt.slice z none (some j)),H,I.tok _,⟨t',rfl⟩,q⟩⟩)
 |int i ti=>
  cases pu with
  |none=>exact wpAny_getItem_str_slice (l:=some (i,ti)) (u:=none) (st:=none) ⟨o,h1,h2,h3⟩ rfl (post_val_or_str ⟨Nat.le_trans (Txt.slice_le z _ _) hz,λt' k=>⟨.str (Txt.slice z (some i) none),H,I.tok _,⟨t',rfl⟩,q⟩⟩)
  |int j tj=>exact wpAny_getItem_str_slice (l:=some (i,ti)) (u:=some (j,tj)) (st:=none) ⟨o,h1,h2,h3⟩ rfl (post_val_or_str ⟨Nat.le_trans (Txt.slice_le z _ _) hz,λt' k=>⟨.str (Txt.slice z (some i) (some j)),H,I.tok _,⟨t',rfl⟩,q⟩⟩)
theorem Yz(x:Str)(c:Nat):Txt.endswith x ⟨#[c]⟩=(x.cps.toList.getLast?==some c):=by
 unfold Txt.endswith Builtin.Str.subAt;obtain⟨⟨l⟩⟩:=x;have e1:(⟨#[c]⟩:Str).length=1:=rfl;have e2:(⟨⟨l⟩⟩:Str).length=l.length:=rfl;rw[e1,e2]
 show (decide (0+1<=l.length)&&((⟨l⟩:Array Nat).extract (l.length-1) (l.length-1+1)==#[c]))=(l.getLast?==some c)
 rcases List.eq_nil_or_concat l with rfl|⟨r,d,rfl⟩
 ·rfl
 ·rw[List.concat_eq_append]
  simp[List.extract_toArray,List.extract_eq_take_drop]
def Qg2:V->List V->Hp->VK->Prop:=λx xs H Q=>∃(z:Str) (c:Nat),x=.str z/\xs=[.str ⟨#[c]⟩]/\Q (.bl (z.cps.toList.getLast?==some c)) H
theorem Z0:MtR X "str.endswith" Qg2:=by
 intro pins s σ H x xs v us Q I rx rs h;obtain⟨z,c,rfl,rfl,q⟩:=h;obtain⟨t,rfl⟩:=rx;obtain⟨u,rfl,t',rfl⟩:=Ab.one rs;exact SC.endswith ⟨.bl _,H,I,by rw[Yz];rfl,q⟩
theorem Vi:Be X (.type "int") (λxs H Q=>∃k:Nat,xs=[.str ⟨#[48+k]⟩]/\k<=9/\Q (.int k) H):=by
 intro pins s σ H xs us Q I r h;obtain⟨k,rfl,hk,q⟩:=h;obtain⟨u,rfl,t,rfl⟩:=Ab.one r;have hn:PySem.intText? ⟨#[48+k]⟩=some (k:Int):=by
  have:∀k:Nat,k<10->PySem.intText? ⟨#[48+k]⟩=some (k:Int):=by decide +kernel
  exact this k (by omega)
 exact PySem.W.KIN.call_text hn (show 1<=640 by decide) ⟨.int k,H,I.tok _,⟨_,rfl⟩,q⟩
theorem Tg(x:Str)(c:Nat):(!(Builtin.Str.occurrences x ⟨#[c]⟩ 0 x.length 1).isEmpty)=x.cps.toList.contains c:=by
 have h:=StrLaws.found_iff x ⟨#[c]⟩;rw[Bool.eq_iff_iff,h,List.contains_iff_mem];obtain⟨⟨l⟩⟩:=x;have e1:(⟨#[c]⟩:Str).length=1:=rfl;have e2:(⟨⟨l⟩⟩:Str).length=l.length:=rfl;rw[e1,e2];unfold Builtin.Str.subAt;rw[e1]
 show (∃i,i+1<=l.length/\((⟨l⟩:Array Nat).extract i (i+1)==#[c])=true)↔c∈l
 have key:∀i,i<l.length->((((⟨l⟩:Array Nat).extract i (i+1)==#[c])=true)↔l[i]?=some c):=λi hi=>by
  rw[beq_iff_eq];simp only[List.extract_toArray,List.extract_eq_take_drop];rw[List.getElem?_eq_getElem hi];simp;rw[List.drop_eq_getElem_cons hi,List.take_succ_cons,List.take_zero];exact⟨λh=>by injection h,λh=>by rw[h]⟩
 constructor
 ·rintro ⟨i,h1,h2⟩
  exact List.mem_of_getElem? ((key i (by omega)).1 h2)
 ·intro hm
  obtain⟨i,hi,e⟩:=List.getElem_of_mem hm;exact⟨i,by omega,(key i hi).2 (by rw[List.getElem?_eq_getElem hi,e])⟩
end
theorem Vj:typeLookup (.type "list_reverseiterator") "__length_hint__" = pure (some (.builtin "list_reverseiterator.__length_hint__")):=by rw[typeLookup_type,builtinLookup_eq_fast];kernel_rfl
section
variable{prog:Program}{w:World}{A:Around}{E:Value->Shared->Prop}{s:Shared}
theorem Z1{it l:Addr}{i:Int}{Q:Bool->Shared->Prop}(hit:s.heap.IsRevIter it l i)(h:Q false s):wpAny (model prog w) A (Builtin.List.listLengthHint (.ref it)) Q E s:=by
 have hT:=hit.typeIs;unfold Builtin.List.listLengthHint;have h0:typeLookup (.type "list_reverseiterator") "__len__" = pure none:=by rw[typeLookup_type,builtinLookup_eq_fast];kernel_rfl
 refine wpAny_bind (wpAny_specialOf hT h0 ?_);dsimp only;refine wpAny_ite_split (λhab=>absurd hab (by decide)) (λ_=>?_)
 refine wpAny_ite_split (λhab=>absurd hab (by decide)) (λ_=>?_)
 refine wpAny_bind (wpAny_specialOf hT Vj ?_)
 generalize hid:("list_reverseiterator.__length_hint__" : String)=id0
 dsimp only;rw[show splitId id0=some ("list_reverseiterator","__length_hint__") from by subst hid;decide +kernel]
 subst hid;dsimp only;refine wpAny_bind (wpAny_isInstance (T := "list_reverseiterator") (b:=true) hT (by rw[isSubtype_type];kernel_rfl) ?_)
 refine wpAny_ite_split (λhab=>absurd hab (by decide)) (λ_=>?_)
 refine wpAny_ite_split (λ_=>?_) (λhab=>absurd (by decide +kernel) hab)
 refine wpAny_ite_split (λhab=>absurd hab (by decide +kernel)) (λ_=>?_)
 exact wpAny_pure h
theorem Qd8{R:Result->Shared->Prop}{it l:Addr}{items:Array Value}(hh:A.handled=none)(hit:s.heap.IsRevIter it l ((items.size:Int)-1))(hli:s.heap.IsList l items)(hne:l≠it)(hl:items.size<=1000000)(S:Addr)(res:Value)(c₀:Nat)(hS:s.heap.get? S=some { cls:=.type "list",data:=.seq #[] c₀ })(hSl:S≠l)
  (hR:∀h' tk acc' c',(∀b o,b≠S->b≠it->s.heap.get? b=some o->h'.get? b=some o)->h'.get? S=some { cls:=.type "list",dict:=none,data:=.seq acc' c',slots:=#[] } ->
   ItemsOf (λi v=>items[items.size-1-i]?=some v) acc' items.size->R (.ok (.ret res)) { s with heap:=h',toks:=tk }) :
  wpAny (model prog w) A.in1 (Builtin.List.listExtendWith (.ref S) (.ref it) res)
   (λfin s'=>match fin with|.done f=>R (.ok f) s'|.again c'=>c'.quiet=true/\codeAny (model prog w) A c' R s') (λe s'=>R (.error e) s') s:=by
 have hSr:S≠it:=λe=>by
  obtain⟨o,ho,hc,_⟩:=hit;rw[e,ho] at hS;cases hS;simp at hc
 have hSf:S∉[it,l]:=λhm=>by
  rcases List.mem_cons.mp hm with e|hm
  ·exact hSr e
  ·exact hSl (List.mem_singleton.mp hm)
 have W:=(Walks.listRev (prog:=prog) (w:=w) (A:=A.in1) hh it l hne items).toS;unfold Builtin.List.listExtendWith;refine wpAny_bind (wpAny_typeOf hit.typeIs ?_);have h1:Builtin.List.listSameRef (.ref S) (.ref it)=false:=by simp[Builtin.List.listSameRef,hSr]
 have h2:(Value.type "list_reverseiterator" == Value.type "list")=false:=by decide
 have h3:(Value.type "list_reverseiterator" == Value.type "tuple")=false:=by decide
 simp only[h1,h2,h3,Bool.or_false,Bool.false_eq_true,if_false];refine wpAny_bind (wpAny_pyIter_revIter hit ?_);refine wpAny_bind (wpAny_holding (Z1 hit ?_));refine wpAny_ite_split (λhab=>absurd hab (by decide)) (λ_=>wpAny_pure ⟨plainId_quiet F.plain_extend_loop _,?_⟩)
 refine codeAny_extend_loopS W (by rw[sizeLine_eq];omega) S hSf res items.size 0 _ #[] c₀ rfl (Nat.zero_le _) ⟨Nat.zero_le _,by simpa using hit,hli⟩ hS (ItemsOf.nil _) λs' acc' c' hm hS' hacc=>?_
 rw[Moved.eq_with hm];refine hR s'.heap s'.toks acc' c' (λb o hb hb' e=>hm.heap b o (λhmem=>?_) e) hS' hacc
 rcases List.mem_cons.mp hmem with e'|hmem
 ·exact hb e'
 ·exact hb' (List.mem_singleton.mp hmem)
theorem N6{Q:Value->Shared->Prop}{it l:Addr}{items:Array Value}(hh:A.handled=none)(hit:s.heap.IsRevIter it l ((items.size:Int)-1))(hli:s.heap.IsList l items)(hne:l≠it)(hl:items.size<=1000000)
  (hQ:∀h' tk acc' c',(∀b o,b≠it->s.heap.get? b=some o->h'.get? b=some o) ->
   h'.get? s.heap.objs.size=some { cls:=.type "list",dict:=none,data:=.seq acc' c',slots:=#[] }->ItemsOf (λi v=>items[items.size-1-i]?=some v) acc' items.size->Q (.ref s.heap.objs.size) { s with heap:=h',toks:=tk }) :
  wpAny (model prog w) A (call (.type "list") [.ref it]) Q E s:=by
 refine callType_codes (Q₁:=λobj s₁=>obj=.ref s.heap.objs.size/\s₁={ s with heap:=s.heap.push { cls:=.type "list",data:=.seq #[] } }) F.called_list (F.typeCall_list_1 _) F.entry_list_init
  (code_list_new _ ⟨rfl,rfl⟩) λobj s₁ h₁=>?_
 obtain⟨rfl,rfl⟩:=h₁;have hS:(s.heap.push { cls:=.type "list",data:=.seq #[] }).get? s.heap.objs.size=some { cls:=.type "list",data:=.seq #[] }:=Heap.get?_push_size _ rfl;refine⟨⟨_,hS,rfl⟩,F.args_list_init_2 _ _,?_⟩;have hlt:l<s.heap.objs.size:=by
  obtain⟨o,ho,_⟩:=hli;exact Heap.lt_size ho
 have hit':=hit.at (h':=s.heap.push { cls:=.type "list",data:=.seq #[] }) λo e=>Heap.get?_push_of_some _ e
 have hli':=hli.at (h':=s.heap.push { cls:=.type "list",data:=.seq #[] }) λo e=>Heap.get?_push_of_some _ e
 generalize hSe:s.heap.objs.size=S at hS hlt |-
 have hSr:S≠it:=λe=>by
  obtain⟨o,ho,hc,_⟩:=hit';rw[e,ho] at hS;cases hS;simp at hc
 show wpAny _ A.in1.in1 (do let old <-Builtin.List.listItems (.ref S);Builtin.List.listUpdate (.ref S) (λ_=>#[]);letGo old.toList.reverse;Builtin.List.listExtendWith (.ref S) (.ref it) .none) _ _ _
 refine wpAny_bind ?_;unfold Builtin.List.listItems;refine wpAny_bind (wpAny_seqItems hS rfl (wpAny_pure ?_))
 show wpAny _ _ (updateSeq S (λ_=>#[]) >>= λ_=>letGo (#[]:Array Value).toList.reverse >>= λ_=>Builtin.List.listExtendWith (.ref S) (.ref it) .none) _ _ _
 refine wpAny_bind (wpAny_updateSeq hS rfl ?_);have hS₂:=Heap.get?_update_self (Obj.mapSeq (λ_=>(#[]:Array Value))) hS rfl
 have oth:∀b o,b≠S->(s.heap.push { cls:=.type "list",data:=.seq #[] }).get? b=some o->((s.heap.push { cls:=.type "list",data:=.seq #[] }).update S (Obj.mapSeq (λ_=>(#[]:Array Value)))).get? b=some o:=
  λb o hb e=>(Heap.get?_update_other _ _ (Ne.symm hb)).trans e
 refine wpAny_bind (wpAny_letGo ?_);refine Qd8 (A:=A.in1) hh (hit'.at λo e=>oth it o (Ne.symm hSr) e) (hli'.at λo e=>oth l o (Nat.ne_of_lt hlt) e) hne hl S .none _ hS₂ (Nat.ne_of_gt hlt) λh' tk acc' c' hk hS' hacc=>?_
 subst hSe;exact⟨rfl,hQ h' tk acc' c' (λb o hb e=>hk b o (Nat.ne_of_lt (Heap.lt_size e)) hb (oth b o (Nat.ne_of_lt (Heap.lt_size e)) (Heap.get?_push_of_some _ e))) hS' hacc⟩
end
theorem Z2{acc items:Array Value}(h:ItemsOf (λi v=>items[items.size-1-i]?=some v) acc items.size):acc.toList=items.toList.reverse:=by
 apply List.ext_getElem?;intro i;have hl:acc.toList.length=items.size:=by simpa using h.1
 by_cases hi:i<items.size
 ·have e1:acc.toList[i]?=some (acc.toList[i]'(by omega)):=List.getElem?_eq_getElem (by omega)
  have e2:=h.2 i (acc.toList[i]'(by omega)) (by rw[<-Array.getElem?_toList];exact e1)
  rw[e1,List.getElem?_reverse (by simpa using hi)]
  simpa using e2.symm
 ·rw[List.getElem?_eq_none (by omega),List.getElem?_eq_none (by simp;omega)]
theorem Ab.rev:∀{xs:List V} {us:List Value},Ab xs us->Ab xs.reverse us.reverse
 |_,_,.nil=>.nil
 |_,_,.cons r t=>by
  rw[List.reverse_cons,List.reverse_cons];exact(Ab.rev t).append (.cons r .nil)
def Qg3(K:PySem.W.Frag)(ta:TA):TE:=λσ H Q=>ta σ H λvs H1=>∃a ws,vs=[.ref a]/\SqL K H1 a ws/\ws.length<=1000000/\∀p,H1 p=none->Q (.ref p) (upd H1 p (.lst ws.reverse))
theorem Vk:bootBuiltins ("reversed" : Str)=some (.type "reversed"):=by decide +kernel
section
variable{X:Cx}
theorem Z3{a:Expr}{ta:TA}{p q pos pos':Pos}(hc:X.calm=true)(hg:Gl X "list")(hm:X.mg "list" = none)(hgv:Gl X "reversed")(hmv:X.mg "reversed" = none)
  (ha:PA X [a] ta) (hs:starEach [a] X.env=[(false,eval a X.env)]):PE X (.Call (.Name "list" p) [.Call (.Name "reversed" q) [a] [] pos'] [] pos) (Qg3 X.K ta):=by
 intro pins s σ H Q I h;refine wpAny_Call_Name_kw (Dh I hg hm (show bootBuiltins ("list" : Str)=some (.type "list") by decide +kernel) ?_ (by decide +kernel) (by decide +kernel))
 refine PyProof.Rows.callWith_type1 ?_ rfl rfl
 show wpAny _ _ (spliced ((false,eval (.Call (.Name "reversed" q) [a] [] pos') X.env)::[])) _ _ s
 refine Calls.spliced_cons ?_;refine Call_ (Dh I hgv hmv Vk (PyProof.Rows.callWith_type1 (thn (ha pos' pins s σ H _ I h) λus s1 ⟨vs,H1,I1,r1,q1⟩=>?_) hs rfl))
 obtain⟨b,ws,rfl,hq,hz,k⟩:=q1;obtain⟨u,rfl,ru⟩:=Ab.one r1;cases ru;obtain⟨its,rv,pl,_⟩:=I1.list hq;have hlen:its.length=ws.length:=rv.length.symm;have hli:=pl.isList;refine call_reversed_list hli (Calls.spliced_nil ?_);have hlt:b<s1.heap.objs.size:=by
  obtain⟨o,ho,_⟩:=hli;exact Heap.lt_size ho
 refine N6 (s:={ s1 with heap:=s1.heap.push (revObj b ((its.toArray.size:Int)-1)) }) (items:=its.toArray) (I.ok.hd hc) ⟨_,Heap.get?_push_size _ rfl,rfl,rfl⟩ (hli.at λo e=>Heap.get?_push_of_some _ e) (Nat.ne_of_lt hlt) (by simp;omega) λh' tk acc cc hk hS hacc=>?_
 have hsz:s1.heap.objs.size<=(s1.heap.push (revObj b ((its.toArray.size:Int)-1))).objs.size:=by rw[Heap.size_push];omega
 have ea:=Z2 hacc;have I3:=I1.laid (h':=h') (t':=tk) (o:=.lst ws.reverse) (λb' o e=>hk b' o (Nat.ne_of_lt (Heap.lt_size e)) (Heap.get?_push_of_some _ e)) hsz ⟨by rw[List.length_reverse,sizeLine_eq];omega,acc.toList,cc,by rw[ea];simpa using rv.rev,by simpa using hS⟩
 exact⟨.ref _,_,I3,rfl,k _ (I1.hok.fresh hsz)⟩
end
section
variable{prog:Program}{w:World}{A:Around}{R:Result->Shared->Prop}{I:Addr}{fp wr:List Addr}{n:Nat}{P:Nat->Value->Prop}{St:Nat->Heap->Prop}
theorem J2:(toString "max" ++ toString ".loop" : String) = "max.loop":=by decide
abbrev Qg4(xs:Array Value)(c:Nat):Obj:={ cls:=.type "list",dict:=none,data:=.seq xs c,slots:=#[] }
theorem Z4(W:Walks prog w A.in1 I fp wr n P St)(bt:Nat->Nat->Bool)(hcmp:CmpOf prog w A.in1 .Gt P bt)(S:Addr)(hSf:S∉fp)(kw:List (Str×Value)) :
  ∀(k j:Nat) (s:Shared) (vb:Value) (c:Nat),n-(j+1)=k->j+1<=n->St (j+1) s.heap->P (argBest bt j) vb->s.heap.get? S=some (Qg4 #[vb,vb] c) ->
  (∀v h' tk,P (argBest bt (n-1)) v->(∀b o,b∉wr->b≠S->s.heap.get? b=some o->h'.get? b=some o)->R (.ok (.ret v)) { s with heap:=h',toks:=tk }) ->
  codeAny (model prog w) A (.builtin "max.loop" ⟨[.ref I,.none,.ref S],kw⟩) R s:=by
 have hSw:S∉wr:=λh=>hSf (W.sub _ h)
 intro k
 induction k with
 |zero=>
  intro j s vb c hk hj hst hPb hS hR;have hin:j+1=n:=by omega
  refine codeAny_builtin PySem.F.entry_max_loop ?_;rw[Around.under_plainId PySem.F.plain_max_loop _]
  show wpAny _ A.in1 (seqItems? (.ref S) >>= _) _ _ s;refine wpAny_bind (wpAny_seqItems hS rfl ?_)
  show wpAny _ A.in1 (tryCatch (pyNext (.ref I)) _ >>= _) _ _ s;refine wpAny_bind (wpAny_tryCatch (W.done s _ _ (hin ▸ hst) λh' tk hk'=>?_))
  have hS':=hk' S _ hSw hS
  show wpAny _ A.in1 (updateSeq S (λ_=>#[]) >>= _) _ _ _;refine wpAny_bind ?_
  refine wpAny_updateSeq hS' rfl (wpAny_bind (wpAny_letGo (wpAny_pure ?_)));exact hR vb _ tk (by rw[<-hin];exact hPb) λb o hbw hbS e=>(Heap.get?_update_other _ _ (Ne.symm hbS)).trans (hk' b o hbw e)
 |succ k ih=>
  intro j s vb c hk hj hst hPb hS hR;have hlt:j+1<n:=by omega
  refine codeAny_builtin PySem.F.entry_max_loop ?_;rw[Around.under_plainId PySem.F.plain_max_loop _]
  show wpAny _ A.in1 (seqItems? (.ref S) >>= _) _ _ s;refine wpAny_bind (wpAny_seqItems hS rfl ?_)
  show wpAny _ A.in1 (tryCatch (pyNext (.ref I)) _ >>= _) _ _ s;refine wpAny_bind (wpAny_tryCatch (W.item (j+1) s _ _ hlt hst λv h' tk hP hst' hk'=>?_))
  have hS':=hk' S _ hSw hS
  show wpAny _ A.in1 (tryCatch (holding [v,v] (richCompare .Gt v vb >>= _)) _ >>= _) _ _ _;refine wpAny_bind (wpAny_tryCatch (wpAny_holding (wpAny_bind (hcmp (j+1) (argBest bt j) v vb _ _ _ hP hPb ?_))))
  refine wpAny_bind (wpAny_holding (wpAny_truthy_bool ?_));refine wpAny_bind (wpAny_letGo (wpAny_pure ?_))
  cases hb:bt (j+1) (argBest bt j) with
  |true=>
   simp only[if_true];refine wpAny_bind ?_;refine wpAny_updateSeq hS' rfl (wpAny_bind (wpAny_letGo ?_));rw[J2];refine wpAny_pure ⟨plainId_quiet PySem.F.plain_max_loop _,ih (j+1) _ v _ (by omega) hlt (W.frame _ _ _ hst' λb hbf o e=>(Heap.get?_update_other _ _ (λh:S=b=>hSf (by rw[h];exact hbf))).trans e) (by simp only[argBest,hb,if_true];exact hP) (Heap.get?_update_self _ hS' rfl) λv' h'' tk'' hP' hk''=>?_⟩
   exact hR v' h'' tk'' hP' λb o hbw hbS e=>hk'' b o hbw hbS ((Heap.get?_update_other _ _ (Ne.symm hbS)).trans (hk' b o hbw e))
  |false=>
   simp only[Bool.false_eq_true,if_false];refine wpAny_bind (wpAny_letGo ?_);rw[J2];exact wpAny_pure ⟨plainId_quiet PySem.F.plain_max_loop _,ih (j+1) _ vb c (by omega) hlt hst' (by simp only[argBest,hb,Bool.false_eq_true,if_false];exact hPb) hS' λv' h'' tk'' hP' hk''=>hR v' h'' tk'' hP' λb o hbw hbS e=>hk'' b o hbw hbS (hk' b o hbw e)⟩
theorem Vl(W:Walks prog w A.in1 I fp wr n P St)(bt:Nat->Nat->Bool)(hcmp:CmpOf prog w A.in1 .Gt P bt)(S:Addr)(hSf:S∉fp)(d:Value){s:Shared}{c:Nat}(hst:St 0 s.heap)(hS:s.heap.get? S=some (Qg4 #[] c))
  (hR:∀v h' tk,(n=0/\v=d\/0<n/\P (argBest bt (n-1)) v)->(∀b o,b∉wr->b≠S->s.heap.get? b=some o->h'.get? b=some o)->R (.ok (.ret v)) { s with heap:=h',toks:=tk }) :
  codeAny (model prog w) A (.builtin "max.loop" ⟨[.ref I,.none,.ref S],[("default",d)]⟩) R s:=by
 have hSw:S∉wr:=λh=>hSf (W.sub _ h)
 refine codeAny_builtin PySem.F.entry_max_loop ?_;rw[Around.under_plainId PySem.F.plain_max_loop _]
 show wpAny _ A.in1 (seqItems? (.ref S) >>= _) _ _ s;refine wpAny_bind (wpAny_seqItems hS rfl ?_)
 show wpAny _ A.in1 (tryCatch (pyNext (.ref I)) _ >>= _) _ _ s
 rcases Nat.eq_zero_or_pos n with hn|hn
 ·subst hn
  refine wpAny_bind (wpAny_tryCatch (W.done s _ _ hst λh' tk hk'=>?_))
  show wpAny _ A.in1 (rule _ >>= λ_=>ret d) _ _ _
  refine wpAny_bind (wpAny_rule ?_);exact wpAny_pure (hR d h' tk (.inl ⟨rfl,rfl⟩) λb o hbw _ e=>hk' b o hbw e)
 ·refine wpAny_bind (wpAny_tryCatch (W.item 0 s _ _ hn hst λv h' tk hP hst' hk'=>?_))
  have hS':=hk' S _ hSw hS
  show wpAny _ A.in1 (updateSeq S (λ_=>#[v,v]) >>= _) _ _ _;refine wpAny_bind ?_
  refine wpAny_updateSeq hS' rfl ?_;rw[J2];refine wpAny_pure ⟨plainId_quiet PySem.F.plain_max_loop _,Z4 W bt hcmp S hSf _ _ 0 _ v _ rfl hn (W.frame _ _ _ hst' λb hbf o e=>(Heap.get?_update_other _ _ (λh:S=b=>hSf (by rw[h];exact hbf))).trans e) hP (Heap.get?_update_self _ hS' rfl) λv' h'' tk'' hP' hk''=>?_⟩
  exact hR v' h'' tk'' (.inr ⟨hn,hP'⟩) λb o hbw hbS e=>hk'' b o hbw hbS ((Heap.get?_update_other _ _ (Ne.symm hbS)).trans (hk' b o hbw e))
end
theorem Z5(a v:Value):argsOk "max" ⟨[a],[(Str.ofString "default",v)]⟩:=by unfold argsOk;kernel_rfl
section
variable{prog:Program}{w:World}{A:Around}{E:Value->Shared->Prop}{s:Shared}
theorem Th{l:Addr}{us:List Value}{ns:List Int}{t:Tok}{Q:Value->Shared->Prop}(hh:A.handled=none)(hl:s.heap.IsTuple l us.toArray)(hi:IntsAre us ns)
  (h:∀m t' h' tk,(ns=[]/\m=0\/m∈ns/\∀y∈ns,y<=m)->(∀b o,s.heap.get? b=some o->h'.get? b=some o)->Q (.int m t') { s with heap:=h',toks:=tk }) :
  wpAny (model prog w) A (call (.builtin "max") [.ref l] [(Str.ofString "default",.int 0 t)]) Q E s:=by
 have hll:l<s.heap.objs.size:=by
  obtain⟨o,ho,_⟩:=hl;exact Heap.lt_size ho
 refine kmk_tree PySem.F.kind_max PySem.F.plain_max PySem.F.entry_max (Z5 _ _) ?_
 show wpAny _ A.in1 (Builtin.Builtins.bindParams "max" ["key","default"] 0 ⟨[],[(Str.ofString "default",.int 0 t)]⟩ >>= _) _ _ s
 refine wpAny_bind (wpAny_of_eq (show Builtin.Builtins.bindParams "max" ["key","default"] 0 ⟨[],[(Str.ofString "default",.int 0 t)]⟩=pure [none,some (.int 0 t)] from rfl) ?_)
 refine wpAny_bind (wpAny_pure ?_);refine wpAny_bind (wpAny_pyIter_tuple hl ?_);refine wpAny_bind (wpAny_newObj_type ?_);rw[J2]
 generalize hIe:s.heap.objs.size=I at hll |-
 have hv:∀(i:Nat) (v:Value),us.toArray[i]?=some v->∃t,v=.int (ns.getD i 0) t:=λi v hv=>IntsAre.int_at hi i v (by simpa using hv)
 have hh1:A.in1.in1.handled=none:=by simp[hh]
 have W:=Walks.tuple (prog:=prog) (w:=w) (A:=A.in1.in1) hh1 I l (Nat.ne_of_lt hll) us.toArray;have hlen:us.toArray.size=ns.length:=by rw[List.size_toArray];exact hi.length
 refine wpAny_pure ⟨plainId_quiet PySem.F.plain_max_loop _,Vl (A:=A) (P:=λi v=>us.toArray[i]?=some v) (by first|exact Walks.tuple (by simp[hh]) I l (Nat.ne_of_lt hll) us.toArray|exact W) (λi j=>decide (ns.getD i 0 > ns.getD j 0)) (CmpOf.ints_gt _ hv) _ ?_ (.int 0 t) ?_ (Heap.get?_push_size _ rfl) λv h' tk hr hk=>?_⟩
 ·rw[Heap.size_push,hIe]
  simp only[List.mem_cons,List.not_mem_nil,or_false,not_or];exact⟨Nat.ne_of_gt (Nat.lt_succ_self _),Nat.ne_of_gt (Nat.lt_succ_of_lt hll)⟩
 ·subst hIe
  exact⟨⟨_,Heap.get?_push_of_some _ (Heap.get?_push_size _ rfl),rfl,rfl⟩,(let ⟨o,e,q⟩:=hl;⟨o,Heap.get?_push_of_some _ (Heap.get?_push_of_some _ e),q⟩)⟩
 ·have keep:∀b o,s.heap.get? b=some o->h'.get? b=some o:=λb o e=>by
   have:=Heap.lt_size e;refine hk b o (λhm=>?_) (λhm=>?_) (Heap.get?_push_of_some _ (Heap.get?_push_of_some _ e))
   ·exact Nat.ne_of_lt this ((List.mem_singleton.mp hm).trans hIe.symm)
   ·rw[Heap.size_push] at hm
    exact Nat.ne_of_lt (Nat.lt_succ_of_lt this) hm
  rcases hr with⟨h0,rfl⟩|⟨h0,hP⟩
  ·exact h 0 t h' tk (.inl ⟨List.eq_nil_of_length_eq_zero (by omega),rfl⟩) keep
  ·obtain⟨t',rfl⟩:=hv _ _ hP
   obtain⟨g1,g2⟩:=argBest_gt (λi=>ns.getD i 0) (us.toArray.size-1)
   refine h _ t' h' tk (.inr ⟨?_,λy hy=>?_⟩) keep
   ·have hb:argBest (λi j=>decide (ns.getD i 0 > ns.getD j 0)) (us.toArray.size-1)<ns.length:=by omega
    rw[List.getD_eq_getElem?_getD,List.getElem?_eq_getElem hb];exact List.getElem_mem hb
   ·obtain⟨j,hj,rfl⟩:=List.getElem_of_mem hy
    have:=g2 j (by omega)
    rwa [List.getD_eq_getElem?_getD,List.getElem?_eq_getElem hj] at this
end
def tMx(K:PySem.W.Frag)(ta:TA):TE:=λσ H Q=>ta σ H λvs H1=>∃a ns,vs=[.ref a]/\SqT K H1 a (ns.map V.int)/\∀m,(ns=[]/\m=0\/m∈ns/\∀y∈ns,y<=m)->Q (.int m) H1
theorem Z6:bootBuiltins ("max" : Str)=some (.builtin "max"):=by decide +kernel
section
variable{X:Cx}
theorem Qb:∀{ns:List Int} {us:List Value},Ab (ns.map V.int) us->IntsAre us ns
 |[],_,h=>by cases h;exact .nil
 |n::ns,_,h=>by
  cases h with
  |cons r t=>
   obtain⟨k,rfl⟩:=r;exact .cons n k (Qb t)
theorem Z7{a:Expr}{ta:TA}{p pos kp cp:Pos}{kc:Nat}(hc:X.calm=true)(hg:Gl X "max")(hm:X.mg "max" = none)(ha:PA X [a] ta)(hs:starEach [a] X.env=[(false,eval a X.env)]) :
  PE X (.Call (.Name "max" p) [a] [⟨some ("default" : Str),.Constant (.int 0) kc cp,kp⟩] pos) (tMx X.K ta):=by
 intro pins s σ H Q I h;refine wpAny_Call_Name_kw (Dh I hg hm Z6 ?_ (by decide +kernel) (by decide +kernel))
 refine callWith_kw (thn (ha pos pins s σ H _ I h) λus s1 ⟨vs,H1,I1,r1,q1⟩=>?_) (by rw[hs];rfl) (by rw[hs];rfl) rfl rfl
 obtain⟨b,ns,rfl,hq,k⟩:=q1;obtain⟨u,rfl,ru⟩:=Ab.one r1;cases ru
 show wpAny _ _ (evalAll [(do let v <-eval (.Constant (.int 0) kc cp) X.env;standAt pos;pure v)]) _ _ s1
 refine wpAny_evalAll_cons (wpAny_bind (wpAny_Constant_int (wpAny_bind (wpAny_standAt (wpAny_pure (wpAny_evalAll_nil ?_))))))
 show wpAny _ _ (call (.builtin "max") [.ref b] [(("default" : Str),.int 0 _)]) _ _ _
 obtain⟨its,rv,pt,_⟩:=I1.tuple hq;refine Th (I.ok.hd hc) pt (Qb rv) λm t' h' tk hm' keep=>⟨.int m,H1,I1.kept keep,⟨t',rfl⟩,k m hm'⟩
end
section
variable{prog:Program}{w:World}{A:Around}{E:Value->Shared->Prop}{s:Shared}
theorem Qd9:isSubtype (.type "tuple") (.type "set")=pure false:=by rw[isSubtype_type];kernel_rfl
theorem Qda:isSubtype (.type "tuple") (.type "frozenset")=pure false:=by rw[isSubtype_type];kernel_rfl
abbrev N7(led:Bool):Obj:={ cls:=.type "set",dict:=none,data:=.set #[] 0 (.fresh 0 0 led) }
abbrev Vm(prog:Program)(w:World)(h:Heap)(a:Addr)(ns:List Int)(k:Nat):Prop:=h.SetOf (intKind prog w) a (λx=>(firstMet (λi=>ns.getD i 0) k).any (·==x)) (firstMet (λi=>ns.getD i 0) k).length
theorem Ti{l:Addr}{us:List Value}{ns:List Int}{Q:Value->Shared->Prop}(hh:A.handled=none)(hl:s.heap.IsTuple l us.toArray)(hi:IntsAre us ns)(hb:us.length+1<scanBound)
  (h:∀(h':Heap) (tk:Nat),Vm prog w h' s.heap.objs.size ns us.length->(∀b o,b<s.heap.objs.size->s.heap.get? b=some o->h'.get? b=some o)->Q (.ref s.heap.objs.size) { s with heap:=h',toks:=tk }):wpAny (model prog w) A (call (.type "set") [.ref l]) Q E s:=by
 obtain⟨c,tl,hmro⟩:=PySem.F.called_set.mro;have hmade:=PySem.F.called_set.made;have hsub:=PySem.F.called_set.sub;refine wpAny_call (codeAny_of_tree ?_);show wpAny _ _ (callAny (.type "set") _) _ _ _
 refine wpAny_pure ⟨Code.quiet_builtin _ (by decide +kernel),codeAny_builtin PySem.F.entry_type_call ?_⟩;rw[Around.under_plain (weight_type_call_type "set" [.ref l] []) rfl]
 have h1:=PySem.F.called_set.notType;have h2:=PySem.F.called_set.canCreate;have hct:=PySem.F.typeCall_set_1 (.ref l)
 repeat (any_goals (first|assumption|wp_step))
 refine codeAny_mono (code_set_new_1 (.ref l) (E:=E) (Q₁:=λobj s₁=>∃led:Bool,obj=.ref s.heap.objs.size/\s₁={ s with heap:=s.heap.push (N7 led) }) λled=>⟨led,rfl,rfl⟩) λr s₁ hr=>?_
 cases r with
 |error e=>exact hr
 |ok fl=>
  cases fl with
  |ret obj=>
   obtain⟨led,rfl,rfl⟩:=hr;have hS:(s.heap.push (N7 led)).get? s.heap.objs.size=some (N7 led):=Heap.get?_push_size _ rfl;have hT:Shared.TypeIs { s with heap:=s.heap.push (N7 led) } (.ref s.heap.objs.size) "set" := ⟨_,hS,rfl⟩
   have hli:=PySem.F.called_set.init.lookup;have hbi:=PySem.F.called_set.init.bind (.ref s.heap.objs.size)
   repeat (any_goals (first|assumption|wp_step))
   refine codeAny_mono (codeAny_call_builtin (R:=wants (λr s₂=>r=.none/\∃h' tk,s₂={ s with heap:=h',toks:=tk }/\Vm prog w h' s.heap.objs.size ns us.length/\(∀b o,b<s.heap.objs.size->s.heap.get? b=some o->h'.get? b=some o)) E) PySem.F.called_set.init.plain PySem.F.entry_set_init (check_set_init_1 hT ?_)) λr₂ s₂ hr₂=>?_
   ·obtain⟨ol,hol,hcl,nl,hdl⟩:=hl
    obtain⟨ocls,odict,odata,oslots⟩:=ol;simp only at hcl hdl;subst hcl;subst hdl;have hol':(s.heap.push (N7 led)).get? l=some { cls:=.type "tuple",dict:=odict,data:=.seq us.toArray nl,slots:=oslots }:=Heap.get?_push_of_some _ hol;have hs1:=Qd9;have hs2:=Qda;have hne:(Value.type "tuple" == Value.type "dict")=false:=by decide
    have hl1:(s.heap.push (N7 led)).IsTuple l us.toArray:=⟨_,hol',rfl,nl,rfl⟩;unfold Builtin.«set.__init__» noKeywords Builtin.Frozenset.updateFrom
    generalize hPI:pyIter=PI
    wp_walk
    subst hPI;refine wpAny_pyIter_tuple hl1 (wpAny_bind (wpAny_runValue ?_));have hlS:l<s.heap.objs.size:=Heap.lt_size hol;have hh3:A.in1.in1.in1.handled=none:=by simp[hh]
    have hneI:l≠(s.heap.push (N7 led)).objs.size:=by rw[Heap.size_push];exact Nat.ne_of_lt (Nat.lt_succ_of_lt hlS)
    have hSf:s.heap.objs.size∉[(s.heap.push (N7 led)).objs.size,l]:=by
     rw[Heap.size_push];simp only[List.mem_cons,List.not_mem_nil,or_false,not_or];exact⟨Nat.ne_of_lt (Nat.lt_succ_self _),Nat.ne_of_gt hlS⟩
    have hsz:us.toArray.size=us.length:=List.size_toArray;refine codeAny_set_update_loopS ((Walks.tuple hh3 _ l hneI us.toArray).toS) s.heap.objs.size hSf (λi=>ns.getD i 0) (λi v hv=>IntsAre.int_at hi i v (by simpa using hv)) (by rw[hsz];exact hb) (us.toArray.size-0) 0 _ (by omega) (Nat.zero_le _) ⟨⟨_,Heap.get?_push_size _ rfl,rfl,rfl⟩,(let ⟨o,e,q⟩:=hl1;⟨o,Heap.get?_push_of_some _ e,q⟩)⟩ ?_ λs' hm hS'=>?_
    ·exact SetOf_congr ((setObjOf_fresh (knd:=intKind prog w) led).setOf (Heap.get?_push_of_some _ hS) (by unfold scanBound;omega)) (λ_=>rfl) rfl
    ·obtain⟨h',g',d',tk',os'⟩:=s'
     have eg:g'=s.gens:=hm.gens;have ed:d'=s.drawn:=hm.drawn;have eo:os'=s.os:=hm.os;subst eg;subst ed;subst eo;rw[hsz] at hS'
     show wpAny _ _ _ _ _ _
     refine wpAny_pure ?_
     show wpAny _ _ (ret Value.none) _ _ _
     refine wpAny_pure ⟨rfl,h',tk',rfl,hS',λb o hb e=>?_⟩
     have hb2:b≠(s.heap.push (N7 led)).objs.size:=by rw[Heap.size_push];exact Nat.ne_of_lt (Nat.lt_succ_of_lt hb)
     exact hm.heap b o (by simp only[List.mem_cons,List.not_mem_nil,or_false,not_or];exact⟨Nat.ne_of_lt hb,hb2⟩) (Heap.get?_push_of_some _ (Heap.get?_push_of_some _ e))
   ·cases r₂ with
    |error e=>exact hr₂
    |ok fl₂=>
     cases fl₂ with
     |ret r=>
      obtain⟨rfl,h',tk,rfl,hS',hk'⟩:=hr₂
      repeat (any_goals (first|assumption|wp_step))
      exact h _ _ hS' hk'
     |_=>exact hr₂.elim
  |_=>exact hr.elim
end
theorem Tj(ns:List Int):firstMet (λi=>ns.getD i 0) ns.length=ns.foldl (λl v=>if l.any (·==v) then l else l++[v]) []:=by
 unfold firstMet;have:(List.range ns.length).map (λi=>ns.getD i 0)=ns:=by
  apply List.ext_getElem?;intro i;rw[List.getElem?_map];by_cases hi:i<ns.length
  ·rw[List.getElem?_range hi,List.getElem?_eq_getElem hi]
   show some (ns.getD i 0)=_
   rw[List.getD_eq_getElem?_getD,List.getElem?_eq_getElem hi];rfl
  ·rw[List.getElem?_eq_none (by simp;omega),List.getElem?_eq_none (by omega)]
   rfl
 rw[this];rfl
def tLs(K:PySem.W.Frag)(ta:TA):TE:=λσ H Q=>ta σ H λvs H1=>∃(a:Addr) (ns:List Int),vs=[.ref a]/\SqT K H1 a (ns.map V.int)/\ns.length<4000/\Q (.int (ns.foldl (λl v=>if l.any (·==v) then l else l++[v]) []).length) H1
theorem Z8:bootBuiltins ("set" : Str)=some (.type "set"):=by decide +kernel
section
variable{X:Cx}
theorem Z9{a:Expr}{ta:TA}{p q pos pos':Pos}(hc:X.calm=true)(hg:Gl X "len")(hm:X.mg "len" = none)(hgs:Gl X "set")(hms:X.mg "set" = none)(ha:PA X [a] ta)(hs:starEach [a] X.env=[(false,eval a X.env)]) :
  PE X (.Call (.Name "len" p) [.Call (.Name "set" q) [a] [] pos'] [] pos) (tLs X.K ta):=by
 intro pins s σ H Q I h;refine wpAny_Call_Name_kw (Dh I hg hm PySem.boot_len ?_ (by decide) (by decide))
 refine PyProof.Rows.callWith_builtin1 ?_ rfl rfl
 show wpAny _ _ (spliced ((false,eval (.Call (.Name "set" q) [a] [] pos') X.env)::[])) _ _ s
 refine Calls.spliced_cons ?_;refine Call_ (Dh I hgs hms Z8 (PyProof.Rows.callWith_type1 (thn (ha pos' pins s σ H _ I h) λus s1 ⟨vs,H1,I1,r1,q1⟩=>?_) hs rfl))
 obtain⟨b,ns,rfl,hq,hz,k⟩:=q1;obtain⟨u,rfl,ru⟩:=Ab.one r1;cases ru;obtain⟨its,rv,pt,_⟩:=I1.tuple hq;have hI:=Qb rv;have hlen:its.length=ns.length:=hI.length;refine Ti (I.ok.hd hc) pt hI (by unfold scanBound;omega) λh' tk hS hk=>Calls.spliced_nil ?_
 have hle:=firstMet_length_le (λi=>ns.getD i 0) its.length
 obtain⟨o,es,ep,t,ho,hex,hd,_,_,_,hf,hn⟩:=hS;have I2:Inv X pins σ H1 { s1 with heap:=h',toks:=tk }:=I1.kept λb u q=>hk b u (Heap.lt_size q) q
 refine call_len_set (s:={ s1 with heap:=h',toks:=tk }) ho hex hd hf (by omega) ?_
 rw[hlen,Tj] at hn;exact⟨.int _,H1,I2.tok _,⟨_,by rw[hn]⟩,k⟩
end
end L2
namespace Lf
open PySem PySem.W PyProof.Rows
def pwN{α:Type}(n:Nat)(ans:Nat->Nat->Bool)(Q:α->Prop):KasT α->Prop
 |.ret a=>Q a
 |.ask i j k=>i<n/\j<n/\pwN n ans Q (k (ans i j))
theorem By{α:Type}{n:Nat}{ans:Nat->Nat->Bool}{Q Q':α->Prop}(hq:∀a,Q a->Q' a):∀(t:KasT α),pwN n ans Q t->pwN n ans Q' t
 |.ret a,h=>hq a h
 |.ask i j k,h=>⟨h.1,h.2.1,By hq _ h.2.2⟩
theorem Dq{α β:Type}{n:Nat}{ans:Nat->Nat->Bool}{f:α->KasT β}{Q:β->Prop}:∀(t:KasT α),pwN n ans (λa=>pwN n ans Q (f a)) t->pwN n ans Q (t.bind f)
 |.ret a,h=>h
 |.ask i j k,h=>⟨h.1,h.2.1,Dq _ h.2.2⟩
theorem Vn{α:Type}{n:Nat}{ans:Nat->Nat->Bool}{Q:α->Prop}{Q':α->Shared->Prop}{cmp:Nat->Nat->(Bool->Shared->Prop)->Shared->Prop}{s:Shared}(hc:∀i j,i<n->j<n->∀C,C (ans i j) s->cmp i j C s)(hq:∀a,Q a->Q' a s) :
  ∀(t:KasT α),pwN n ans Q t->t.kasWp cmp Q' s
 |.ret a,h=>hq a h
 |.ask i j k,h=>hc i j h.1 h.2.1 _ (Vn hc hq (k _) h.2.2)
section
variable(key:Nat->Int)(n:Nat)
abbrev Cz:Nat->Nat->Bool:=λi j=>decide (key i<key j)
def kp(p:Array Nat)(k:Nat):Int:=key (p.getD k 0)
def isP(p:Array Nat):Prop:=p.toList.Perm (List.range n)
def Gv(p:Array Nat)(m:Nat):Prop:=∀i j,i<=j->j<m->kp key p i<=kp key p j
def Tk(p:Array Nat)(m:Nat):Prop:=∀i j,i<=j->j<m->kp key p j<=kp key p i
variable{key n}{p:Array Nat}
theorem isP.size(h:isP n p):p.size=n:=by have:=h.length_eq;simpa using this
theorem isP.at(h:isP n p){i:Nat}(hi:i<n):p.getD i 0<n:=by
 have hs:=h.size;have:p.getD i 0∈p.toList:=by simp[Array.getD,hs,hi]
 exact List.mem_range.1 (h.mem_iff.1 this)
theorem isP.perm{q:Array Nat}(h:isP n p)(hq:q.Perm p):isP n q:=hq.toList.trans h
theorem Jy{p:Array Nat}{k:Nat}:p.getD k 0=(p[k]?).getD 0:=by simp
theorem Qc{i j:Nat}(hj:j<=p.size)(k:Nat):kp key (kas_rev p i j) k=if i<=k/\k<j then kp key p (i+j-1-k) else kp key p k:=by
 unfold kp kas_rev;rw[Jy,getElem?_mirror_all hj];split<;>rw[Jy]
theorem Gw{i j:Nat}(hj:j<=p.size)(he:∀k,i<=k->k<j->kp key p k=kp key p (j-1))(k:Nat):kp key (kas_rev p i j) k=kp key p k:=by
 rw[Qc hj];split
 ·rw[he (i+j-1-k) (by omega) (by omega),he k (by omega) (by omega)]
 ·rfl
theorem Vo(hp:isP n p):∀(f m nrem:Nat),1<=m->m+f=nrem->nrem<=n->Gv key p m->pwN n (Cz key) (λr=>m<=r/\r<=nrem/\Gv key p r) (kas_asc p f m)
 |0,m,nrem,h1,h2,h3,hs=>⟨by omega,by omega,hs⟩
 |f+1,m,nrem,h1,h2,h3,hs=>by
  refine⟨hp.at (by omega),hp.at (by omega),?_⟩
  by_cases c:kp key p m<kp key p (m-1)
  ·have:Cz key (p.getD m 0) (p.getD (m-1) 0)=true:=decide_eq_true c
   rw[this];dsimp only;rw[if_pos rfl];exact⟨by omega,by omega,hs⟩
  ·have:Cz key (p.getD m 0) (p.getD (m-1) 0)=false:=decide_eq_false c
   rw[this];dsimp only;rw[if_neg Bool.false_ne_true];refine By (λr hr=>⟨by omega,hr.2.1,hr.2.2⟩) _ (Vo hp f (m+1) nrem (by omega) (by omega) h3 λi j hij hj=>?_)
   by_cases hjm:j<m
   ·exact hs i j hij hjm
   ·have:j=m:=by omega
    subst this;by_cases hi:i=j
    ·subst hi;exact Int.le_refl _
    ·exact Int.le_trans (hs i (j-1) (by omega) (by omega)) (by omega)
theorem J5:∀(f m nrem q:Nat) (p:Array Nat),isP n p->1<=m->m+f=nrem->nrem<=n->Tk key p m->q+1<=m->(∀k,m-(q+1)<=k->k<m->kp key p k=kp key p (m-1)) ->
  pwN n (Cz key) (λr=>isP n r.1/\m<=r.2.1/\r.2.1<=nrem/\Tk key r.1 r.2.1/\r.2.2+1<=r.2.1/\∀k,r.2.1-(r.2.2+1)<=k->k<r.2.1->kp key r.1 k=kp key r.1 (r.2.1-1)) (kas_desc f p m q)
 |0,m,nrem,q,p,hp,h1,h2,h3,hs,hq,he=>⟨hp,Nat.le_refl _,by show m<=nrem;omega,hs,hq,he⟩
 |f+1,m,nrem,q,p,hp,h1,h2,h3,hs,hq,he=>by
  have hz:=hp.size;refine⟨hp.at (by omega),hp.at (by omega),?_⟩
  by_cases c:kp key p m<kp key p (m-1)
  ·have:Cz key (p.getD m 0) (p.getD (m-1) 0)=true:=decide_eq_true c
   rw[this];dsimp only;rw[if_pos rfl];have step:∀r:Array Nat,(∀k,kp key r k=kp key p k)->Tk key r (m+1):=λr hr i j hij hj=>by
    rw[hr,hr];by_cases hjm:j<m
    ·exact hs i j hij hjm
    ·have:j=m:=by omega
     subst this;by_cases hi:i=j
     ·subst hi;exact Int.le_refl _
     ·exact Int.le_trans (by omega) (hs i (j-1) (by omega) (by omega))
   split
   ·refine By (λr hr=>⟨hr.1,by omega,hr.2.2.1,hr.2.2.2.1,hr.2.2.2.2⟩) _ (J5 f (m+1) nrem 0 _ (hp.perm (mirror_perm _ _ _ _)) (by omega) (by omega) h3 (step _ (Gw (by omega) he)) (by omega) λk h1 h2=>by congr 1;omega)
   ·refine By (λr hr=>⟨hr.1,by omega,hr.2.2.1,hr.2.2.2.1,hr.2.2.2.2⟩) _ (J5 f (m+1) nrem 0 p hp (by omega) (by omega) h3 (step _ λ_=>rfl) (by omega) λk h1 h2=>by congr 1;omega)
  ·have:Cz key (p.getD m 0) (p.getD (m-1) 0)=false:=decide_eq_false c
   rw[this];dsimp only;rw[if_neg Bool.false_ne_true];refine⟨hp.at (by omega),hp.at (by omega),?_⟩
   by_cases d:kp key p (m-1)<kp key p m
   ·have:Cz key (p.getD (m-1) 0) (p.getD m 0)=true:=decide_eq_true d
    rw[this];dsimp only;rw[if_pos rfl];exact⟨hp,Nat.le_refl _,by show m<=nrem;omega,hs,hq,he⟩
   ·have:Cz key (p.getD (m-1) 0) (p.getD m 0)=false:=decide_eq_false d
    rw[this];dsimp only;rw[if_neg Bool.false_ne_true];have e:kp key p m=kp key p (m-1):=by omega
    refine By (λr hr=>⟨hr.1,by omega,hr.2.2.1,hr.2.2.2.1,hr.2.2.2.2⟩) _ (J5 f (m+1) nrem (q+1) p hp (by omega) (by omega) h3 (λi j hij hj=>?_) (by omega) λk h1 h2=>?_)
    ·by_cases hjm:j<m
     ·exact hs i j hij hjm
     ·have:j=m:=by omega
      subst this;by_cases hi:i=j
      ·subst hi;exact Int.le_refl _
      ·rw[e];exact hs i (j-1) (by omega) (by omega)
    ·rw[show m+1-1=m by omega]
     by_cases hk:k=m
     ·subst hk;rfl
     ·rw[e];exact he k (by omega) (by omega)
theorem Qdb(hp:isP n p){m:Nat}(hm:m<=n)(h:Tk key p m):Gv key (kas_rev p 0 m) m:=λi j hij hj=>by
 have hz:=hp.size;rw[Qc (by omega),Qc (by omega),if_pos (by omega),if_pos (by omega)]
 exact h _ _ (by omega) (by omega)
theorem Re(hp:isP n p){m nrem:Nat}(h1:1<=m)(h2:m<=nrem)(h3:nrem<=n)(h:Tk key p m):pwN n (Cz key) (λr=>isP n r.2/\1<=r.1/\r.1<=nrem/\Gv key r.2 r.1) (kas_tail3 m nrem p):=by
 have hr:isP n (kas_rev p 0 m):=hp.perm (mirror_perm _ _ _ _);refine Dq _ (By (λr hr'=>?_) _ (Vo hr (nrem-m) m nrem h1 (by omega) h3 (Qdb hp (by omega) h)))
 exact⟨hr,by show 1<=r;omega,hr'.2.1,hr'.2.2⟩
theorem Ir(hp:isP n p){m nrem:Nat}(h1:1<=m)(h2:m+1<=nrem)(h3:nrem<=n)(h:Tk key p (m+1)):pwN n (Cz key) (λr=>isP n r.2/\1<=r.1/\r.1<=nrem/\Gv key r.2 r.1) (kas_descPart m nrem p):=by
 refine Dq _ (By (λr hr=>?_) _ (J5 (nrem-(m+1)) (m+1) nrem 0 p hp (by omega) (by omega) h3 h (by omega) λk h1 h2=>by congr 1;omega))
 obtain⟨r1,r2,r3⟩:=r;obtain⟨a1,a2,a3,a4,a5,a6⟩:=hr;simp only at a1 a2 a3 a4 a5 a6 |-;have hz:=a1.size;split
 ·refine Re (a1.perm (mirror_perm _ _ _ _)) (by omega) a3 h3 λi j hij hj=>?_
  change kp key (kas_rev r1 (r2-(r3+1)) r2) j<=kp key (kas_rev r1 (r2-(r3+1)) r2) i
  rw[Gw (by omega) a6,Gw (by omega) a6]
  exact a4 i j hij hj
 ·exact Re a1 (by omega) a3 h3 a4
theorem Vp(hp:isP n p){nrem:Nat}(h1:1<=nrem)(h3:nrem<=n):pwN n (Cz key) (λr=>isP n r.2/\1<=r.1/\r.1<=nrem/\Gv key r.2 r.1) (kas_count nrem p):=by
 have hz:=hp.size;have one:Gv key p 1:=λi j hij hj=>by
  have:i=j:=by omega
  subst this;exact Int.le_refl _
 have key2:∀(f m:Nat),1<=m->m+f=nrem->Gv key p m->pwN n (Cz key) (λr=>m<=r/\r<=nrem/\Gv key p r/\(r<nrem->kp key p r<kp key p (r-1))) (kas_asc p f m):=by
  intro f
  induction f with
  |zero=>intro m h1 h2 hs;exact⟨by omega,by omega,hs,λz=>by omega⟩
  |succ f ih=>
   intro m h1 h2 hs;refine⟨hp.at (by omega),hp.at (by omega),?_⟩
   by_cases c:kp key p m<kp key p (m-1)
   ·have:Cz key (p.getD m 0) (p.getD (m-1) 0)=true:=decide_eq_true c
    rw[this];dsimp only;rw[if_pos rfl];exact⟨by omega,by omega,hs,λ_=>c⟩
   ·have:Cz key (p.getD m 0) (p.getD (m-1) 0)=false:=decide_eq_false c
    rw[this];dsimp only;rw[if_neg Bool.false_ne_true];refine By (λr hr=>⟨by omega,hr.2.1,hr.2.2⟩) _ (ih (m+1) (by omega) (by omega) λi j hij hj=>?_)
    by_cases hjm:j<m
    ·exact hs i j hij hjm
    ·have:j=m:=by omega
     subst this;by_cases hi:i=j
     ·subst hi;exact Int.le_refl _
     ·exact Int.le_trans (hs i (j-1) (by omega) (by omega)) (by omega)
 refine Dq _ (By (λr hr=>?_) _ (key2 (nrem-1) 1 (by omega) (by omega) one))
 obtain⟨a1,a2,a3,a4⟩:=hr;split
 ·exact⟨hp,a1,a2,a3⟩
 ·rename_i hne
  have hlt:r<nrem:=by
   have:r≠nrem:=λz=>hne (by simp[z])
   omega
  have a5:=a4 hlt;split
  ·rename_i hr1
   refine⟨hp.at (by omega),hp.at (by omega),?_⟩
   by_cases c:kp key p 0<kp key p (r-1)
   ·have:Cz key (p.getD 0 0) (p.getD (r-1) 0)=true:=decide_eq_true c
    rw[this];dsimp only;rw[if_pos rfl];exact⟨hp,a1,a2,a3⟩
   ·have:Cz key (p.getD 0 0) (p.getD (r-1) 0)=false:=decide_eq_false c
    rw[this];dsimp only;rw[if_neg Bool.false_ne_true];refine Ir (hp.perm (mirror_perm _ _ _ _)) a1 (by omega) h3 λi j hij hj=>?_
    have all:∀k,0<=k->k<r->kp key p k=kp key p (r-1):=λk _ hk=>by
     have:=a3 0 k (by omega) hk
     have:=a3 k (r-1) (by omega) (by omega)
     omega
    change kp key (kas_rev p 0 r) j<=kp key (kas_rev p 0 r) i
    rw[Gw (by omega) all,Gw (by omega) all]
    by_cases hjr:j<r
    ·rw[all j (by omega) hjr,all i (by omega) (by omega)]
     exact Int.le_refl _
    ·have:j=r:=by omega
     subst this;by_cases hi:i=j
     ·subst hi;exact Int.le_refl _
     ·rw[all i (by omega) (by omega)]
      omega
  ·have:r=1:=by omega
   subst this;refine Ir hp (by omega) (by omega) h3 λi j hij hj=>?_
   by_cases hi:i=j
   ·subst hi;exact Int.le_refl _
   ·have e1:i=0:=by omega
    have e2:j=1:=by omega
    subst e1 e2;exact Int.le_of_lt a5
theorem Jz(hp:isP n p){k:Nat}(hk:k<n)(hs:Gv key p k):∀(f l r:Nat),l<=r->r<=k->r-l<=f->(∀i,i<l->kp key p i<=kp key p k)->(∀i,r<=i->i<k->kp key p k<=kp key p i) ->
  pwN n (Cz key) (λm=>m<=k/\(∀i,i<m->kp key p i<=kp key p k)/\∀i,m<=i->i<k->kp key p k<=kp key p i) (kas_place p k f l r)
 |0,l,r,h1,h2,h3,ha,hb=>by
  have:l=r:=by omega
  subst this;exact⟨h2,ha,hb⟩
 |f+1,l,r,h1,h2,h3,ha,hb=>by
  unfold kas_place;split
  ·have:l=r:=by omega
   subst this;exact⟨h2,ha,hb⟩
  ·refine⟨hp.at (by omega),hp.at (by omega),?_⟩
   by_cases c:kp key p k<kp key p ((l+r) / 2)
   ·have:Cz key (p.getD k 0) (p.getD ((l+r) / 2) 0)=true:=decide_eq_true c
    rw[this];dsimp only;rw[if_pos rfl];refine Jz hp hk hs f l ((l+r) / 2) (by omega) (by omega) (by omega) ha λi hi hik=>?_
    have:=hs ((l+r) / 2) i hi hik;omega
   ·have:Cz key (p.getD k 0) (p.getD ((l+r) / 2) 0)=false:=decide_eq_false c
    rw[this];dsimp only;rw[if_neg Bool.false_ne_true];refine Jz hp hk hs f ((l+r) / 2+1) r (by omega) (by omega) (by omega) (λi hi=>?_) hb
    have:=hs i ((l+r) / 2) (by omega) (by omega)
    omega
theorem Vq{k d:Nat}(hk:k<p.size)(hd:d<=k)(i:Nat):kp key (bubble p k d) i=if i=k-d then kp key p k else if k-d<i/\i<=k then kp key p (i-1) else kp key p i:=by
 have e:∀(q:Array Nat) (j:Nat),kp key q j=key ((q[j]?).getD 0):=λq j=>by unfold kp;rw[Jy]
 rw[e,e,e,e,getElem?_bubble hk d hd];split
 ·rfl
 ·split<;>rfl
theorem Vr:∀(f k:Nat) (p:Array Nat),isP n p->k+f=n->Gv key p k->pwN n (Cz key) (λr=>isP n r/\Gv key r n) (kas_bin f p k)
 |0,k,p,hp,h1,hs=>by
  have:k=n:=by omega
  subst this;exact⟨hp,hs⟩
 |f+1,k,p,hp,h1,hs=>by
  have hz:=hp.size;refine Dq _ (By (λm hm=>?_) _ (Jz hp (by omega) hs k 0 k (by omega) (by omega) (by omega) (λi hi=>by omega) λi hi hik=>by omega))
  obtain⟨b1,b2,b3⟩:=hm;refine Vr f (k+1) _ (hp.perm (bubble_perm _ _ _)) (by omega) λi j hij hj=>?_
  rw[Vq (by omega) (by omega),Vq (by omega) (by omega)]
  have e:k-(k-m)=m:=by omega
  rw[e];by_cases i1:i=m
  ·subst i1
   rw[if_pos rfl];by_cases j1:j=i
   ·subst j1;rw[if_pos rfl];exact Int.le_refl _
   ·rw[if_neg j1,if_pos (by omega)]
    exact b3 _ (by omega) (by omega)
  ·rw[if_neg i1]
   by_cases i2:m<i/\i<=k
   ·rw[if_pos i2,if_neg (by omega),if_pos (by omega)]
    exact hs _ _ (by omega) (by omega)
   ·rw[if_neg i2]
    have i3:i<m:=by omega
    by_cases j1:j=m
    ·rw[if_pos j1];exact b2 _ i3
    ·rw[if_neg j1]
     by_cases j2:m<j/\j<=k
     ·rw[if_pos j2];exact hs _ _ (by omega) (by omega)
     ·rw[if_neg j2];exact hs _ _ hij (by omega)
theorem Za(h1:1<=n):pwN n (Cz key) (λr=>isP n r/\Gv key r n) (kas_sort n):=by
 have h0:isP n (List.toArray (List.range n)):=by unfold isP;simp
 refine Dq _ (By (λr hr=>?_) _ (Vp h0 h1 (Nat.le_refl _)))
 obtain⟨a1,a2,a3,a4⟩:=hr;split
 ·have:max r.1 1=r.1:=by omega
  rw[this];exact Vr _ _ _ a1 (by omega) a4
 ·have:r.1=n:=by omega
  rw[this] at a4;exact⟨a1,a4⟩
end
end Lf
namespace Lf
open PySem (Str)
noncomputable section
inductive D where
 |non|bl (b:Bool)|int (i:Int)|str (x:Str)|tup (xs:List D)|lst (xs:List D)
mutual
def eqD:D->D->Bool
 |.non,.non=>true
 |.bl a,.bl b=>a==b
 |.bl a,.int b=>(if a then 1 else 0)==b
 |.int a,.bl b=>a==(if b then 1 else 0)
 |.int a,.int b=>a==b
 |.str a,.str b=>a==b
 |.tup xs,.tup ys=>G0 xs ys
 |.lst xs,.lst ys=>G0 xs ys
 |_,_=>false
def G0:List D->List D->Bool
 |[],[]=>true
 |x::xs,y::ys=>eqD x y&&G0 xs ys
 |_,_=>false
end
mutual
def noL:D->Bool
 |.lst _=>false
 |.tup xs=>Bw xs
 |_=>true
def Bw:List D->Bool
 |[]=>true
 |x::xs=>noL x&&Bw xs
end
def Ds:D->Bool
 |.non=>true
 |_=>false
def lo:Nat->D->Bool
 |0,.tup _=>false
 |0,.lst _=>false
 |n+1,.tup xs=>xs.all (lo n)
 |n+1,.lst xs=>xs.all (lo n)
 |_,_=>true
inductive R(α:Type) where
 |ok (a:α)|xn (c:Str) (d:Option D)|un
def R.bind{α β:Type}:R α->(α->R β)->R β
 |.ok a,f=>f a
 |.xn c d,_=>.xn c d
 |.un,_=>.un
instance:Monad R where
 pure:=.ok
 bind:=R.bind
@[simp] theorem R.bind_ok{α β:Type}(a:α)(f:α->R β):(R.ok a >>= f)=f a:=rfl
@[simp] theorem R.bind_un{α β:Type}(f:α->R β):((R.un:R α) >>= f)=.un:=rfl
@[simp] theorem R.bind_xn{α β:Type}(c:Str)(d:Option D)(f:α->R β):((R.xn c d:R α) >>= f)=.xn c d:=rfl
@[simp] theorem R.pure_ok{α:Type}(a:α):(pure a:R α)=.ok a:=rfl
theorem R.bind_eq_ok{α β:Type}{m:R α}{f:α->R β}{b:β}(h:(m >>= f)=.ok b):∃a,m=.ok a/\f a=.ok b:=by
 cases m with
 |ok a=>exact⟨a,rfl,h⟩
 |xn c d=>cases h
 |un=>cases h
def K0:List (Str×D):=[("MOST_ON_A_SIDE",.int 5),("MOST_ROOMS",.int 5),("NUMBERS",.tup [.str "0",.str "1",.str "2",.str "3",.str "4",.str "5"])]
def Tl:List Str:=["BadText"]
inductive Op where
 |add|sub|mul|mod|eq|ne|lt|le|gt|ge|isin|notin
 |div
 deriving DecidableEq
inductive B1 where
 |len|tuple|list|sorted|int
 |str
 deriving DecidableEq
inductive M1 where
 |index|count
 deriving DecidableEq
inductive Ty where
 |int|bool|list|tuple|str
 deriving DecidableEq
mutual
inductive Ex where
 |var (i:Nat)
 |int (i:Int)|bl (b:Bool)|non|str (x:Str)
 |op (o:Op) (a b:Ex)
 |chn (o o':Op) (a b c:Ex)
 |isn (neg:Bool) (a:Ex)
 |and (a b:Ex)|or (a b:Ex)|not (a:Ex)
 |ife (c a b:Ex)
 |call (f:Str) (as:Exs)
 |b1 (f:B1) (a:Ex)
 |ins (t:Ty) (a:Ex)
 |idx (a b:Ex)
 |slc (a:Ex) (lo hi:Exs)
 |m1 (m:M1) (o a:Ex)
 |tup (as:Exs)|lst (as:Exs)
 |comp (two:Bool) (elt:Ex) (it:It) (ifs:Exs)
 |rep (a b:Ex)
 |cst (i:Nat)
 |jn (x:Str) (a:Ex)
 |spl (a:Ex) (c:Nat)
 |endw (a:Ex) (c:Nat)
 |lset (a:Ex)
 |maxd (a:Ex)
 |revS (a:Ex)
inductive Exs where
 |nil|cons (a:Ex) (r:Exs)
inductive It where
 |seq (a:Ex)|rng (a:Ex)|enu (a:Ex)
end
abbrev Env:=List (Option (D×Bool))
def Ci:D->R Bool
 |.non=>.ok false
 |.bl b=>.ok b
 |.int i=>.ok (i != 0)
 |.lst xs=>.ok (!xs.isEmpty)
 |.tup xs=>.ok (!xs.isEmpty)
 |.str _=>.un
theorem Rf:∃n:Nat,n=1000000:=⟨_,rfl⟩
def line:Nat:=Classical.choose Rf
theorem Dc:line=1000000:=Classical.choose_spec Rf
theorem Vs:∃n:Int,n=2 ^ 64:=⟨_,rfl⟩
def big:Int:=Classical.choose Vs
theorem Ep:big=2 ^ 64:=Classical.choose_spec Vs
def C2(i:Int):Bool:=decide (-big<i)&&decide (i<big)
def Av(n:Nat):Bool:=decide (n<=line)
def Bo:D->Option (List D)
 |.lst xs=>some xs
 |.tup xs=>some xs
 |_=>none
def inD(x:D)(xs:List D):Bool:=xs.any λy=>eqD y x
def Qd(x:Str):Option Nat:=match x.cps.toList with
 |[c]=>some c
 |_=>none
def Od(x:Str):Option Int:=match Qd x with
 |some c=>if 48<=c/\c<=57 then some ((c:Int)-48) else none
 |none=>none
def K1(x:D)(y:Str):R D:=match x with
 |.str x=>match Qd x with
  |some c=>if Av y.length then .ok (.bl (!y.cps.toList.contains c)) else .un
  |none=>.un
 |_=>.un
def op2:Op->D->D->R D
 |.add,.int a,.int b=>.ok (.int (a+b))
 |.add,.lst a,.lst b=>if Av (a.length+b.length) then .ok (.lst (a++b)) else .un
 |.add,.tup a,.tup b=>if Av (a.length+b.length) then .ok (.tup (a++b)) else .un
 |.add,.str a,.str b=>if Av (a.length+b.length) then .ok (.str (a++b)) else .un
 |.sub,.int a,.int b=>.ok (.int (a-b))
 |.mul,.int a,.int b=>if C2 a||C2 b then .ok (.int (a*b)) else .un
 |.mod,.int a,.int b=>if 0<b then .ok (.int (a % b)) else .un
 |.eq,a,b=>if lo 9 a then .ok (.bl (eqD a b)) else .un
 |.ne,a,b=>if lo 9 a then .ok (.bl (!eqD a b)) else .un
 |.lt,.int a,.int b=>.ok (.bl (decide (a<b)))
 |.le,.int a,.int b=>.ok (.bl (decide (a<=b)))
 |.gt,.int a,.int b=>.ok (.bl (decide (b<a)))
 |.ge,.int a,.int b=>.ok (.bl (decide (b<=a)))
 |.isin,x,.lst xs=>if lo 9 x then .ok (.bl (inD x xs)) else .un
 |.isin,x,.tup xs=>if lo 9 x then .ok (.bl (inD x xs)) else .un
 |.notin,x,.lst xs=>if lo 9 x then .ok (.bl (!inD x xs)) else .un
 |.notin,x,.tup xs=>if lo 9 x then .ok (.bl (!inD x xs)) else .un
 |.notin,x,.str y=>K1 x y
 |.div,.int a,.int b=>if 0<b/\b<1073741824 then .ok (.int (a / b)) else .un
 |_,_,_=>.un
def Bg:List D->Option (List Int)
 |[]=>some []
 |.int i::r=>(Bg r).map (i :: ·)
 |_=>none
def pairsOf:List D->Option (List (Int×Int))
 |[]=>some []
 |.tup [.int i,.int j]::r=>(pairsOf r).map ((i,j) :: ·)
 |_=>none
def Qe(x:Int):List Int->List Int
 |[]=>[x]
 |y::r=>if x<=y then x::y::r else y::Qe x r
def Lv:List Int->List Int
 |[]=>[]
 |x::r=>Qe x (Lv r)
def ltP(p q:Int×Int):Bool:=decide (p.1<q.1)||(p.1==q.1&&decide (p.2<q.2))
def Qf(x:Int×Int):List (Int×Int)->List (Int×Int)
 |[]=>[x]
 |y::r=>if ltP y x then y::Qf x r else x::y::r
def Cu:List (Int×Int)->List (Int×Int)
 |[]=>[]
 |x::r=>Qf x (Cu r)
def Bu(p:Int×Int):D:=.tup [.int p.1,.int p.2]
def Lw(xs:List D):R (List D):=
 if xs.length<64 then
  match Bg xs with
  |some ns=>.ok ((Lv ns).map .int)
  |none=>match pairsOf xs with
   |some ps=>if ps.Nodup then .ok ((Cu ps).map Bu) else .un
   |none=>.un
 else .un
def Er:B1->D->R D
 |.len,.lst xs=>.ok (.int xs.length)
 |.len,.tup xs=>.ok (.int xs.length)
 |.tuple,.lst xs=>.ok (.tup xs)
 |.tuple,.tup xs=>.ok (.tup xs)
 |.list,.lst xs=>.ok (.lst xs)
 |.list,.tup xs=>.ok (.lst xs)
 |.sorted,.lst xs=>(Lw xs) >>= λys=>.ok (.lst ys)
 |.int,.bl b=>.ok (.int (if b then 1 else 0))
 |.int,.int i=>.ok (.int i)
 |.int,.str x=>match Od x with|some i=>.ok (.int i)|none=>.un
 |.len,.str x=>if Av x.length then .ok (.int x.length) else .un
 |.str,.int i=>if 0<=i/\i<=9 then .ok (.str ⟨#[48+i.toNat]⟩) else .un
 |_,_=>.un
def D0:Ty->D->Bool
 |.int,.int _=>true
 |.int,.bl _=>true
 |.bool,.bl _=>true
 |.list,.lst _=>true
 |.tuple,.tup _=>true
 |.str,.str _=>true
 |_,_=>false
def ixN(n:Nat)(i:Int):Option Nat:=if 0<=i then (if i<n then some i.toNat else none) else if -(n:Int)<=i then some (i+n).toNat else none
def atD(xs:List D)(i:Int):R D:=match (ixN xs.length i).bind λj=>xs[j]? with
 |some d=>.ok d
 |none=>.un
def Tm:D->D->R D
 |.lst xs,.int i=>atD xs i
 |.tup xs,.int i=>atD xs i
 |.str x,.int i=>if Av x.length then (match (ixN x.length i).bind λj=>x.cps[j]? with|some c=>.ok (.str ⟨#[c]⟩)|none=>.un) else .un
 |_,_=>.un
def sIx(n d:Nat):Option Int->Nat
 |none=>d
 |some v=>if v<0 then (v+(n:Int)).toNat else min v.toNat n
def cut{α:Type}(xs:List α)(lo hi:Option Int):List α:=(xs.drop (sIx xs.length 0 lo)).take (sIx xs.length xs.length hi-sIx xs.length 0 lo)
def bound:List D->R (Option Int)
 |[]=>.ok none
 |[.int i]=>.ok (some i)
 |_=>.un
def Oe(lo hi:Option Int):D->R D
 |.lst xs=>.ok (.lst (cut xs lo hi))
 |.tup xs=>.ok (.tup (cut xs lo hi))
 |.str x=>if Av x.length then .ok (.str ⟨(cut x.cps.toList lo hi).toArray⟩) else .un
 |_=>.un
def Gx(x:D):List D->Option Nat
 |[]=>none
 |y::r=>if eqD y x then some 0 else (Gx x r).map (· + 1)
def Hx(x:D)(xs:List D):Nat:=(xs.filter λy=>eqD y x).length
def Gy:M1->D->D->R D
 |.index,.lst xs,x=>if lo 9 x then match Gx x xs with|some j=>.ok (.int j)|none=>.un else .un
 |.index,.tup xs,x=>if lo 9 x then match Gx x xs with|some j=>.ok (.int j)|none=>.un else .un
 |.count,o,x=>if lo 9 x then match Bo o with
  |some xs=>.ok (.int (Hx x xs))
  |none=>.un
  else .un
 |_,_,_=>.un
def Gz(f:D->R (Option D)):List D->R (List D)
 |[]=>.ok []
 |x::r=>f x >>= λy=>Gz f r >>= λys=>.ok (match y with|some y=>y::ys|none=>ys)
def B4(k:Nat):List D->List D
 |[]=>[]
 |x::r=>.tup [.int k,x]::B4 (k+1) r
def tgt(two:Bool)(d:D):R Env:=if two then
  match d with|.tup [a,b]=>.ok [some (a,false),some (b,false)]|_=>.un
 else .ok [some (d,false)]
def E2(n:Int):List D:=(List.range n.toNat).map λ(i:Nat)=>D.int (i:Int)
def Zb:D->D->R D
 |x,.int n=>if noL x&&decide (0<=n)&&Av n.toNat then .ok (.lst (List.replicate n.toNat x)) else .un
 |_,_=>.un
def E3:List D->Option (List Str)
 |[]=>some []
 |.str x::r=>(E3 r).map (x :: ·)
 |_=>none
def A0(c:Nat):List Nat->List (List Nat)
 |[]=>[[]]
 |x::r=>if x=c then []::A0 c r else match A0 c r with
  |p::q=>(x::p)::q
  |[]=>[[x]]
theorem E6{c:Nat}{r:List Nat}:∀{p:List Nat},c∉p->A0 c (p++c::r)=p::A0 c r
 |[],_=>by
  show (if c=c then []::A0 c r else _)=_
  rw[if_pos rfl]
 |x::p,h=>by
  rw[List.mem_cons,not_or] at h
  show (if x=c then []::A0 c (p++c::r) else match A0 c (p++c::r) with|p::q=>(x::p)::q | []=>[[x]])=_
  rw[if_neg (Ne.symm h.1),E6 h.2]
theorem Es{c:Nat}:∀{p:List Nat},c∉p->A0 c p=[p]
 |[],_=>rfl
 |x::p,h=>by
  rw[List.mem_cons,not_or] at h
  show (if x=c then []::A0 c p else match A0 c p with|p::q=>(x::p)::q | []=>[[x]])=_
  rw[if_neg (Ne.symm h.1),Es h.2]
def Aq(c:Nat)(z:Str):List Str:=(A0 c z.cps.toList).map λl=>⟨l.toArray⟩
def Lx(x:Str):D->R D
 |.lst ds=>match E3 ds with
  |some zs=>if Av ((zs.map (·.length)).sum+zs.length*x.length) then .ok (.str (Str.join x zs)) else .un
  |none=>.un
 |_=>.un
def Di(c:Nat):D->R D
 |.str z=>if Av (z.length+2) then .ok (.lst ((Aq c z).map .str)) else .un
 |_=>.un
def Qdc(c:Nat):D->R D
 |.str x=>.ok (.bl (x.cps.toList.getLast?==some c))
 |_=>.un
def Tn(ns:List Int):List Int:=ns.foldl (λl v=>if l.any (·==v) then l else l++[v]) []
def Vt:D->R D
 |.tup xs=>match Bg xs with
  |some ns=>if ns.length<4000 then .ok (.int (Tn ns).length) else .un
  |none=>.un
 |_=>.un
def To:List Int->Int
 |[]=>0
 |x::r=>r.foldl max x
def Qdd:D->R D
 |.tup xs=>match Bg xs with
  |some ns=>if ns.length<4000 then .ok (.int (To ns)) else .un
  |none=>.un
 |_=>.un
def Vu:D->R D
 |.lst xs=>if Av xs.length then .ok (.lst xs.reverse) else .un
 |_=>.un
structure VT where
 v:R D
 t:R Bool
def vt(r:R D):VT:=⟨r,r >>= Ci⟩
section
variable(C:Str->List D->R D)
mutual
def e2:Ex->Env->VT
 |.var i,ρ=>vt (match ρ[i]? with|some (some (d,_))=>.ok d|_=>.un)
 |.int i,_=>vt (.ok (.int i))
 |.bl b,_=>vt (.ok (.bl b))
 |.non,_=>vt (.ok .non)
 |.str x,_=>vt (.ok (.str x))
 |.op o a b,ρ=>vt ((e2 a ρ).v >>= λx=>(e2 b ρ).v >>= λy=>op2 o x y)
 | .chn o o' a b c,ρ=>vt ((e2 a ρ).v >>= λx=>(e2 b ρ).v >>= λy=>op2 o x y >>= λz=>
   match z with
   |.bl true=>(e2 c ρ).v >>= λw=>op2 o' y w
   |.bl false=>.ok (.bl false)
   | _=>.un)
 |.isn neg a,ρ=>vt ((e2 a ρ).v >>= λx=>.ok (.bl (Ds x != neg)))
 |.and a b,ρ=>⟨(e2 a ρ).v >>= λx=>match x with
   |.bl true=>(e2 b ρ).v
   |.bl false=>.ok (.bl false)
   |_=>.un,(e2 a ρ).t >>= λk=>if k then (e2 b ρ).t else .ok false⟩
 |.or a b,ρ=>⟨(e2 a ρ).v >>= λx=>match x with
   |.bl true=>.ok (.bl true)
   |.bl false=>(e2 b ρ).v
   |_=>.un,(e2 a ρ).t >>= λk=>if k then .ok true else (e2 b ρ).t⟩
 |.not a,ρ=>⟨(e2 a ρ).v >>= λx=>match x with|.bl b=>.ok (.bl (!b))|_=>.un,(e2 a ρ).t >>= λk=>.ok (!k)⟩
 |.ife c a b,ρ=>vt ((e2 c ρ).t >>= λk=>if k then (e2 a ρ).v else (e2 b ρ).v)
 |.call f as,ρ=>vt (evs as ρ >>= λxs=>C f xs)
 |.b1 f a,ρ=>vt ((e2 a ρ).v >>= λx=>Er f x)
 |.ins t a,ρ=>vt ((e2 a ρ).v >>= λx=>.ok (.bl (D0 t x)))
 |.idx a b,ρ=>vt ((e2 a ρ).v >>= λx=>(e2 b ρ).v >>= λy=>Tm x y)
 |.slc a lo hi,ρ=>vt ((e2 a ρ).v >>= λx=>evs lo ρ >>= λl=>bound l >>= λl=>evs hi ρ >>= λh=>bound h >>= λh=>Oe l h x)
 |.m1 m o a,ρ=>vt ((e2 o ρ).v >>= λx=>(e2 a ρ).v >>= λy=>Gy m x y)
 |.tup as,ρ=>vt (evs as ρ >>= λxs=>if Av xs.length then .ok (.tup xs) else .un)
 |.lst as,ρ=>vt (evs as ρ >>= λxs=>if Av xs.length then .ok (.lst xs) else .un)
 | .comp two elt it ifs,ρ=>vt (evI it ρ >>= λxs=>
   Gz (λd=>tgt two d >>= λe=>J0 ifs (ρ++e) >>= λk=>
    if k then (e2 elt (ρ++e)).v >>= λy=>.ok (some y) else .ok none) xs >>= λys=>.ok (.lst ys))
 |.rep a b,ρ=>vt ((e2 a ρ).v >>= λx=>(e2 b ρ).v >>= λy=>Zb x y)
 |.cst i,_=>vt (match K0[i]? with|some p=>.ok p.2|none=>.un)
 |.jn x a,ρ=>vt ((e2 a ρ).v >>= λy=>Lx x y)
 |.spl a c,ρ=>vt ((e2 a ρ).v >>= λy=>Di c y)
 |.endw a c,ρ=>vt ((e2 a ρ).v >>= λy=>Qdc c y)
 |.lset a,ρ=>vt ((e2 a ρ).v >>= λy=>Vt y)
 |.maxd a,ρ=>vt ((e2 a ρ).v >>= λy=>Qdd y)
 |.revS a,ρ=>vt ((e2 a ρ).v >>= λy=>Vu y)
def evs:Exs->Env->R (List D)
 |.nil,_=>.ok []
 |.cons a r,ρ=>(e2 a ρ).v >>= λx=>evs r ρ >>= λxs=>.ok (x::xs)
def evI:It->Env->R (List D)
 |.seq a,ρ=>(e2 a ρ).v >>= λx=>match Bo x with|some xs=>if Av xs.length then .ok xs else .un|none=>.un
 |.rng a,ρ=>(e2 a ρ).v >>= λx=>match x with|.int n=>if -(line:Int)<=n/\n<=(line:Int) then .ok (E2 n) else .un|_=>.un
 |.enu a,ρ=>(e2 a ρ).v >>= λx=>match Bo x with|some xs=>if Av xs.length then .ok (B4 0 xs) else .un|none=>.un
def J0:Exs->Env->R Bool
 |.nil,_=>.ok true
 |.cons a r,ρ=>(e2 a ρ).t >>= λk=>if k then J0 r ρ else .ok false
end
def ev(e:Ex)(ρ:Env):R D:=(e2 C e ρ).v
def tst(e:Ex)(ρ:Env):R Bool:=(e2 C e ρ).t
variable{C}(ρ:Env)
theorem Qde(i:Nat):ev C (.var i) ρ=(match ρ[i]? with|some (some (d,_))=>.ok d|_=>.un):=rfl
theorem Aw(x:Str):ev C (.str x) ρ=.ok (.str x):=rfl
theorem Qbi(o:Op)(a b:Ex):ev C (.op o a b) ρ=(ev C a ρ >>= λx=>ev C b ρ >>= λy=>op2 o x y):=rfl
theorem Qg(o o':Op)(a b c:Ex):ev C (.chn o o' a b c) ρ=(ev C a ρ >>= λx=>ev C b ρ >>= λy=>op2 o x y >>= λz=>
   match z with
   |.bl true=>ev C c ρ >>= λw=>op2 o' y w
   |.bl false=>.ok (.bl false)
   | _=>.un):=rfl
theorem K2(neg:Bool)(a:Ex):ev C (.isn neg a) ρ=(ev C a ρ >>= λx=>.ok (.bl (Ds x != neg))):=rfl
theorem Qdf(a b:Ex):ev C (.and a b) ρ=(ev C a ρ >>= λx=>match x with|.bl true=>ev C b ρ|.bl false=>.ok (.bl false)|_=>.un):=rfl
theorem Qg5(a b:Ex):ev C (.or a b) ρ=(ev C a ρ >>= λx=>match x with|.bl true=>.ok (.bl true)|.bl false=>ev C b ρ|_=>.un):=rfl
theorem Qdg(a:Ex):ev C (.not a) ρ=(ev C a ρ >>= λx=>match x with|.bl b=>.ok (.bl (!b))|_=>.un):=rfl
theorem Qdh(c a b:Ex):ev C (.ife c a b) ρ=(tst C c ρ >>= λk=>if k then ev C a ρ else ev C b ρ):=rfl
theorem Rg(f:Str)(as:Exs):ev C (.call f as) ρ=(evs C as ρ >>= λxs=>C f xs):=rfl
theorem Qg6(f:B1)(a:Ex):ev C (.b1 f a) ρ=(ev C a ρ >>= λx=>Er f x):=rfl
theorem Qdi(t:Ty)(a:Ex):ev C (.ins t a) ρ=(ev C a ρ >>= λx=>.ok (.bl (D0 t x))):=rfl
theorem Qdj(a b:Ex):ev C (.idx a b) ρ=(ev C a ρ >>= λx=>ev C b ρ >>= λy=>Tm x y):=rfl
theorem Qh(a:Ex)(lo hi:Exs):ev C (.slc a lo hi) ρ=(ev C a ρ >>= λx=>evs C lo ρ >>= λl=>bound l >>= λl=>evs C hi ρ >>= λh=>bound h >>= λh=>Oe l h x):=rfl
theorem Qg7(m:M1)(o a:Ex):ev C (.m1 m o a) ρ=(ev C o ρ >>= λx=>ev C a ρ >>= λy=>Gy m x y):=rfl
theorem Qdk(as:Exs):ev C (.tup as) ρ=(evs C as ρ >>= λxs=>if Av xs.length then .ok (.tup xs) else .un):=rfl
theorem Qdl(as:Exs):ev C (.lst as) ρ=(evs C as ρ >>= λxs=>if Av xs.length then .ok (.lst xs) else .un):=rfl
theorem N8(two:Bool)(elt:Ex)(it:It)(ifs:Exs):ev C (.comp two elt it ifs) ρ=(evI C it ρ >>= λxs=>
   Gz (λd=>tgt two d >>= λe=>J0 C ifs (ρ++e) >>= λk=>
    if k then ev C elt (ρ++e) >>= λy=>.ok (some y) else .ok none) xs >>= λys=>.ok (.lst ys)):=rfl
theorem Qdm(a b:Ex):ev C (.rep a b) ρ=(ev C a ρ >>= λx=>ev C b ρ >>= λy=>Zb x y):=rfl
theorem Et(i:Nat):ev C (.cst i) ρ=(match K0[i]? with|some p=>.ok p.2|none=>.un):=rfl
theorem Rh(x:Str)(a:Ex):ev C (.jn x a) ρ=(ev C a ρ >>= λy=>Lx x y):=rfl
theorem Eu(a:Ex)(c:Nat):ev C (.spl a c) ρ=(ev C a ρ >>= λy=>Di c y):=rfl
theorem Zc(a:Ex)(c:Nat):ev C (.endw a c) ρ=(ev C a ρ >>= λy=>Qdc c y):=rfl
theorem Zd(a:Ex):ev C (.lset a) ρ=(ev C a ρ >>= λy=>Vt y):=rfl
theorem Ze(a:Ex):ev C (.maxd a) ρ=(ev C a ρ >>= λy=>Qdd y):=rfl
theorem Zf:evs C .nil ρ=.ok []:=rfl
theorem Of(a:Ex)(r:Exs):evs C (.cons a r) ρ=(ev C a ρ >>= λx=>evs C r ρ >>= λxs=>.ok (x::xs)):=rfl
theorem Zg(a:Ex):evI C (.seq a) ρ=(ev C a ρ >>= λx=>match Bo x with|some xs=>if Av xs.length then .ok xs else .un|none=>.un):=rfl
theorem Zh(a:Ex):evI C (.rng a) ρ=(ev C a ρ >>= λx=>match x with|.int n=>if -(line:Int)<=n/\n<=(line:Int) then .ok (E2 n) else .un|_=>.un):=rfl
theorem Zi(a:Ex):evI C (.enu a) ρ=(ev C a ρ >>= λx=>match Bo x with|some xs=>if Av xs.length then .ok (B4 0 xs) else .un|none=>.un):=rfl
theorem Tp(a:Ex)(r:Exs):J0 C (.cons a r) ρ=(tst C a ρ >>= λk=>if k then J0 C r ρ else .ok false):=rfl
theorem Zj(a b:Ex):tst C (.and a b) ρ=(tst C a ρ >>= λk=>if k then tst C b ρ else .ok false):=rfl
theorem Qdn(a b:Ex):tst C (.or a b) ρ=(tst C a ρ >>= λk=>if k then .ok true else tst C b ρ):=rfl
theorem Zk(a:Ex):tst C (.not a) ρ=(tst C a ρ >>= λk=>.ok (!k)):=rfl
def K3:Ex->Bool
 |.and _ _=>false
 |.or _ _=>false
 |.not _=>false
 |_=>true
theorem C9{e:Ex}(h:K3 e=true):tst C e ρ=(ev C e ρ >>= Ci):=by
 cases e<;>first|rfl|cases h
end
inductive Hm where
 |ret1 (c:Str)
mutual
inductive Sm where
 |asg (i:Nat) (e:Ex)
 |app (i:Nat) (e:Ex)
 |set (i:Nat) (k v:Ex)
 |exp (e:Ex)
 |ret (e:Ex)
 |ife (c:Ex) (a b:Sms)
 |for1 (i:Nat) (it:It) (b:Sms)
 |for2 (i j:Nat) (it:It) (b:Sms)
 |retK (mx:Bool) (a b:Ex)
 |rse (c:Str)
 |rsI (c:Str) (e:Ex)
 |tryN (b:Sms) (xK c:Str)
 |tryB (b:Sms) (c:Str)
 |tryH (b:Sms) (i:Nat) (n xF:Str) (us:List Str) (hs:List Hm)
 |bad
inductive Sms where
 |nil|cons (a:Sm) (r:Sms)
end
mutual
def L8:Sm->Bool
 |.retK _ _ _=>true
 |.ife _ a b=>At a||At b
 |.for1 _ _ b=>At b
 |.for2 _ _ _ b=>At b
 |.tryN b _ _=>At b
 |.tryB b _=>At b
 |.tryH b _ _ _ _ _=>At b
 |_=>false
def At:Sms->Bool
 |.nil=>false
 |.cons a r=>L8 a||At r
end
def Qbj(f:D->R D):List D->R (List Int)
 |[]=>.ok []
 |x::r=>f x >>= λk=>match k with
  |.int k=>Qbj f r >>= λks=>.ok (k::ks)
  |_=>.un
def Vv:Option (Int×Int)->List (Int×Int)->Option (Int×Int)
 |b,[]=>b
 |none,p::r=>Vv (some p) r
 |some q,p::r=>Vv (some (if q.1<p.1 then p else q)) r
def Qg8(p:Int×D):List (Int×D)->List (Int×D)
 |[]=>[p]
 |q::r=>if p.1<=q.1 then p::q::r else q::Qg8 p r
def Qbk:List (Int×D)->List (Int×D)
 |[]=>[]
 |p::r=>Qg8 p (Qbk r)
def Qg9(l:List (Int×D)):Prop:=∀p∈l,∀q∈l,p.1=q.1->p=q
open Classical in
def Qga(mx:Bool)(ks:List Int)(ds:List D):R D:=
 if mx then match Bg ds with
  |some gs=>match Vv none (ks.zip gs) with
   |some q=>.ok (.int q.2)
   |none=>.un
  |none=>.un
 else if ds.length<64/\Qg9 (ks.zip ds) then .ok (.lst ((Qbk (ks.zip ds)).map (·.2))) else .un
mutual
def Aj:Ex->List Nat
 |.var i=>[i]
 |.op _ a b=>Aj a++Aj b
 |.chn _ _ a b c=>Aj a++Aj b++Aj c
 |.isn _ a=>Aj a
 |.and a b=>Aj a++Aj b
 |.or a b=>Aj a++Aj b
 |.not a=>Aj a
 |.ife c a b=>Aj c++Aj a++Aj b
 |.call _ as=>Ev as
 |.b1 _ a=>Aj a
 |.ins _ a=>Aj a
 |.idx a b=>Aj a++Aj b
 |.slc a lo hi=>Aj a++Ev lo++Ev hi
 |.m1 _ o a=>Aj o++Aj a
 |.tup as=>Ev as
 |.lst as=>Ev as
 |.comp _ elt it ifs=>Aj elt++Qbl it++Ev ifs
 |.rep a b=>Aj a++Aj b
 |.cst _=>[]
 |.jn _ a=>Aj a
 |.spl a _=>Aj a
 |.endw a _=>Aj a
 |.lset a=>Aj a
 |.maxd a=>Aj a
 |.revS a=>Aj a
 |.int _=>[]
 |.bl _=>[]
 |.non=>[]
 |.str _=>[]
def Ev:Exs->List Nat
 |.nil=>[]
 |.cons a r=>Aj a++Ev r
def Qbl:It->List Nat
 |.seq a=>Aj a
 |.rng a=>Aj a
 |.enu a=>Aj a
end
def Ak:It->List Nat
 |.rng _=>[]
 |.seq a=>Aj a
 |.enu a=>Aj a
def Co:Ex->Bool
 |.lst _=>true
 |.comp _ _ _ _=>true
 |.b1 .list _=>true
 |.b1 .sorted _=>true
 |.op .add _ _=>true
 |.op .mul _ _=>true
 |.slc _ _ _=>true
 |.rep _ _=>true
 |.spl _ _=>true
 |_=>false
def Dd:D->Bool
 |.lst ds=>Bw ds
 |_=>false
def Tq(e:Ex)(d:D):Bool:=Co e&&Dd d
def unown(vs:List Nat)(ρ:Env):Env:=ρ.mapIdx λi s=>if vs.contains i then s.map λp=>(p.1,false) else s
def give(e:Ex)(ρ:Env)(i:Nat)(d:D):Env:=
 if noL d then ρ.set i (some (d,false)) else if Tq e d then ρ.set i (some (d,true)) else (unown (Aj e) ρ).set i (some (d,false))
mutual
def Qgb:Sm->Nat->Bool
 |.ret e,k=>k==1&&Co e
 |.ife _ a b,k=>Cv a k&&Cv b k
 |.for1 _ _ b,k=>Cv b k
 |.for2 _ _ _ b,k=>Cv b k
 |.retK _ _ _,_=>false
 |.tryN _ _ _,_=>false
 |.tryB _ _,_=>false
 |.tryH _ _ _ _ _ _,_=>false
 |_,_=>true
def Cv:Sms->Nat->Bool
 |.nil,_=>true
 |.cons a r,k=>Qgb a k&&Cv r k
end
inductive Fl where
 |nx (ρ:Env)|rt (d:D)
def C4(f:D->Env->R Fl):List D->Env->R Fl
 |[],ρ=>.ok (.nx ρ)
 |x::r,ρ=>f x ρ >>= λk=>match k with
  |.nx ρ'=>C4 f r ρ'
  |.rt d=>.ok (.rt d)
abbrev Xl:=Str×Option D
def E7(f:D->Env->R Fl)(g:D->Env->Option Xl):List D->Env->Option Xl
 |[],_=>none
 |x::r,ρ=>match g x ρ with
  |some l=>some l
  |none=>match f x ρ with
   |.ok (.nx ρ')=>E7 f g r ρ'
   |_=>none
def Qi(c k:Str):Bool:=k==c||k==("ValueError" : Str)
def exH(l:Xl):List Hm->Env->R Fl
 |[],ρ=>.ok (.nx ρ)
 |.ret1 c::_,_=>.ok (.rt (.bl (Qi l.1 c)))
def Vw:Ex->Option (Str×Exs)
 |.call f as=>some (f,as)
 |.b1 .len e=>Vw e
 |.op _ e _=>Vw e
 |_=>none
section
variable(C:Str->List D->R D)
def xE(e:Ex)(ρ:Env):Option Xl:=match Vw e with
 |some (f,as)=>match evs C as ρ with
  |.ok vs=>match C f vs with
   |.xn c d=>some (c,d)
   |_=>none
  |_=>none
 |none=>none
mutual
def exm:Sm->Env->R Fl
 |.asg i e,ρ=>ev C e ρ >>= λd=>.ok (.nx (give e ρ i d))
 |.app i e,ρ=>match ρ[i]? with
  |some (some (.lst xs,true))=>ev C e ρ >>= λd=>if noL d&&Av (xs.length+1) then .ok (.nx (ρ.set i (some (.lst (xs++[d]),true)))) else .un
  |_=>.un
 |.set i k v,ρ=>ev C v ρ >>= λd=>match ρ[i]? with
  |some (some (.lst xs,true))=>ev C k ρ >>= λq=>match q with
   |.int n=>match ixN xs.length n with
    |some j=>if noL d&&Bw xs then .ok (.nx (ρ.set i (some (.lst (xs.set j d),true)))) else .un
    |none=>.un
   |_=>.un
  |_=>.un
 |.exp e,ρ=>ev C e ρ >>= λ_=>.ok (.nx ρ)
 |.ret e,ρ=>ev C e ρ >>= λd=>.ok (.rt d)
 |.ife c a b,ρ=>tst C c ρ >>= λk=>if k then exs a ρ else exs b ρ
 |.for1 i it b,ρ=>evI C it ρ >>= λxs=>C4 (λx ρ=>exs b (ρ.set i (some (x,false)))) xs (unown (Ak it) ρ)
 | .for2 i j it b,ρ=>evI C it ρ >>= λxs=>C4 (λx ρ=>match x with
   |.tup [u,v]=>exs b ((ρ.set i (some (u,false))).set j (some (v,false)))
   | _=>.un) xs (unown (Ak it) ρ)
 |.retK mx a b,ρ=>ev C a ρ >>= λd=>match d with
  |.lst ds=>Qbj (λx=>ev C b (ρ++[some (x,false)])) ds >>= λks=>Qga mx ks ds >>= λr=>.ok (.rt r)
  |_=>.un
 |.rsI _ _,_=>.un
 |.tryN b _ _,ρ=>exs b ρ
 |.tryB b c,ρ=>match exs b ρ with
  |.ok fl=>.ok fl
  |_=>match xs b ρ with
   |some l=>if l.1=c then .ok (.rt (.bl true)) else .un
   |none=>.un
 |.tryH b _ _ _ us hs,ρ=>match exs b ρ with
  |.ok fl=>.ok fl
  |_=>match xs b ρ with
   |some l=>if us.contains l.1 then exH l hs (List.replicate ρ.length none) else .un
   |none=>.un
 |.rse _,_=>.un
 |.bad,_=>.un
def exs:Sms->Env->R Fl
 |.nil,ρ=>.ok (.nx ρ)
 |.cons a r,ρ=>exm a ρ >>= λk=>match k with
  |.nx ρ'=>exs r ρ'
  |.rt d=>.ok (.rt d)
def xm:Sm->Env->Option Xl
 |.rse c,_=>some (c,none)
 |.rsI c e,ρ=>match ev C e ρ with
  |.ok d=>if noL d then some (c,some d) else none
  |_=>none
 |.for2 i j it b,ρ=>match evI C it ρ with
  | .ok ds=>E7 (λx ρ=>match x with
    |.tup [u,v]=>exs b ((ρ.set i (some (u,false))).set j (some (v,false)))
    |_=>.un) (λx ρ=>match x with
    |.tup [u,v]=>xs b ((ρ.set i (some (u,false))).set j (some (v,false)))
    | _=>none) ds (unown (Ak it) ρ)
  |_=>none
 |.tryN b k c,ρ=>match xs b ρ with
  |some (x,some _)=>if x=k then some (c,none) else none
  |_=>none
 |.asg _ e,ρ=>xE C e ρ
 |.exp e,ρ=>xE C e ρ
 |.ret e,ρ=>xE C e ρ
 |.ife c a b,ρ=>match tst C c ρ with
  |.ok k=>if k then xs a ρ else xs b ρ
  |_=>none
 |_,_=>none
def xs:Sms->Env->Option Xl
 |.nil,_=>none
 |.cons a r,ρ=>match xm a ρ with
  |some c=>some c
  |none=>match exm a ρ with
   |.ok (.nx ρ')=>xs r ρ'
   |_=>none
end
end
structure Fn where
 ps:Nat
 n:Nat
 body:Sms
abbrev Tab:=List (Str×Fn)
def A2(fn:Fn)(ds:List D):Env:=(ds.map λd=>some (d,false))++List.replicate (fn.n-ds.length) none
def run(T:Tab):Nat->Str->List D->R D
 |0,_,_=>.un
 |n+1,f,ds=>match T.lookup f with
  |some fn=>if ds.length=fn.ps then match exs (run T n) fn.body (A2 fn ds) with
    |.ok k=>match k with
     |.nx _=>.ok .non
     |.rt d=>.ok d
    |_=>match xs (run T n) fn.body (A2 fn ds) with
     |some c=>.xn c.1 c.2
     |none=>.un
   else .un
  |none=>.un
mutual
def rsM:Sm->List Str
 |.rse c=>[c]
 |.rsI c _=>[c]
 |.tryN b k c=>k::c::N9 b
 |.tryB b c=>c::N9 b
 |.tryH b _ _ _ us _=>us++N9 b
 |.ife _ a b=>N9 a++N9 b
 |.for1 _ _ b=>N9 b
 |.for2 _ _ _ b=>N9 b
 |_=>[]
def N9:Sms->List Str
 |.nil=>[]
 |.cons a r=>rsM a++N9 r
end
def xnT(T:Tab):List Str:=T.flatMap λp=>N9 p.2.body
mutual
def tryB:Sm->Bool
 |.exp _=>true
 |.asg _ _=>true
 |.ife _ a b=>Cj a&&Cj b
 |_=>false
def Cj:Sms->Bool
 |.nil=>true
 |.cons a r=>tryB a&&Cj r
end
def okH:Hm->Bool
 |.ret1 c=>Tl.contains c||c==("ValueError" : Str)
mutual
def okD(T:Tab):Sm->Bool
 |.ife _ a b=>E8 T a&&E8 T b
 |.for1 _ _ b=>E8 T b
 |.for2 _ _ _ b=>E8 T b
 |.rse c=>(xnT T).contains c&&!(c==("BadFair" : Str))
 |.rsI c _=>c==("BadFair" : Str)&&(xnT T).contains c
 |.tryN b k c=>k==("BadFair" : Str)&&(xnT T).contains k&&(xnT T).contains c&&!(c==("BadFair" : Str))&&E8 T b&&Cj b&&!At b
 |.tryB b c=>!(c==("BadFair" : Str))&&(xnT T).contains c&&E8 T b&&Cj b&&!At b
 |.tryH b _ _ xF us hs=>xF==("FairError" : Str)&&us.all (λc=>(xnT T).contains c)&&E8 T b&&Cj b&&hs.all okH
 |_=>true
def E8(T:Tab):Sms->Bool
 |.nil=>true
 |.cons a r=>okD T a&&E8 T r
end
end
end Lf
namespace Lf
open PySem (Str Scope NameKind Expr Stmt Comprehension)
def L9(sc:Scope)(x:Str):Bool:=match sc.names.lookup x with
 |some .local=>true
 |some .cell=>true
 |some .free=>true
 |_=>false
def Zl(sc:Scope)(x:Str):Bool:=match sc.names.lookup x with
 |some .local=>true
 |some .cell=>true
 |_=>false
def Ax(sc:Scope)(x:Str):Bool:=sc.names.lookup x==some .globalImplicit
def Bh(Ar sc:Scope):Scope:=
 { Ar with names:=Ar.names.map λ(n,k)=>if (k==.free&&sc.kind==.function&&sc.names.lookup n==some .cell) then (n,.cell) else (n,k) }
def Ly(n:Nat):Str:=⟨(List.replicate (n+1) 35).toArray⟩
def Ar(N xs:List Str):List Str:=N.map (λy=>if xs.contains y then Ly N.length else y)++xs
def Ew(Ar sc:Scope)(N xs:List Str):Bool:=
 Ar.kind==.function&&sc.kind==.function&&Ar.names.all (λy=>y.2 != .cell||xs.contains y.1)&&xs.all (λx=>Ar.names.lookup x==some .local||Ar.names.lookup x==some .cell)
  && Ar.names.all (λy=>y.2 != .local||Ar.names.lookup y.1==some .local&&(xs.contains y.1||!N.contains y.1))
  && Ar.names.all (λy=>y.2 != .free||L9 sc y.1&&sc.names.lookup y.1 != some .local&&!xs.contains y.1)
  && !L9 (Bh Ar sc) (Ly N.length)
def Qgc(scope sc:Scope)(N:List Str)(x:Str):Bool:=
 scope.kind==.function&&!scope.isCoroutine&&!scope.isGenerator&&scope.names.all (λy=>y.2 != .cell)&&scope.names.lookup x==some .local
  && scope.names.all (λy=>y.2 != .local||y.1==x)&&scope.names.all (λy=>y.2 != .free||L9 sc y.1&&sc.names.lookup y.1 != some .local)&&!N.contains x
def opB:Op->Option PySem.Operator
 |.add=>some .Add
 |.sub=>some .Sub
 |.mul=>some .Mult
 |.mod=>some .Mod
 |.div=>some .FloorDiv
 |_=>none
def opC:Op->Option PySem.CmpOp
 |.eq=>some .Eq
 |.ne=>some .NotEq
 |.lt=>some .Lt
 |.le=>some .LtE
 |.gt=>some .Gt
 |.ge=>some .GtE
 |.isin=>some .In
 |.notin=>some .NotIn
 |_=>none
def b1N:B1->Str
 |.len => "len"
 |.tuple => "tuple"
 |.list => "list"
 |.sorted => "sorted"
 |.int => "int"
 |.str => "str"
def m1N:M1->Str
 |.index => "index"
 |.count => "count"
def tyN:Ty->Str
 |.int => "int"
 |.bool => "bool"
 |.list => "list"
 |.tuple => "tuple"
 |.str => "str"
def Cw:Ex->Bool
 |.ife _ _ _=>false
 |.and a b=>Cw a&&Cw b
 |.or a b=>Cw a&&Cw b
 |.not a=>Cw a
 |_=>true
def Qgd:Stmt->Option (Expr×Expr×PySem.Pos)
 |.Assign [t] v p=>some (t,v,p)
 |_=>none
def Tr:Stmt->Option (Expr×PySem.Pos)
 |.Return (some v) p=>some (v,p)
 |_=>none
def Lz:Expr->Option (Expr×List Expr×List PySem.Keyword×PySem.Pos)
 |.Call f as ks p=>some (f,as,ks,p)
 |_=>none
def Vx:Expr->Option (Expr×Str×PySem.Pos)
 |.Attribute o m p=>some (o,m,p)
 |_=>none
def Ya:Expr->Option (Expr×Expr×PySem.Pos)
 |.Subscript o k p=>some (o,k,p)
 |_=>none
def gNm:Expr->Option (Str×PySem.Pos)
 |.Name x p=>some (x,p)
 |_=>none
def Qj3:Expr->Option (PySem.Arguments×Expr×Scope×PySem.Pos)
 |.Lambda a b s p=>some (a,b,s,p)
 |_=>none
def g1{α:Type}:List α->Option α
 |[a]=>some a
 |_=>none
def g0{α:Type}:List α->Option Unit
 |[]=>some ()
 |_=>none
theorem A3{α:Type}{P:Prop}{q:α}(h:none=some q):P:=nomatch h
theorem Zm{s:Stmt}{q:Expr×Expr×PySem.Pos}(h:Qgd s=some q):s=.Assign [q.1] q.2.1 q.2.2:=by
 cases s with
 |Assign ts v p=>
  cases ts with
  |nil=>exact A3 h
  |cons t r=>
   cases r with
   |nil=>cases h;rfl
   |cons _ _=>exact A3 h
 |_=>exact A3 h
theorem Ri{s:Stmt}{q:Expr×PySem.Pos}(h:Tr s=some q):s=.Return (some q.1) q.2:=by
 cases s with
 |Return v p=>
  cases v with
  |none=>exact A3 h
  |some v=>cases h;rfl
 |_=>exact A3 h
theorem H8{e:Expr}{q:Expr×List Expr×List PySem.Keyword×PySem.Pos}(h:Lz e=some q):e=.Call q.1 q.2.1 q.2.2.1 q.2.2.2:=by
 cases e with
 |Call f as ks p=>cases h;rfl
 |_=>exact A3 h
theorem Og{e:Expr}{q:Expr×Str×PySem.Pos}(h:Vx e=some q):e=.Attribute q.1 q.2.1 q.2.2:=by
 cases e with
 |Attribute o m p=>cases h;rfl
 |_=>exact A3 h
theorem Zn{e:Expr}{q:Expr×Expr×PySem.Pos}(h:Ya e=some q):e=.Subscript q.1 q.2.1 q.2.2:=by
 cases e with
 |Subscript o m p=>cases h;rfl
 |_=>exact A3 h
theorem Cf{e:Expr}{q:Str×PySem.Pos}(h:gNm e=some q):e=.Name q.1 q.2:=by
 cases e with
 |Name x p=>cases h;rfl
 |_=>exact A3 h
theorem Dt{α:Type}{l:List α}{a:α}(h:g1 l=some a):l=[a]:=by
 cases l with
 |nil=>exact A3 h
 |cons b r=>
  cases r with
  |nil=>cases h;rfl
  |cons _ _=>exact A3 h
theorem G5{α:Type}{l:List α}{u:Unit}(h:g0 l=some u):l=[]:=by
 cases l with
 |nil=>rfl
 |cons _ _=>exact A3 h
def Qbm:Stmt->Option (Expr×PySem.Pos)
 |.Expr v p=>some (v,p)
 |_=>none
def Pu:Expr->Option (List Expr×Nat×PySem.Pos)
 |.Tuple es k p=>some (es,k,p)
 |_=>none
def g2{α:Type}:List α->Option (α×α)
 |[a,b]=>some (a,b)
 |_=>none
def Qge:Stmt->Option (Expr×Expr×List Stmt×List Stmt×PySem.Pos)
 |.For t i b e p=>some (t,i,b,e,p)
 |_=>none
theorem Vy{s:Stmt}{q:Expr×PySem.Pos}(h:Qbm s=some q):s=.Expr q.1 q.2:=by
 cases s with
 |Expr v p=>cases h;rfl
 |_=>exact A3 h
theorem Na{e:Expr}{q:List Expr×Nat×PySem.Pos}(h:Pu e=some q):e=.Tuple q.1 q.2.1 q.2.2:=by
 cases e with
 |Tuple es k p=>cases h;rfl
 |_=>exact A3 h
theorem Oh{α:Type}{l:List α}{q:α×α}(h:g2 l=some q):l=[q.1,q.2]:=by
 cases l with
 |nil=>exact A3 h
 |cons b r=>
  cases r with
  |nil=>exact A3 h
  |cons c r=>
   cases r with
   |nil=>cases h;rfl
   |cons _ _=>exact A3 h
theorem Zo{s:Stmt}{q:Expr×Expr×List Stmt×List Stmt×PySem.Pos}(h:Qge s=some q):s=.For q.1 q.2.1 q.2.2.1 q.2.2.2.1 q.2.2.2.2:=by
 cases s with
 |For t i b e p=>cases h;rfl
 |_=>exact A3 h
theorem A1{α β:Type}{o:Option α}{f:α->Option β}{b:β}(h:o.bind f=some b):∃a,o=some a/\f a=some b:=by
 cases o with
 |none=>exact A3 h
 |some a=>exact⟨a,rfl,h⟩
structure AppQ where
 x:Str
 p:PySem.Pos
 m:Str
 p':PySem.Pos
 v:Expr
 q:PySem.Pos
 pos:PySem.Pos
def Zp(s:Stmt):Option AppQ:=
 (Qbm s).bind λa=>(Lz a.1).bind λc=>(Vx c.1).bind λt=>(gNm t.1).bind λx=>(g1 c.2.1).bind λv=>(g0 c.2.2.1).bind λ_=>some ⟨x.1,x.2,t.2.1,t.2.2,v,c.2.2.2,a.2⟩
theorem Zq{s:Stmt}{z:AppQ}(h:Zp s=some z):s=.Expr (.Call (.Attribute (.Name z.x z.p) z.m z.p') [z.v] [] z.q) z.pos:=by
 unfold Zp at h;obtain⟨a,h1,h⟩:=A1 h;obtain⟨c,h2,h⟩:=A1 h;obtain⟨t,h3,h⟩:=A1 h;obtain⟨x,h4,h⟩:=A1 h;obtain⟨v,h5,h⟩:=A1 h;obtain⟨_,h6,h⟩:=A1 h;cases h;rw[Vy h1,H8 h2,Og h3,Cf h4,Dt h5,G5 h6]
structure SetQ where
 x:Str
 p:PySem.Pos
 k:Expr
 sp:PySem.Pos
 v:Expr
 pos:PySem.Pos
def Zr(s:Stmt):Option SetQ:=
 (Qgd s).bind λa=>(Ya a.1).bind λu=>(gNm u.1).bind λx=>some ⟨x.1,x.2,u.2.1,u.2.2,a.2.1,a.2.2⟩
theorem Zs{s:Stmt}{z:SetQ}(h:Zr s=some z):s=.Assign [.Subscript (.Name z.x z.p) z.k z.sp] z.v z.pos:=by
 unfold Zr at h;obtain⟨a,h1,h⟩:=A1 h;obtain⟨u,h2,h⟩:=A1 h;obtain⟨x,h3,h⟩:=A1 h;cases h;rw[Zm h1,Zn h2,Cf h3]
structure ForQ where
 x:Str
 px:PySem.Pos
 y:Str
 py:PySem.Pos
 k:Nat
 tp:PySem.Pos
 it:Expr
 b:List Stmt
 pos:PySem.Pos
def Oi(s:Stmt):Option ForQ:=
 (Qge s).bind λa=>(Pu a.1).bind λt=>(g2 t.1).bind λr=>(gNm r.1).bind λx=>(gNm r.2).bind λy=>(g0 a.2.2.2.1).bind λ_=>some ⟨x.1,x.2,y.1,y.2,t.2.1,t.2.2,a.2.1,a.2.2.1,a.2.2.2.2⟩
theorem Oj{s:Stmt}{z:ForQ}(h:Oi s=some z):s=.For (.Tuple [.Name z.x z.px,.Name z.y z.py] z.k z.tp) z.it z.b [] z.pos:=by
 unfold Oi at h;obtain⟨a,h1,h⟩:=A1 h;obtain⟨t,h2,h⟩:=A1 h;obtain⟨r,h3,h⟩:=A1 h;obtain⟨x,h4,h⟩:=A1 h;obtain⟨y,h5,h⟩:=A1 h;obtain⟨_,h6,h⟩:=A1 h;cases h;rw[Zo h1,Na h2,Oh h3,Cf h4,Cf h5,G5 h6]
structure RetQ where
 f:Str
 pf:PySem.Pos
 a:Expr
 k:Str
 x:Str
 ap:PySem.Pos
 b:Expr
 isc:Scope
 lp:PySem.Pos
 kp:PySem.Pos
 cp:PySem.Pos
 pos:PySem.Pos
def Qgf(a:PySem.Arguments):Option (Str×PySem.Pos):=match a with
 |⟨po,as,va,ko,kd,kw,df⟩=>(g0 po).bind λ_=>(g1 as).bind λy=>match y.annotation,va,kw with
  |none,none,none=>(g0 ko).bind λ_=>(g0 kd).bind λ_=>(g0 df).bind λ_=>some (y.arg,y.pos)
  |_,_,_=>none
def Qgg(s:Stmt):Option RetQ:=
 (Tr s).bind λr=>(Lz r.1).bind λc=>(gNm c.1).bind λf=>(g1 c.2.1).bind λa=>(g1 c.2.2.1).bind λk=>(Qj3 k.value).bind λl=>(Qgf l.1).bind λx=>k.arg.bind λkn=>some ⟨f.1,f.2,a,kn,x.1,x.2,l.2.1,l.2.2.1,l.2.2.2,k.pos,c.2.2.2,r.2⟩
def gCn(e:Expr):Option (Str×PySem.Pos×List Expr×PySem.Pos):=
 (Lz e).bind λc=>(gNm c.1).bind λf=>(g0 c.2.2.1).bind λ_=>some (f.1,f.2,c.2.1,c.2.2.2)
theorem Qj{e:Expr}{q:Str×PySem.Pos×List Expr×PySem.Pos}(h:gCn e=some q):e=.Call (.Name q.1 q.2.1) q.2.2.1 [] q.2.2.2:=by
 unfold gCn at h;obtain⟨c,h1,h⟩:=A1 h;obtain⟨f,h2,h⟩:=A1 h;obtain⟨_,h3,h⟩:=A1 h;cases h;rw[H8 h1,Cf h2,G5 h3]
def gC1(e:Expr):Option (Str×PySem.Pos×Expr×PySem.Pos):=
 (gCn e).bind λc=>(g1 c.2.2.1).bind λx=>some (c.1,c.2.1,x,c.2.2.2)
theorem G9{e:Expr}{q:Str×PySem.Pos×Expr×PySem.Pos}(h:gC1 e=some q):e=.Call (.Name q.1 q.2.1) [q.2.2.1] [] q.2.2.2:=by
 unfold gC1 at h;obtain⟨c,h1,h⟩:=A1 h;obtain⟨f,h2,h⟩:=A1 h;cases h;rw[Qj h1,Dt h2]
def R6{α:Type}:List α->Option (α×List α)
 |a::r=>some (a,r)
 |_=>none
theorem Vz{α:Type}{l:List α}{q:α×List α}(h:R6 l=some q):l=q.1::q.2:=by
 cases l with
 |nil=>exact A3 h
 |cons b r=>cases h;rfl
def gCS(e:Expr):Option (Str×PySem.Pos×Expr×List Expr×PySem.Pos):=
 (gCn e).bind λc=>(R6 c.2.2.1).bind λx=>some (c.1,c.2.1,x.1,x.2,c.2.2.2)
theorem Qdo{e:Expr}{q:Str×PySem.Pos×Expr×List Expr×PySem.Pos}(h:gCS e=some q):e=.Call (.Name q.1 q.2.1) (q.2.2.1::q.2.2.2.1) [] q.2.2.2.2:=by
 unfold gCS at h;obtain⟨c,h1,h⟩:=A1 h;obtain⟨f,h2,h⟩:=A1 h;cases h;rw[Qj h1,Vz h2]
def Ts(e:Expr):Option (Str×PySem.Pos×Expr×Str×PySem.Pos×PySem.Pos):=
 (gCn e).bind λc=>(g2 c.2.2.1).bind λx=>(gNm x.2).bind λy=>some (c.1,c.2.1,x.1,y.1,y.2,c.2.2.2)
theorem Rj{e:Expr}{q:Str×PySem.Pos×Expr×Str×PySem.Pos×PySem.Pos}(h:Ts e=some q):e=.Call (.Name q.1 q.2.1) [q.2.2.1,.Name q.2.2.2.1 q.2.2.2.2.1] [] q.2.2.2.2.2:=by
 unfold Ts at h;obtain⟨c,h1,h⟩:=A1 h;obtain⟨f,h2,h⟩:=A1 h;obtain⟨y,h3,h⟩:=A1 h;cases h;rw[Qj h1,Oh h2,Cf h3]
def La(e:Expr):Option (Expr×Str×PySem.Pos×Expr×PySem.Pos):=
 (Lz e).bind λc=>(Vx c.1).bind λt=>(g1 c.2.1).bind λx=>(g0 c.2.2.1).bind λ_=>some (t.1,t.2.1,t.2.2,x,c.2.2.2)
theorem J6{e:Expr}{q:Expr×Str×PySem.Pos×Expr×PySem.Pos}(h:La e=some q):e=.Call (.Attribute q.1 q.2.1 q.2.2.1) [q.2.2.2.1] [] q.2.2.2.2:=by
 unfold La at h;obtain⟨c,h1,h⟩:=A1 h;obtain⟨t,h2,h⟩:=A1 h;obtain⟨x,h3,h⟩:=A1 h;obtain⟨_,h4,h⟩:=A1 h;cases h;rw[H8 h1,Og h2,Dt h3,G5 h4]
def gRL(e:Expr):Option (Str×PySem.Pos×(Str×PySem.Pos×Expr×PySem.Pos)×PySem.Pos):=
 (gC1 e).bind λc=>(gC1 c.2.2.1).bind λd=>some (c.1,c.2.1,d,c.2.2.2)
theorem W0{e:Expr}{q:Str×PySem.Pos×(Str×PySem.Pos×Expr×PySem.Pos)×PySem.Pos}(h:gRL e=some q):e=.Call (.Name q.1 q.2.1) [.Call (.Name q.2.2.1.1 q.2.2.1.2.1) [q.2.2.1.2.2.1] [] q.2.2.1.2.2.2] [] q.2.2.2:=by
 unfold gRL at h;obtain⟨c,h1,h⟩:=A1 h;obtain⟨d,h2,h⟩:=A1 h;cases h;rw[G9 h1,G9 h2]
def Zt(e:Expr):Option (Str×PySem.Pos×Expr×Str×Expr×PySem.Pos×PySem.Pos):=
 (Lz e).bind λc=>(gNm c.1).bind λf=>(g1 c.2.1).bind λa=>(g1 c.2.2.1).bind λk=>k.arg.bind λkn=>some (f.1,f.2,a,kn,k.value,k.pos,c.2.2.2)
theorem Zu{e:Expr}{q:Str×PySem.Pos×Expr×Str×Expr×PySem.Pos×PySem.Pos}(h:Zt e=some q):e=.Call (.Name q.1 q.2.1) [q.2.2.1] [⟨some q.2.2.2.1,q.2.2.2.2.1,q.2.2.2.2.2.1⟩] q.2.2.2.2.2.2:=by
 unfold Zt at h;obtain⟨c,h1,h⟩:=A1 h;obtain⟨f,h2,h⟩:=A1 h;obtain⟨a,h3,h⟩:=A1 h;obtain⟨k,h4,h⟩:=A1 h;obtain⟨kn,h5,h⟩:=A1 h;cases h;obtain⟨ka,kv,kp⟩:=k;simp only at h5;subst h5;rw[H8 h1,Cf h2,Dt h3,Dt h4]
def Qdp:Expr->Option (Expr×List PySem.CmpOp×List Expr×PySem.Pos)
 |.Compare a o b p=>some (a,o,b,p)
 |_=>none
theorem Rk{e:Expr}{q:Expr×List PySem.CmpOp×List Expr×PySem.Pos}(h:Qdp e=some q):e=.Compare q.1 q.2.1 q.2.2.1 q.2.2.2:=by
 cases e with
 |Compare a o b p=>cases h;rfl
 |_=>exact A3 h
def Zv:Expr->Option (PySem.Const×Nat×PySem.Pos)
 |.Constant c k p=>some (c,k,p)
 |_=>none
theorem Rl{e:Expr}{q:PySem.Const×Nat×PySem.Pos}(h:Zv e=some q):e=.Constant q.1 q.2.1 q.2.2:=by
 cases e with
 |Constant a o b=>cases h;rfl
 |_=>exact A3 h
def Zw(e:Expr):Option (Expr×(PySem.CmpOp×PySem.CmpOp)×(Expr×Expr)×PySem.Pos):=
 (Qdp e).bind λc=>(g2 c.2.1).bind λo=>(g2 c.2.2.1).bind λb=>some (c.1,o,b,c.2.2.2)
theorem Zx{e:Expr}{q:Expr×(PySem.CmpOp×PySem.CmpOp)×(Expr×Expr)×PySem.Pos}(h:Zw e=some q):e=.Compare q.1 [q.2.1.1,q.2.1.2] [q.2.2.1.1,q.2.2.1.2] q.2.2.2:=by
 unfold Zw at h;obtain⟨c,h1,h⟩:=A1 h;obtain⟨o,h2,h⟩:=A1 h;obtain⟨b,h3,h⟩:=A1 h;cases h;rw[Rk h1,Oh h2,Oh h3]
def gIs(e:Expr):Option (Expr×PySem.CmpOp×(PySem.Const×Nat×PySem.Pos)×PySem.Pos):=
 (Qdp e).bind λc=>(g1 c.2.1).bind λo=>(g1 c.2.2.1).bind λb=>(Zv b).bind λk=>some (c.1,o,k,c.2.2.2)
theorem Qdq{e:Expr}{q:Expr×PySem.CmpOp×(PySem.Const×Nat×PySem.Pos)×PySem.Pos}(h:gIs e=some q):e=.Compare q.1 [q.2.1] [.Constant q.2.2.1.1 q.2.2.1.2.1 q.2.2.1.2.2] q.2.2.2:=by
 unfold gIs at h;obtain⟨c,h1,h⟩:=A1 h;obtain⟨o,h2,h⟩:=A1 h;obtain⟨b,h3,h⟩:=A1 h;obtain⟨k,h4,h⟩:=A1 h;cases h;rw[Rk h1,Dt h2,Dt h3,Rl h4]
def gLC:Expr->Option (Expr×List Comprehension×Scope×PySem.Pos)
 |.ListComp a g s p=>some (a,g,s,p)
 |_=>none
theorem Qdr{e:Expr}{q:Expr×List Comprehension×Scope×PySem.Pos}(h:gLC e=some q):e=.ListComp q.1 q.2.1 q.2.2.1 q.2.2.2:=by
 cases e with
 |ListComp a o b p=>cases h;rfl
 |_=>exact A3 h
def Ol(e:Expr):Option (Expr×Comprehension×Scope×PySem.Pos):=
 (gLC e).bind λc=>(g1 c.2.1).bind λg=>some (c.1,g,c.2.2.1,c.2.2.2)
theorem Om{e:Expr}{q:Expr×Comprehension×Scope×PySem.Pos}(h:Ol e=some q):e=.ListComp q.1 [q.2.1] q.2.2.1 q.2.2.2:=by
 unfold Ol at h;obtain⟨c,h1,h⟩:=A1 h;obtain⟨g,h2,h⟩:=A1 h;cases h;rw[Qdr h1,Dt h2]
def gT2(e:Expr):Option ((Str×PySem.Pos)×(Str×PySem.Pos)×Nat×PySem.Pos):=
 (Pu e).bind λt=>(g2 t.1).bind λr=>(gNm r.1).bind λx=>(gNm r.2).bind λy=>some (x,y,t.2.1,t.2.2)
theorem Qds{e:Expr}{q:(Str×PySem.Pos)×(Str×PySem.Pos)×Nat×PySem.Pos}(h:gT2 e=some q):e=.Tuple [.Name q.1.1 q.1.2,.Name q.2.1.1 q.2.1.2] q.2.2.1 q.2.2.2:=by
 unfold gT2 at h;obtain⟨t,h1,h⟩:=A1 h;obtain⟨r,h2,h⟩:=A1 h;obtain⟨x,h3,h⟩:=A1 h;obtain⟨y,h4,h⟩:=A1 h;cases h;rw[Na h1,Oh h2,Cf h3,Cf h4]
def W1(x:Str)(e:Expr):Bool:=match e with
 |.Constant (.str y) _ _=>x==y
 |_=>false
def Qdt(e:Expr):Bool:=match e with
 |.Constant (.int i) _ _=>i==0
 |_=>false
mutual
def isE:Ex->Scope->List Str->Expr->Bool
 |.var i,sc,N,e=>match e with
  |.Name x _=>N[i]?==some x&&L9 sc x&&(x==("__debug__" : Str))==false&&(x==("__classdict__" : Str))==false
  |_=>false
 |.int i,_,_,e=>match e with
  |.Constant (.int j) _ _=>i==j
  |.UnaryOp .USub (.Constant (.int j) _ _) _=>i==-j
  |_=>false
 |.bl b,_,_,e=>match e with
  |.Constant (.bool c) _ _=>b==c
  |_=>false
 |.non,_,_,e=>match e with
  |.Constant .none _ _=>true
  |_=>false
 |.str x,_,_,e=>match e with
  |.Constant (.str y) _ _=>x==y
  |_=>false
 |.op o a b,sc,N,e=>match e with
  |.BinOp a' o' b' _=>opB o==some o'&&isE a sc N a'&&isE b sc N b'
  |.Compare a' [o'] [b'] _=>opC o==some o'&&isE a sc N a'&&isE b sc N b'
  |_=>false
 |.chn o o' a b c,sc,N,e=>match Zw e with
  |some q=>opC o==some q.2.1.1&&opC o'==some q.2.1.2&&isE a sc N q.1&&isE b sc N q.2.2.1.1&&isE c sc N q.2.2.1.2
  |none=>false
 |.isn neg a,sc,N,e=>match gIs e with
  |some q=>q.2.1==(if neg then .IsNot else .Is)&&q.2.2.1.1==.none&&isE a sc N q.1
  |none=>false
 |.and a b,sc,N,e=>match e with
  |.BoolOp .And [x,y] _=>isE a sc N x&&isE b sc N y
  |.BoolOp .And (x::y::z::r) pos=>isE a sc N x&&isE b sc N (.BoolOp .And (y::z::r) pos)
  |_=>false
 |.or a b,sc,N,e=>match e with
  |.BoolOp .Or [x,y] _=>isE a sc N x&&isE b sc N y
  |.BoolOp .Or (x::y::z::r) pos=>isE a sc N x&&isE b sc N (.BoolOp .Or (y::z::r) pos)
  |_=>false
 |.not a,sc,N,e=>match e with
  |.UnaryOp .Not x _=>isE a sc N x
  |_=>false
 |.ife c a b,sc,N,e=>match e with
  |.IfExp c' a' b' _=>Cw c&&isE c sc N c'&&isE a sc N a'&&isE b sc N b'
  |_=>false
 |.call f as,sc,N,e=>match gCS e with
  |some q=>f==q.1&&Ax sc q.1&&(q.1==("__debug__" : Str))==false&&D7 as sc N (q.2.2.1::q.2.2.2.1)
  |none=>false
 |.b1 f a,sc,N,e=>match gC1 e with
  |some q=>b1N f==q.1&&Ax sc q.1&&isE a sc N q.2.2.1
  |none=>false
 |.ins t a,sc,N,e=>match Ts e with
  |some q=>q.1==("isinstance" : Str)&&Ax sc q.1&&q.2.2.2.1==tyN t&&Ax sc q.2.2.2.1&&isE a sc N q.2.2.1
  |none=>false
 |.idx a b,sc,N,e=>match e with
  |.Subscript a' b' _=>isE a sc N a'&&isE b sc N b'
  |_=>false
 |.slc a lo hi,sc,N,e=>match e with
  |.Subscript a' (.Slice l h none _) _=>isE a sc N a'&&isO lo sc N l&&isO hi sc N h
  |_=>false
 |.m1 m o a,sc,N,e=>match La e with
  |some q=>(q.2.2.1.endLine==q.2.2.2.2.line)&&m1N m==q.2.1&&isE o sc N q.1&&isE a sc N q.2.2.2.1
  |none=>false
 |.tup as,sc,N,e=>match e with
  |.Tuple es _ _=>D7 as sc N es
  |_=>false
 |.lst as,sc,N,e=>match e with
  |.List es _=>D7 as sc N es
  |_=>false
 |.comp two elt it ifs,sc,N,e=>match Ol e with
  |some ⟨elt',⟨tg,iter,ifs',k⟩,isc,_⟩=>k==0&&match two with
   |false=>match gNm tg with
    |some q=>Ew isc sc N [q.1]&&decide (Ar N [q.1]).Nodup&&isI it sc N tg iter&&Nb ifs (Bh isc sc) (Ar N [q.1]) ifs'&&isE elt (Bh isc sc) (Ar N [q.1]) elt'
    |none=>false
   |true=>match gT2 tg with
    |some q=>Ew isc sc N [q.1.1,q.2.1.1]&&decide (Ar N [q.1.1,q.2.1.1]).Nodup&&isI it sc N tg iter&&Nb ifs (Bh isc sc) (Ar N [q.1.1,q.2.1.1]) ifs'&&isE elt (Bh isc sc) (Ar N [q.1.1,q.2.1.1]) elt'
    |none=>false
  |none=>false
 |.rep a b,sc,N,e=>match e with
  |.BinOp (.List [x] _) .Mult n _=>isE a sc N x&&isE b sc N n
  |_=>false
 |.cst i,sc,_,e=>match e with
  |.Name x _=>(match K0[i]? with|some p=>p.1==x|none=>false)&&Ax sc x&&(x==("__debug__" : Str))==false
  |_=>false
 |.jn x a,sc,N,e=>match La e with
  |some q=>(q.2.2.1.endLine==q.2.2.2.2.line)&&q.2.1==("join" : Str)&&W1 x q.1&&isE a sc N q.2.2.2.1
  |none=>false
 |.spl a c,sc,N,e=>match La e with
  |some q=>(q.2.2.1.endLine==q.2.2.2.2.line)&&q.2.1==("split" : Str)&&isE a sc N q.1&&W1 ⟨#[c]⟩ q.2.2.2.1
  |none=>false
 |.endw a c,sc,N,e=>match La e with
  |some q=>(q.2.2.1.endLine==q.2.2.2.2.line)&&q.2.1==("endswith" : Str)&&isE a sc N q.1&&W1 ⟨#[c]⟩ q.2.2.2.1
  |none=>false
 |.lset a,sc,N,e=>match gRL e with
  |some q=>q.1==("len" : Str)&&Ax sc q.1&&q.2.2.1.1==("set" : Str)&&Ax sc q.2.2.1.1&&isE a sc N q.2.2.1.2.2.1
  |none=>false
 |.maxd a,sc,N,e=>match Zt e with
  |some q=>q.1==("max" : Str)&&Ax sc q.1&&q.2.2.2.1==("default" : Str)&&Qdt q.2.2.2.2.1&&isE a sc N q.2.2.1
  |none=>false
 |.revS a,sc,N,e=>match gRL e with
  |some q=>q.1==("list" : Str)&&Ax sc q.1&&q.2.2.1.1==("reversed" : Str)&&Ax sc q.2.2.1.1&&isE a sc N q.2.2.1.2.2.1
  |none=>false
def D7:Exs->Scope->List Str->List Expr->Bool
 |.nil,_,_,es=>match es with
  |[]=>true
  |_=>false
 |.cons a r,sc,N,es=>match es with
  |x::xs=>isE a sc N x&&D7 r sc N xs
  |_=>false
def isO:Exs->Scope->List Str->Option Expr->Bool
 |.nil,_,_,o=>match o with
  |none=>true
  |_=>false
 |.cons a .nil,sc,N,o=>match o with
  |some x=>isE a sc N x
  |none=>false
 |_,_,_,_=>false
def Nb:Exs->Scope->List Str->List Expr->Bool
 |.nil,_,_,es=>match es with
  |[]=>true
  |_=>false
 |.cons a r,sc,N,es=>match es with
  |x::xs=>Cw a&&isE a sc N x&&Nb r sc N xs
  |_=>false
def isI:It->Scope->List Str->Expr->Expr->Bool
 |.seq a,sc,N,_,e=>isE a sc N e
 |.rng a,sc,N,_,e=>match gC1 e with
  |some q=>q.1==("range" : Str)&&Ax sc q.1&&isE a sc N q.2.2.1
  |none=>false
 |.enu a,sc,N,tg,e=>match gC1 e with
  |some q=>(Pu tg).isSome&&q.1==("enumerate" : Str)&&Ax sc q.1&&isE a sc N q.2.2.1
  |none=>false
end
section
variable{sc:Scope}{N:List Str}{e:Expr}
theorem H9{f:Str}{as:Exs}(h:isE (.call f as) sc N e=true):∃g p x es q,e=.Call (.Name g p) (x::es) [] q/\(f==g&&Ax sc g&&(g==("__debug__" : Str))==false&&D7 as sc N (x::es))=true:=by
 unfold isE at h
 cases z:gCS e with
 |none=>rw[z] at h;cases h
 |some q=>rw[z] at h;exact⟨_,_,_,_,_,Qdo z,h⟩
theorem On{f:B1}{a:Ex}(h:isE (.b1 f a) sc N e=true):∃g p x q,e=.Call (.Name g p) [x] [] q/\(b1N f==g&&Ax sc g&&isE a sc N x)=true:=by
 unfold isE at h
 cases z:gC1 e with
 |none=>rw[z] at h;cases h
 |some q=>rw[z] at h;exact⟨_,_,_,_,G9 z,h⟩
theorem Nc{t:Ty}{a:Ex}(h:isE (.ins t a) sc N e=true):∃g p x y r q,e=.Call (.Name g p) [x,.Name y r] [] q/\(g==("isinstance" : Str)&&Ax sc g&&y==tyN t&&Ax sc y&&isE a sc N x)=true:=by
 unfold isE at h
 cases z:Ts e with
 |none=>rw[z] at h;cases h
 |some q=>rw[z] at h;exact⟨_,_,_,_,_,_,Rj z,h⟩
theorem Rm{m:M1}{o a:Ex}(h:isE (.m1 m o a) sc N e=true):∃o' m' p x q,e=.Call (.Attribute o' m' p) [x] [] q/\((p.endLine==q.line)&&m1N m==m'&&isE o sc N o'&&isE a sc N x)=true:=by
 unfold isE at h
 cases z:La e with
 |none=>rw[z] at h;cases h
 |some q=>rw[z] at h;exact⟨_,_,_,_,_,J6 z,h⟩
theorem J7{a:Ex}(h:isE (.lset a) sc N e=true):∃g p r p' x q' q,e=.Call (.Name g p) [.Call (.Name r p') [x] [] q'] [] q/\(g==("len" : Str)&&Ax sc g&&r==("set" : Str)&&Ax sc r&&isE a sc N x)=true:=by
 unfold isE at h
 cases z:gRL e with
 |none=>rw[z] at h;cases h
 |some q=>rw[z] at h;exact⟨_,_,_,_,_,_,_,W0 z,h⟩
theorem J8{a:Ex}(h:isE (.revS a) sc N e=true):∃g p r p' x q' q,e=.Call (.Name g p) [.Call (.Name r p') [x] [] q'] [] q/\(g==("list" : Str)&&Ax sc g&&r==("reversed" : Str)&&Ax sc r&&isE a sc N x)=true:=by
 unfold isE at h
 cases z:gRL e with
 |none=>rw[z] at h;cases h
 |some q=>rw[z] at h;exact⟨_,_,_,_,_,_,_,W0 z,h⟩
theorem J9{a:Ex}(h:isE (.maxd a) sc N e=true):∃g p x kn kv kp q,e=.Call (.Name g p) [x] [⟨some kn,kv,kp⟩] q/\(g==("max" : Str)&&Ax sc g&&kn==("default" : Str)&&Qdt kv&&isE a sc N x)=true:=by
 unfold isE at h
 cases z:Zt e with
 |none=>rw[z] at h;cases h
 |some q=>rw[z] at h;exact⟨_,_,_,_,_,_,_,Zu z,h⟩
theorem Rn{x:Str}{a:Ex}(h:isE (.jn x a) sc N e=true):∃o' p y q,e=.Call (.Attribute o' "join" p) [y] [] q/\((p.endLine==q.line)&&isE (.str x) sc N o'&&isE a sc N y)=true:=by
 unfold isE at h
 cases z:La e with
 |none=>rw[z] at h;cases h
 |some q=>
  rw[z] at h;simp only[Bool.and_eq_true,beq_iff_eq] at h;obtain⟨⟨⟨h1,h2⟩,h3⟩,h4⟩:=h;have e:=J6 z;rw[h2] at e;exact⟨_,_,_,_,e,by rw[h1,beq_self_eq_true,h4,show isE (.str x) sc N q.1=true by unfold isE;exact h3];rfl⟩
theorem Nd{a:Ex}{c:Nat}(h:isE (.spl a c) sc N e=true):∃o' p y q,e=.Call (.Attribute o' "split" p) [y] [] q/\((p.endLine==q.line)&&isE a sc N o'&&isE (.str ⟨#[c]⟩) sc N y)=true:=by
 unfold isE at h
 cases z:La e with
 |none=>rw[z] at h;cases h
 |some q=>
  rw[z] at h;simp only[Bool.and_eq_true,beq_iff_eq] at h;obtain⟨⟨⟨h1,h2⟩,h3⟩,h4⟩:=h;have e:=J6 z;rw[h2] at e;exact⟨_,_,_,_,e,by rw[h1,beq_self_eq_true,h3,show isE (.str ⟨#[c]⟩) sc N q.2.2.2.1=true by unfold isE;exact h4];rfl⟩
theorem Ja{a:Ex}{c:Nat}(h:isE (.endw a c) sc N e=true):∃o' p y q,e=.Call (.Attribute o' "endswith" p) [y] [] q/\((p.endLine==q.line)&&isE a sc N o'&&isE (.str ⟨#[c]⟩) sc N y)=true:=by
 unfold isE at h
 cases z:La e with
 |none=>rw[z] at h;cases h
 |some q=>
  rw[z] at h;simp only[Bool.and_eq_true,beq_iff_eq] at h;obtain⟨⟨⟨h1,h2⟩,h3⟩,h4⟩:=h;have e:=J6 z;rw[h2] at e;exact⟨_,_,_,_,e,by rw[h1,beq_self_eq_true,h3,show isE (.str ⟨#[c]⟩) sc N q.2.2.2.1=true by unfold isE;exact h4];rfl⟩
theorem Nf{o o':Op}{a b c:Ex}(h:isE (.chn o o' a b c) sc N e=true):∃a' p p' b' c' q,e=.Compare a' [p,p'] [b',c'] q/\(opC o==some p&&opC o'==some p'&&isE a sc N a'&&isE b sc N b'&&isE c sc N c')=true:=by
 unfold isE at h
 cases z:Zw e with
 |none=>rw[z] at h;cases h
 |some q=>rw[z] at h;exact⟨_,_,_,_,_,_,Zx z,h⟩
theorem Ng{neg:Bool}{a:Ex}(h:isE (.isn neg a) sc N e=true):∃a' o k p q,e=.Compare a' [o] [.Constant .none k p] q/\(o==(if neg then .IsNot else .Is)&&isE a sc N a')=true:=by
 unfold isE at h
 cases z:gIs e with
 |none=>rw[z] at h;cases h
 |some q=>
  rw[z] at h;simp only[Bool.and_eq_true,beq_iff_eq] at h;obtain⟨⟨h1,h2⟩,h3⟩:=h;exact⟨_,_,_,_,_,h2 ▸ Qdq z,by rw[h1,h3,beq_self_eq_true];rfl⟩
theorem Zy{two:Bool}{elt:Ex}{it:It}{ifs:Exs}(h:isE (.comp two elt it ifs) sc N e=true):∃a g s p,e=.ListComp a g s p:=by
 unfold isE at h
 cases z:Ol e with
 |none=>rw[z] at h;cases h
 |some q=>exact⟨_,_,_,_,Om z⟩
theorem W2{a:Ex}{tg:Expr}(h:isI (.rng a) sc N tg e=true):∃g p x q,e=.Call (.Name g p) [x] [] q/\(g==("range" : Str)&&Ax sc g&&isE a sc N x)=true:=by
 unfold isI at h
 cases z:gC1 e with
 |none=>rw[z] at h;cases h
 |some q=>rw[z] at h;exact⟨_,_,_,_,G9 z,h⟩
theorem W3{a:Ex}{tg:Expr}(h:isI (.enu a) sc N tg e=true):∃es n t g p x q,tg=.Tuple es n t/\e=.Call (.Name g p) [x] [] q/\(g==("enumerate" : Str)&&Ax sc g&&isE a sc N x)=true:=by
 unfold isI at h
 cases z:gC1 e with
 |none=>rw[z] at h;cases h
 |some q=>
  rw[z] at h
  cases y:Pu tg with
  |none=>rw[y] at h;cases h
  |some t=>rw[y] at h;exact⟨_,_,_,_,_,_,_,Na y,G9 z,h⟩
end
def Ro:Ex->Bool
 |.comp _ _ _ _=>false
 |_=>true
def Hy(sc:Scope)(N:List Str)(i:Nat)(x:Str):Bool:=N[i]?==some x&&Zl sc x
def W4(s:Stmt):Option (Str×PySem.Pos×Str×Nat×PySem.Pos×PySem.Pos×PySem.Pos):=match s with
 |.Raise (some v) none p=>(gC1 v).bind λc=>(Zv c.2.2.1).bind λk=>match k.1 with
  |.str m=>some (c.1,c.2.1,m,k.2.1,k.2.2,c.2.2.2,p)
  |_=>none
 |_=>none
theorem Rp{s:Stmt}{q:Str×PySem.Pos×Str×Nat×PySem.Pos×PySem.Pos×PySem.Pos}(h:W4 s=some q):s=.Raise (some (.Call (.Name q.1 q.2.1) [.Constant (.str q.2.2.1) q.2.2.2.1 q.2.2.2.2.1] [] q.2.2.2.2.2.1)) none q.2.2.2.2.2.2:=by
 cases s with
 |Raise v c p=>
  cases v with
  |none=>exact A3 h
  |some v=>
   cases c with
   |some c=>exact A3 h
   |none=>
    have h':((gC1 v).bind λc=>(Zv c.2.2.1).bind λk=>match k.1 with
     |.str m=>some (c.1,c.2.1,m,k.2.1,k.2.2,c.2.2.2,p)
     | _=>none)=some q:=h
    obtain⟨c,h1,h'⟩:=A1 h';obtain⟨k,h2,h'⟩:=A1 h';obtain⟨kc,kn,kp⟩:=k
    cases kc with
    |str m=>
     cases h';rw[G9 h1,Rl h2]
    |_=>exact A3 h'
 |_=>exact A3 h
def Rq:Stmt->Option (List Stmt×List PySem.ExceptHandler×List Stmt×List Stmt×PySem.Pos)
 |.Try b h o f p=>some (b,h,o,f,p)
 |_=>none
theorem K4{s:Stmt}{q:List Stmt×List PySem.ExceptHandler×List Stmt×List Stmt×PySem.Pos}(h:Rq s=some q):s=.Try q.1 q.2.1 q.2.2.1 q.2.2.2.1 q.2.2.2.2:=by
 cases s with
 |Try b h o f p=>cases h;rfl
 |_=>exact A3 h
def Qdu(s:Stmt):Option (Str×PySem.Pos×Expr×PySem.Pos×PySem.Pos):=match s with
 |.Raise (some v) none p=>(gC1 v).bind λc=>some (c.1,c.2.1,c.2.2.1,c.2.2.2,p)
 |_=>none
theorem Zz{s:Stmt}{q:Str×PySem.Pos×Expr×PySem.Pos×PySem.Pos}(h:Qdu s=some q):s=.Raise (some (.Call (.Name q.1 q.2.1) [q.2.2.1] [] q.2.2.2.1)) none q.2.2.2.2:=by
 cases s with
 |Raise v c p=>
  cases v with
  |none=>exact A3 h
  |some v=>
   cases c with
   |some c=>exact A3 h
   |none=>
    have h':((gC1 v).bind λc=>some (c.1,c.2.1,c.2.2.1,c.2.2.2,p))=some q:=h
    obtain⟨c,h1,h'⟩:=A1 h';cases h';rw[G9 h1]
 |_=>exact A3 h
def Qgh(s:Stmt):Option ((Str×PySem.Pos×Str×Nat×PySem.Pos×PySem.Pos×PySem.Pos)×Nat×PySem.Pos):=match s with
 |.Raise v (some (.Constant .none k2 p2)) p=>(W4 (.Raise v none p)).bind λq=>some (q,k2,p2)
 |_=>none
theorem Qa0{s:Stmt}{q:(Str×PySem.Pos×Str×Nat×PySem.Pos×PySem.Pos×PySem.Pos)×Nat×PySem.Pos}(h:Qgh s=some q):s=.Raise (some (.Call (.Name q.1.1 q.1.2.1) [.Constant (.str q.1.2.2.1) q.1.2.2.2.1 q.1.2.2.2.2.1] [] q.1.2.2.2.2.2.1)) (some (.Constant .none q.2.1 q.2.2)) q.1.2.2.2.2.2.2:=by
 cases s with
 |Raise v c p=>
  cases c with
  |none=>exact A3 h
  |some c=>
   cases c with
   |Constant c k2 p2=>
    cases c with
    |none=>
     have h':((W4 (.Raise v none p)).bind λq=>some (q,k2,p2))=some q:=h
     obtain⟨c,h1,h'⟩:=A1 h';cases h';have e:=Rp h1;injection e with e1 e2 e3
     rw[e1,e3]
    |_=>exact A3 h
   |_=>exact A3 h
 |_=>exact A3 h
def Qdv:PySem.ExceptHandler->Option (Expr×List Stmt×PySem.Pos)
 |.ExceptHandler (some t) none b p=>some (t,b,p)
 |_=>none
theorem Rr{s:PySem.ExceptHandler}{q:Expr×List Stmt×PySem.Pos}(h:Qdv s=some q):s=.ExceptHandler (some q.1) none q.2.1 q.2.2:=by
 cases s with
 |ExceptHandler t n b p=>
  cases t with
  |none=>exact A3 h
  |some t=>
   cases n with
   |some n=>exact A3 h
   |none=>cases h;rfl
def Qgi:PySem.ExceptHandler->Option (Expr×Str×List Stmt×PySem.Pos)
 |.ExceptHandler (some t) (some n) b p=>some (t,n,b,p)
 |_=>none
theorem Qa1{s:PySem.ExceptHandler}{q:Expr×Str×List Stmt×PySem.Pos}(h:Qgi s=some q):s=.ExceptHandler (some q.1) (some q.2.1) q.2.2.1 q.2.2.2:=by
 cases s with
 |ExceptHandler t n b p=>
  cases t with
  |none=>exact A3 h
  |some t=>
   cases n with
   |none=>exact A3 h
   |some n=>cases h;rfl
structure TryN where
 b:List Stmt
 x:Str
 p0:PySem.Pos
 r:(Str×PySem.Pos×Str×Nat×PySem.Pos×PySem.Pos×PySem.Pos)×Nat×PySem.Pos
 hp:PySem.Pos
 tp:PySem.Pos
def Oo(s:Stmt):Option TryN:=
 (Rq s).bind λt=>(g1 t.2.1).bind λh=>(g0 t.2.2.1).bind λ_=>(g0 t.2.2.2.1).bind λ_=>(Qdv h).bind λh=>(gNm h.1).bind λx=>(g1 h.2.1).bind λr=>(Qgh r).bind λr=>some ⟨t.1,x.1,x.2,r,h.2.2,t.2.2.2.2⟩
theorem Oq{s:Stmt}{q:TryN}(h:Oo s=some q):s=.Try q.b [.ExceptHandler (some (.Name q.x q.p0)) none
  [.Raise (some (.Call (.Name q.r.1.1 q.r.1.2.1) [.Constant (.str q.r.1.2.2.1) q.r.1.2.2.2.1 q.r.1.2.2.2.2.1] [] q.r.1.2.2.2.2.2.1)) (some (.Constant .none q.r.2.1 q.r.2.2)) q.r.1.2.2.2.2.2.2] q.hp] [] [] q.tp:=by
 unfold Oo at h;obtain⟨t,h1,h⟩:=A1 h;obtain⟨hd,h2,h⟩:=A1 h;obtain⟨_,h3,h⟩:=A1 h;obtain⟨_,h4,h⟩:=A1 h;obtain⟨hh,h5,h⟩:=A1 h;obtain⟨x,h6,h⟩:=A1 h;obtain⟨r,h7,h⟩:=A1 h;obtain⟨r',h8,h⟩:=A1 h;cases h;rw[K4 h1,Dt h2,G5 h3,G5 h4,Rr h5,Cf h6,Dt h7,Qa0 h8]
structure TryB where
 b:List Stmt
 x:Str
 p0:PySem.Pos
 v:Expr
 rp:PySem.Pos
 hp:PySem.Pos
 tp:PySem.Pos
def Rs(s:Stmt):Option TryB:=
 (Rq s).bind λt=>(g1 t.2.1).bind λh=>(g0 t.2.2.1).bind λ_=>(g0 t.2.2.2.1).bind λ_=>(Qdv h).bind λh=>(gNm h.1).bind λx=>(g1 h.2.1).bind λr=>(Tr r).bind λr=>some ⟨t.1,x.1,x.2,r.1,r.2,h.2.2,t.2.2.2.2⟩
theorem W5{s:Stmt}{q:TryB}(h:Rs s=some q):s=.Try q.b [.ExceptHandler (some (.Name q.x q.p0)) none [.Return (some q.v) q.rp] q.hp] [] [] q.tp:=by
 unfold Rs at h;obtain⟨t,h1,h⟩:=A1 h;obtain⟨hd,h2,h⟩:=A1 h;obtain⟨_,h3,h⟩:=A1 h;obtain⟨_,h4,h⟩:=A1 h;obtain⟨hh,h5,h⟩:=A1 h;obtain⟨x,h6,h⟩:=A1 h;obtain⟨r,h7,h⟩:=A1 h;obtain⟨r',h8,h⟩:=A1 h;cases h;rw[K4 h1,Dt h2,G5 h3,G5 h4,Rr h5,Cf h6,Dt h7,Ri h8]
structure TryH where
 b:List Stmt
 x:Str
 p0:PySem.Pos
 n:Str
 hb:List Stmt
 hp:PySem.Pos
 tp:PySem.Pos
def Rt(s:Stmt):Option TryH:=
 (Rq s).bind λt=>(g1 t.2.1).bind λh=>(g0 t.2.2.1).bind λ_=>(g0 t.2.2.2.1).bind λ_=>(Qgi h).bind λh=>(gNm h.1).bind λx=>some ⟨t.1,x.1,x.2,h.2.1,h.2.2.1,h.2.2.2,t.2.2.2.2⟩
theorem W6{s:Stmt}{q:TryH}(h:Rt s=some q):s=.Try q.b [.ExceptHandler (some (.Name q.x q.p0)) (some q.n) q.hb q.hp] [] [] q.tp:=by
 unfold Rt at h;obtain⟨t,h1,h⟩:=A1 h;obtain⟨hd,h2,h⟩:=A1 h;obtain⟨_,h3,h⟩:=A1 h;obtain⟨_,h4,h⟩:=A1 h;obtain⟨hh,h5,h⟩:=A1 h;obtain⟨x,h6,h⟩:=A1 h;cases h;rw[K4 h1,Dt h2,G5 h3,G5 h4,Qa1 h5,Cf h6]
def W7(n:Str)(sc:Scope):List Str->List Expr->Bool
 |[],[]=>true
 | c::cs,e::es=>(match Ts e with
  |some q=>q.1==("isinstance" : Str)&&q.2.2.2.1==c&&Ax sc c&&(c==("__debug__" : Str))==false&&(match gNm q.2.2.1 with|some y=>y.1==n|none=>false)
  | none=>false)&&W7 n sc cs es
 |_,_=>false
def Hj(i:Nat):Hm->Bool
 |.ret1 _=>true
def isH(n:Str)(sc:Scope)(N:List Str):Hm->Stmt->Bool
 |.ret1 c,s=>match Tr s with
  |some q=>W7 n sc [c] [q.1]
  |none=>false
def Os(n:Str)(sc:Scope)(N:List Str):List Hm->List Stmt->Bool
 |[],[]=>true
 |h::hs,s::ss=>isH n sc N h s&&Os n sc N hs ss
 |_,_=>false
mutual
def isS:Sm->Scope->List Str->Stmt->Bool
 |.asg i e,sc,N,s=>match s with
  |.Assign [.Name x _] v _=>Hy sc N i x&&isE e sc N v
  |_=>false
 |.app i e,sc,N,s=>match Zp s with
  |some q=>(q.p'.endLine==q.q.line)&&q.m==("append" : Str)&&isE (.var i) sc N (.Name q.x q.p)&&isE e sc N q.v
  |none=>false
 |.set i k v,sc,N,s=>match Zr s with
  |some q=>isE (.var i) sc N (.Name q.x q.p)&&isE k sc N q.k&&isE v sc N q.v&&Ro v
  |none=>false
 |.exp e,sc,N,s=>match s with
  |.Expr v _=>isE e sc N v&&Ro e
  |_=>false
 |.ret e,sc,N,s=>match s with
  |.Return (some v) _=>isE e sc N v
  |_=>false
 |.ife c a b,sc,N,s=>match s with
  |.If c' a' b' _=>Cw c&&isE c sc N c'&&G3 a sc N a'&&G3 b sc N b'
  |_=>false
 |.for1 i it b,sc,N,s=>match s with
  |.For (.Name x p) iter body [] _=>Hy sc N i x&&isI it sc N (.Name x p) iter&&G3 b sc N body
  |_=>false
 |.for2 i j it b,sc,N,s=>match Oi s with
  |some q=>Hy sc N i q.x&&Hy sc N j q.y&&isI it sc N (.Tuple [.Name q.x q.px,.Name q.y q.py] q.k q.tp) q.it&&G3 b sc N q.b
  |none=>false
 |.retK mx a b,sc,N,s=>match Qgg s with
  |some q=>(q.f==if mx then ("max" : Str) else ("sorted" : Str))&&Ax sc q.f&&q.k==("key" : Str)&&Qgc q.isc sc N q.x&&isE a sc N q.a&&isE b q.isc (N++[q.x]) q.b
  |none=>false
 |.rse c,sc,_,s=>match W4 s with
  |some q=>c==q.1&&Ax sc q.1&&(q.1==("__debug__" : Str))==false
  |none=>false
 |.rsI c e,sc,N,s=>match Qdu s with
  |some q=>c==q.1&&Ax sc q.1&&(q.1==("__debug__" : Str))==false&&isE e sc N q.2.2.1
  |none=>false
 |.tryN b k c,sc,N,s=>match Oo s with
  |some q=>k==q.x&&Ax sc k&&(k==("__debug__" : Str))==false&&c==q.r.1.1&&Ax sc c&&(c==("__debug__" : Str))==false&&G3 b sc N q.b
  |none=>false
 |.tryH b i n xF _ hs,sc,N,s=>match Rt s with
  |some q=>n==q.n&&N[i]?==some n&&sc.names.lookup n==some .local&&(n==("__debug__" : Str))==false&&(n==("__classdict__" : Str))==false&&xF==q.x&&Ax sc xF&&(xF==("__debug__" : Str))==false
    && Ax sc "isinstance" && !hs.isEmpty&&hs.all (Hj i)&&Os n sc N hs q.hb&&G3 b sc N q.b
  |none=>false
 |.tryB b c,sc,N,s=>match Rs s with
  |some q=>c==q.x&&Ax sc c&&(c==("__debug__" : Str))==false&&isE (.bl true) sc N q.v&&G3 b sc N q.b
  |none=>false
 |.bad,_,_,_=>true
def G3:Sms->Scope->List Str->List Stmt->Bool
 |.nil,_,_,ss=>match ss with
  |[]=>true
  |_=>false
 |.cons a r,sc,N,ss=>match ss with
  |x::xs=>isS a sc N x&&G3 r sc N xs
  |_=>false
end
def Nh(N ps:List Str)(sc:Scope):Bool:=
 sc.kind==.function&&sc.isCoroutine==false&&sc.isGenerator==false&&decide N.Nodup&&N.take ps.length==ps
  && ps.all (Zl sc)&&sc.names.all (λy=>y.2 != .free)
end Lf
namespace Lf
open PySem PySem.Spec PyProof.Rows L2
abbrev Frag:=PySem.W.Frag
def SqF(K:Frag)(H:Hp)(a:Addr)(xs:List V):Prop:=
 (∃o,H a=some (.frz o (.lst xs))) \/
  ∃(o:Obj) (its:Array Value) (n:Nat),K.lookup a=some o/\o.cls=.type "list" /\ o.dict=none/\o.data=.seq its n/\its.size<=sizeLine/\Ab xs its.toList
mutual
def Rep(K:Frag)(H:Hp):D->V->List Addr->Prop
 |.non,v,F=>v=.non/\F=[]
 |.bl b,v,F=>v=.bl b/\F=[]
 |.int i,v,F=>v=.int i/\F=[]
 |.str x,v,F=>v=.str x/\F=[]
 |.tup ds,v,F=>∃a vs,v=.ref a/\SqT K H a vs/\A5 K H ds vs F
 |.lst ds,v,F=>∃a vs F',v=.ref a/\A5 K H ds vs F'/\((H a=some (.lst vs)/\F=a::F')\/(SqF K H a vs/\F=F'))
def A5(K:Frag)(H:Hp):List D->List V->List Addr->Prop
 |[],vs,F=>vs=[]/\F=[]
 |d::ds,vs,F=>∃v r F1 F2,vs=v::r/\F=F1++F2/\Rep K H d v F1/\A5 K H ds r F2
end
section
variable{K:Frag}{H H':Hp}
theorem SqF.seq{a:Addr}{xs:List V}(h:SqF K H a xs):SqL K H a xs:=by
 rcases h with⟨o,h⟩|h
 ·exact .inl (.inr ⟨o,h⟩)
 ·exact .inr h
def Kp(S:Addr->Prop)(H H':Hp):Prop:=(∀b o,H b=some o->¬S b->H' b=some o)/\∀b,S b->∃xs,H b=some (.lst xs)
theorem Kp.tup{S:Addr->Prop}(k:Kp S H H'){a:Addr}{xs:List V}(h:SqT K H a xs):SqT K H' a xs:=by
 rcases h with(h|⟨o,h⟩)|h
 ·exact .inl (.inl (k.1 _ _ h λz=>by obtain⟨ys,e⟩:=k.2 _ z;rw[h] at e;cases e))
 ·exact .inl (.inr ⟨o,k.1 _ _ h λz=>by obtain⟨ys,e⟩:=k.2 _ z;rw[h] at e;cases e⟩)
 ·exact .inr h
theorem Kp.frz{S:Addr->Prop}(k:Kp S H H'){a:Addr}{xs:List V}(h:SqF K H a xs):SqF K H' a xs:=by
 rcases h with⟨o,h⟩|h
 ·exact .inl ⟨o,k.1 _ _ h λz=>by obtain⟨ys,e⟩:=k.2 _ z;rw[h] at e;cases e⟩
 ·exact .inr h
theorem Kp.of_same(h:A6 H H'):Kp (λ_=>False) H H':=⟨λb o e _=>h b o e,λ_ z=>z.elim⟩
mutual
theorem Rep.keep{S:Addr->Prop}(k:Kp S H H'):∀{d:D} {v:V} {F:List Addr},Rep K H d v F->(∀a∈F,¬S a)->Rep K H' d v F
 |.non,_,_,h,_=>h
 |.bl _,_,_,h,_=>h
 |.int _,_,_,h,_=>h
 |.str _,_,_,h,_=>h
 |.tup ds,v,F,h,n=>by
  obtain⟨a,vs,e,hq,r⟩:=h;exact⟨a,vs,e,k.tup hq,A5.keep k r n⟩
 |.lst ds,v,F,h,n=>by
  obtain⟨a,vs,F',e,r,q⟩:=h;rcases q with⟨q,z⟩|⟨q,z⟩
  ·subst z
   exact⟨a,vs,F',e,A5.keep k r λb hb=>n b (List.mem_cons_of_mem _ hb),.inl ⟨k.1 _ _ q (n a List.mem_cons_self),rfl⟩⟩
  ·subst z
   exact⟨a,vs,_,e,A5.keep k r n,.inr ⟨k.frz q,rfl⟩⟩
theorem A5.keep{S:Addr->Prop}(k:Kp S H H'):∀{ds:List D} {vs:List V} {F:List Addr},A5 K H ds vs F->(∀a∈F,¬S a)->A5 K H' ds vs F
 |[],_,_,h,_=>h
 |d::ds,vs,F,h,n=>by
  obtain⟨v,r,F1,F2,e1,e2,h1,h2⟩:=h;subst e2;exact⟨v,r,F1,F2,e1,rfl,Rep.keep k h1 λa ha=>n a (List.mem_append_left _ ha),A5.keep k h2 λa ha=>n a (List.mem_append_right _ ha)⟩
end
theorem Rep.same(s:A6 H H'){d:D}{v:V}{F:List Addr}(h:Rep K H d v F):Rep K H' d v F:=h.keep (.of_same s) λ_ _ z=>z
theorem A5.same(s:A6 H H'){d:List D}{v:List V}{F:List Addr}(h:A5 K H d v F):A5 K H' d v F:=h.keep (.of_same s) λ_ _ z=>z
mutual
theorem Rep.lists:∀{d:D} {v:V} {F:List Addr},Rep K H d v F->∀a∈F,∃xs,H a=some (.lst xs)
 |.non,_,_,h,a,ha=>by obtain⟨_,rfl⟩:=h;cases ha
 |.bl _,_,_,h,a,ha=>by obtain⟨_,rfl⟩:=h;cases ha
 |.int _,_,_,h,a,ha=>by obtain⟨_,rfl⟩:=h;cases ha
 |.str _,_,_,h,a,ha=>by obtain⟨_,rfl⟩:=h;cases ha
 |.tup ds,v,F,h,a,ha=>by
  obtain⟨_,vs,_,_,r⟩:=h;exact A5.lists r a ha
 |.lst ds,v,F,h,a,ha=>by
  obtain⟨b,vs,F',_,r,q⟩:=h;rcases q with⟨q,rfl⟩|⟨q,rfl⟩
  ·rcases List.mem_cons.mp ha with rfl|ha
   ·exact⟨vs,q⟩
   ·exact A5.lists r a ha
  ·exact A5.lists r a ha
theorem A5.lists:∀{ds:List D} {vs:List V} {F:List Addr},A5 K H ds vs F->∀a∈F,∃xs,H a=some (.lst xs)
 |[],_,_,h,a,ha=>by obtain⟨_,rfl⟩:=h;cases ha
 |d::ds,vs,F,h,a,ha=>by
  obtain⟨v,r,F1,F2,_,rfl,h1,h2⟩:=h;rcases List.mem_append.mp ha with ha|ha
  ·exact Rep.lists h1 a ha
  ·exact A5.lists h2 a ha
end
mutual
theorem Rep.noL:∀{d:D} {v:V} {F:List Addr},Rep K H d v F->noL d=true->F=[]
 |.non,_,_,h,_=>h.2
 |.bl _,_,_,h,_=>h.2
 |.int _,_,_,h,_=>h.2
 |.str _,_,_,h,_=>h.2
 |.tup ds,v,F,h,n=>by
  obtain⟨_,vs,_,_,r⟩:=h;exact A5.noL r (by simpa [Lf.noL] using n)
 |.lst ds,v,F,h,n=>by simp[Lf.noL] at n
theorem A5.noL:∀{ds:List D} {vs:List V} {F:List Addr},A5 K H ds vs F->Bw ds=true->F=[]
 |[],_,_,h,_=>h.2
 |d::ds,vs,F,h,n=>by
  obtain⟨v,r,F1,F2,_,rfl,h1,h2⟩:=h;simp[Bw] at n;rw[Rep.noL h1 n.1,A5.noL h2 n.2];rfl
end
theorem A5.length:∀{ds:List D} {vs:List V} {F:List Addr},A5 K H ds vs F->ds.length=vs.length
 |[],_,_,h=>by obtain⟨rfl,_⟩:=h;rfl
 |d::ds,vs,F,h=>by
  obtain⟨v,r,F1,F2,rfl,_,_,h2⟩:=h;simp[A5.length h2]
theorem A5.get:∀{ds:List D} {vs:List V} {F:List Addr} {i:Nat} {d:D},A5 K H ds vs F->ds[i]?=some d->∃v F1,vs[i]?=some v/\Rep K H d v F1/\∀a∈F1,a∈F
 |[],_,_,_,_,_,e=>by simp at e
 |d::ds,vs,F,0,x,h,e=>by
  obtain⟨v,r,F1,F2,rfl,rfl,h1,_⟩:=h;simp at e;subst e;exact⟨v,F1,rfl,h1,λa ha=>List.mem_append_left _ ha⟩
 |d::ds,vs,F,i+1,x,h,e=>by
  obtain⟨v,r,F1,F2,rfl,rfl,_,h2⟩:=h;obtain⟨v',F',e',r',s'⟩:=A5.get (i:=i) h2 (by simpa using e)
  exact⟨v',F',by simpa using e',r',λa ha=>List.mem_append_right _ (s' a ha)⟩
theorem A5.append:∀{ds es:List D} {vs ws:List V} {F G:List Addr},A5 K H ds vs F->A5 K H es ws G->A5 K H (ds++es) (vs++ws) (F++G)
 |[],_,_,_,_,_,h,g=>by obtain⟨rfl,rfl⟩:=h;exact g
 |d::ds,es,vs,ws,F,G,h,g=>by
  obtain⟨v,r,F1,F2,rfl,rfl,h1,h2⟩:=h;exact⟨v,r++ws,F1,F2++G,rfl,by rw[List.append_assoc],h1,A5.append h2 g⟩
theorem A5.nil:A5 K H [] [] []:=⟨rfl,rfl⟩
theorem A5.cons{d:D}{ds:List D}{v:V}{vs:List V}{F G:List Addr}(h:Rep K H d v F)(g:A5 K H ds vs G):A5 K H (d::ds) (v::vs) (F++G):=⟨v,vs,F,G,rfl,rfl,h,g⟩
theorem A5.one{d:D}{v:V}{F:List Addr}(h:Rep K H d v F):A5 K H [d] [v] F:=by
 have:=A5.cons h (A5.nil (K:=K) (H:=H))
 rwa [List.append_nil] at this
theorem A5.drop:∀{ds:List D} {vs:List V} {F:List Addr} (n:Nat),A5 K H ds vs F->∃G,A5 K H (ds.drop n) (vs.drop n) G/\∀a∈G,a∈F
 |ds,vs,F,0,h=>⟨F,h,λ_ z=>z⟩
 |[],vs,F,n+1,h=>by obtain⟨rfl,rfl⟩:=h;exact⟨[],⟨rfl,rfl⟩,λ_ z=>z⟩
 |d::ds,vs,F,n+1,h=>by
  obtain⟨v,r,F1,F2,rfl,rfl,h1,h2⟩:=h;obtain⟨G,g,s⟩:=A5.drop n h2;exact⟨G,g,λa ha=>List.mem_append_right _ (s a ha)⟩
theorem A5.take:∀{ds:List D} {vs:List V} {F:List Addr} (n:Nat),A5 K H ds vs F->∃G,A5 K H (ds.take n) (vs.take n) G/\∀a∈G,a∈F
 |ds,vs,F,0,h=>⟨[],⟨rfl,rfl⟩,λ_ z=>nomatch z⟩
 |[],vs,F,n+1,h=>by obtain⟨rfl,rfl⟩:=h;exact⟨[],⟨rfl,rfl⟩,λ_ z=>z⟩
 |d::ds,vs,F,n+1,h=>by
  obtain⟨v,r,F1,F2,rfl,rfl,h1,h2⟩:=h;obtain⟨G,g,s⟩:=A5.take n h2;refine⟨F1++G,.cons h1 g,λa ha=>?_⟩
  rcases List.mem_append.mp ha with ha|ha
  ·exact List.mem_append_left _ ha
  ·exact List.mem_append_right _ (s a ha)
theorem A5.cut{ds:List D}{vs:List V}{F:List Addr}(lo hi:Option Int)(h:A5 K H ds vs F):∃G,A5 K H (Lf.cut ds lo hi) (L2.cutV vs lo hi) G/\∀a∈G,a∈F:=by
 have e:ds.length=vs.length:=h.length;have e1:∀n d o,Lf.sIx n d o=HT.sIx n d o:=λn d o=>by cases o<;>rfl
 unfold Lf.cut L2.cutV;rw[e,e1,e1];obtain⟨G,g,s⟩:=h.drop (HT.sIx vs.length 0 lo);obtain⟨G',g',s'⟩:=g.take (HT.sIx vs.length vs.length hi-HT.sIx vs.length 0 lo);exact⟨G',g',λa ha=>s a (s' a ha)⟩
theorem A5.set:∀{ds:List D} {vs:List V} {F G:List Addr} {d:D} {v:V} (n:Nat),A5 K H ds vs F->Rep K H d v G->∃F',A5 K H (ds.set n d) (vs.set n v) F'/\∀a∈F',a∈F\/a∈G
 |[],vs,F,G,d,v,n,h,g=>by obtain⟨rfl,rfl⟩:=h;exact⟨[],⟨rfl,rfl⟩,λ_ z=>nomatch z⟩
 |x::ds,vs,F,G,d,v,0,h,g=>by
  obtain⟨w,r,F1,F2,rfl,rfl,h1,h2⟩:=h;refine⟨G++F2,.cons g h2,λa ha=>?_⟩
  rcases List.mem_append.mp ha with ha|ha
  ·exact .inr ha
  ·exact .inl (List.mem_append_right _ ha)
 |x::ds,vs,F,G,d,v,n+1,h,g=>by
  obtain⟨w,r,F1,F2,rfl,rfl,h1,h2⟩:=h;obtain⟨F',h',s'⟩:=A5.set n h2 g;refine⟨F1++F',.cons h1 h',λa ha=>?_⟩
  rcases List.mem_append.mp ha with ha|ha
  ·exact .inl (List.mem_append_left _ ha)
  ·exact(s' a ha).imp (λz=>List.mem_append_right _ z) id
theorem Rep.seq{d:D}{ds:List D}{v:V}{F:List Addr}(h:Rep K H d v F)(e:Bo d=some ds):∃a vs F',v=.ref a/\A5 K H ds vs F'/\(SqL K H a vs\/SqT K H a vs)/\∀b∈F',b∈F:=by
 cases d with
 |lst xs=>
  cases e;obtain⟨a,vs,F',rfl,r,q⟩:=h;rcases q with⟨q,rfl⟩|⟨q,rfl⟩
  ·exact⟨a,vs,F',rfl,r,.inl (.of q),λb hb=>List.mem_cons_of_mem _ hb⟩
  ·exact⟨a,vs,_,rfl,r,.inl q.seq,λ_ z=>z⟩
 |tup xs=>
  cases e;obtain⟨a,vs,rfl,q,r⟩:=h;exact⟨a,vs,F,rfl,r,.inr q,λ_ z=>z⟩
 |_=>cases e
theorem Rep.lst_{ds:List D}{v:V}{F:List Addr}(h:Rep K H (.lst ds) v F):∃a vs F',v=.ref a/\A5 K H ds vs F'/\SqL K H a vs/\(∀b∈F',b∈F):=by
 obtain⟨a,vs,F',rfl,r,q⟩:=h;rcases q with⟨q,rfl⟩|⟨q,rfl⟩
 ·exact⟨a,vs,F',rfl,r,.of q,λb hb=>List.mem_cons_of_mem _ hb⟩
 ·exact⟨a,vs,_,rfl,r,q.seq,λ_ z=>z⟩
theorem Rep.new_lst{H:Hp}{p:Addr}{ds:List D}{vs:List V}{F:List Addr}(hp:H p=none)(h:A5 K H ds vs F):Rep K (upd H p (.lst vs)) (.lst ds) (.ref p) (p::F):=
 ⟨p,vs,F,rfl,h.same λb o e=>by rw[A7 (A8 e hp)];exact e,.inl ⟨Az,rfl⟩⟩
theorem Rep.new_tup{H:Hp}{p:Addr}{ds:List D}{vs:List V}{F:List Addr}(hp:H p=none)(h:A5 K H ds vs F):Rep K (upd H p (.tup vs)) (.tup ds) (.ref p) F:=
 ⟨p,vs,rfl,.of Az,h.same λb o e=>by rw[A7 (A8 e hp)];exact e⟩
theorem Ah{H:Hp}{p:Addr}{o:HO}(hp:H p=none):A6 H (upd H p o):=λb u e=>by rw[A7 (A8 e hp)];exact e
end
structure VR(K:Frag)(H:Hp)(σ:L2.St)(ρ:Env)(Fs:Nat->List Addr):Prop where
 len:σ.length=ρ.length
 val:∀i d o,ρ[i]?=some (some (d,o))->∃v,σ[i]?=some (some v)/\Rep K H d v (Fs i)
theorem VR.more{K:Frag}{H H':Hp}{σ:L2.St}{ρ:Env}{Fs:Nat->List Addr}(S:VR K H σ ρ Fs)(s:A6 H H'):VR K H' σ ρ Fs:=
 ⟨S.len,λi d o e=>by obtain⟨v,h1,h2⟩:=S.val i d o e;exact⟨v,h1,h2.same s⟩⟩
def Au(K:Frag)(H:Hp):List D->List V->List Addr->Prop
 |[],vs,G=>vs=[]/\G=[]
 |d::ds,vs,G=>∃es a ws r G',d=.lst es/\vs=.ref a::r/\G=a::G'/\H a=some (.lst ws)/\A5 K H es ws []/\a∉G'/\Au K H ds r G'
theorem W8{K:Frag}{H:Hp}:Au K H [] [] []:=⟨rfl,rfl⟩
theorem Au.keep'{K:Frag}{H H':Hp}:∀{ds:List D} {vs:List V} {G:List Addr},Au K H ds vs G->(∀a∈G,∀ws,H a=some (.lst ws)->H' a=some (.lst ws))->(∀es ws,A5 K H es ws []->A5 K H' es ws [])->Au K H' ds vs G
 |[],_,_,h,_,_=>h
 |d::ds,_,_,hD,k1,k2=>by
  obtain⟨es,a,ws,r,G',e1,e2,e3,e4,e5,e6,e7⟩:=hD;subst e3;exact⟨es,a,ws,r,G',e1,e2,rfl,k1 a List.mem_cons_self ws e4,k2 _ _ e5,e6,e7.keep' (λb hb=>k1 b (List.mem_cons_of_mem _ hb)) k2⟩
theorem Au.same{K:Frag}{H H':Hp}{ds:List D}{vs:List V}{G:List Addr}(h:Au K H ds vs G)(s:A6 H H'):Au K H' ds vs G:=h.keep' (λa _ ws e=>s _ _ e) λes ws r=>r.same s
theorem Fm{K:Frag}{H:Hp}{a:Addr}{xs ys:List V}(ha:H a=some (.lst xs)){es:List D}{ws:List V}(r:A5 K H es ws []):A5 K (upd H a (.lst ys)) es ws []:=
 r.keep (S:=λb=>b=a) ⟨λb o e n=>by rw[A7 n];exact e,λb z=>by rw[z];exact⟨xs,ha⟩⟩ (λ_ z=>nomatch z)
theorem Au.upd{K:Frag}{H:Hp}{a:Addr}{xs ys:List V}(ha:H a=some (.lst xs)){ds:List D}{vs:List V}{G:List Addr}(h:Au K H ds vs G)(hn:∀b∈G,b≠a):Au K (L2.upd H a (.lst ys)) ds vs G:=
 h.keep' (λb hb ws e=>by rw[A7 (hn b hb)];exact e) λes ws r=>Fm ha r
theorem Au.snoc{K:Frag}{H:Hp}:∀{ds:List D} {vs:List V} {G:List Addr} {es:List D} {ws:List V} {a:Addr},Au K H ds vs G->A5 K H es ws []->H a=some (.lst ws)->a∉G->Au K H (ds++[.lst es]) (vs++[.ref a]) (G++[a])
 |[],_,_,es,ws,a,⟨e1,e2⟩,r,ha,hn=>by
  subst e1;subst e2;exact⟨es,a,ws,[],[],rfl,rfl,rfl,ha,r,by simp,rfl,rfl⟩
 |d::ds,_,_,es,ws,a,hD,r,ha,hn=>by
  obtain⟨es',b,ws',r',G',e1,e2,e3,e4,e5,e6,e7⟩:=hD;subst e2;subst e3;rw[List.mem_cons,not_or] at hn;refine⟨es',b,ws',r'++[.ref a],G'++[a],e1,rfl,rfl,e4,e5,?_,e7.snoc r ha hn.2⟩;intro z;rcases List.mem_append.mp z with z|z
  ·exact e6 z
  ·exact hn.1 ((by simpa using z:b=a).symm)
structure SR(K:Frag)(B:Hp)(Al:Addr->Prop)(H:Hp)(σ:L2.St)(ρ:Env)(Fs:Nat->List Addr):Prop extends VR K H σ ρ Fs where
 al:∀i d o,ρ[i]?=some (some (d,o))->∀a∈Fs i,Al a
 own:∀i d,ρ[i]?=some (some (d,true))->(Fs i).Nodup/\(∀a∈Fs i,B a=none)/\(∀j d' o',j≠i->ρ[j]?=some (some (d',o'))->∀a∈Fs i,a∉Fs j)/\∃a F vs,Fs i=a::F/\σ[i]?=some (some (.ref a))/\H a=some (.lst vs)
 same:A6 B H
 fr:∀a,B a=none->Al a
 deep:∀i ds,ρ[i]?=some (some (.lst ds,true))->ds.all Dd=true->∃a F vs,Fs i=a::F/\σ[i]?=some (some (.ref a))/\H a=some (.lst vs)/\Au K H ds vs F
theorem SR.more{K:Frag}{B:Hp}{Al:Addr->Prop}{H H':Hp}{σ:L2.St}{ρ:Env}{Fs:Nat->List Addr}(S:SR K B Al H σ ρ Fs)(s:A6 H H'):SR K B Al H' σ ρ Fs:=
 ⟨S.toVR.more s,S.al,λi d h=>by obtain⟨p1,p2,p3,a,F,vs,q1,q2,q3⟩:=S.own i d h;exact⟨p1,p2,p3,a,F,vs,q1,q2,s _ _ q3⟩,S.same.trans s,S.fr,λi ds h z=>by obtain⟨a,F,vs,q1,q2,q3,q4⟩:=S.deep i ds h z;exact⟨a,F,vs,q1,q2,s _ _ q3,q4.same s⟩⟩
def Src(ρ:Env)(Fs:Nat->List Addr)(H:Hp)(vs:List Nat)(F:List Addr):Prop:=∀a∈F,H a=none\/∃i∈vs,(∃d o,ρ[i]?=some (some (d,o)))/\a∈Fs i
theorem Src.mono{ρ:Env}{Fs:Nat->List Addr}{H H':Hp}{vs ws:List Nat}{F G:List Addr}(h:Src ρ Fs H' vs F)(s:A6 H H')(hv:∀i∈vs,i∈ws)(hF:∀a∈G,a∈F):Src ρ Fs H ws G:=λa ha=>by
 rcases h a (hF a ha) with e|⟨i,hi,e⟩
 ·exact .inl (s.free e)
 ·exact .inr ⟨i,hv i hi,e⟩
theorem Src.app{ρ:Env}{Fs:Nat->List Addr}{H:Hp}{vs:List Nat}{F G:List Addr}(h:Src ρ Fs H vs F)(g:Src ρ Fs H vs G):Src ρ Fs H vs (F++G):=λa ha=>
 (List.mem_append.mp ha).elim (h a) (g a)
theorem Src.nil{ρ:Env}{Fs:Nat->List Addr}{H:Hp}{vs:List Nat}:Src ρ Fs H vs []:=λa ha=>nomatch ha
theorem Src.new{ρ:Env}{Fs:Nat->List Addr}{H:Hp}{vs:List Nat}{F:List Addr}{p:Addr}(hp:H p=none)(h:Src ρ Fs H vs F):Src ρ Fs H vs (p::F):=λa ha=>
 (List.mem_cons.mp ha).elim (λe=>.inl (e ▸ hp)) (h a)
def VQ(K:Frag)(ρ:Env)(Fs:Nat->List Addr)(H:Hp)(vs:List Nat)(fm:Bool)(d:D)(Q:VK):Prop:=
 ∀v H' F,A6 H H'->Rep K H' d v F->Src ρ Fs H vs F->(fm=true->∀ds,d=.lst ds->∃a F',F=a::F'/\H a=none)->Q v H'
section
variable(K:Frag)(C:Str->List D->R D)
def tE(p:Ex):TE:=λσ H Q=>∃ρ Fs d,VR K H σ ρ Fs/\ev C p ρ=.ok d/\VQ K ρ Fs H (Aj p) (Co p) d Q
def tEm(fm:Bool)(p:Ex):TE:=λσ H Q=>∃ρ Fs d,VR K H σ ρ Fs/\ev C p ρ=.ok d/\VQ K ρ Fs H (Aj p) fm d Q
def tT(p:Ex):TT:=λσ H Q=>∃ρ Fs b,VR K H σ ρ Fs/\tst C p ρ=.ok b/\∀H',A6 H H'->Q b H'
def tA(ps:Exs):TA:=λσ H Q=>∃ρ Fs ds,VR K H σ ρ Fs/\evs C ps ρ=.ok ds/\∀vs H' F,A6 H H'->A5 K H' ds vs F->Src ρ Fs H (Ev ps) F->Q vs H'
end
section
variable{X:Cx}{pins:List (Addr×Obj)}{σ:L2.St}{H:Hp}{s:Shared}
theorem Ru(I:Inv X pins σ H s){a:Addr}{xs ys:List V}(h:SqL X.K H a xs)(g:SqT X.K H a ys):False:=by
 obtain⟨its,r,⟨o,n,e,c,_⟩,_⟩:=I.list h;obtain⟨o',e',c',_⟩:=I.tupObj g;rw[e] at e';cases e';rw[c] at c';exact absurd c' (by decide)
mutual
theorem Rep.det(I:Inv X pins σ H s):∀{d d':D} {v:V} {F F':List Addr},Rep X.K H d v F->Rep X.K H d' v F'->d=d'
 |.non,d',v,F,F',h,g=>by
  obtain⟨rfl,_⟩:=h
  cases d' with
  |non=>rfl
  |bl b=>obtain⟨z,_⟩:=g;cases z
  |int b=>obtain⟨z,_⟩:=g;cases z
  |str b=>obtain⟨z,_⟩:=g;cases z
  |tup xs=>obtain⟨_,_,z,_⟩:=g;cases z
  |lst xs=>obtain⟨_,_,_,z,_⟩:=g;cases z
 |.bl _,d',v,F,F',h,g=>by
  obtain⟨rfl,_⟩:=h
  cases d' with
  |non=>obtain⟨z,_⟩:=g;cases z
  |bl b=>obtain⟨z,_⟩:=g;cases z;rfl
  |int b=>obtain⟨z,_⟩:=g;cases z
  |str b=>obtain⟨z,_⟩:=g;cases z
  |tup xs=>obtain⟨_,_,z,_⟩:=g;cases z
  |lst xs=>obtain⟨_,_,_,z,_⟩:=g;cases z
 |.int _,d',v,F,F',h,g=>by
  obtain⟨rfl,_⟩:=h
  cases d' with
  |non=>obtain⟨z,_⟩:=g;cases z
  |bl b=>obtain⟨z,_⟩:=g;cases z
  |int b=>obtain⟨z,_⟩:=g;cases z;rfl
  |str b=>obtain⟨z,_⟩:=g;cases z
  |tup xs=>obtain⟨_,_,z,_⟩:=g;cases z
  |lst xs=>obtain⟨_,_,_,z,_⟩:=g;cases z
 |.str _,d',v,F,F',h,g=>by
  obtain⟨rfl,_⟩:=h
  cases d' with
  |non=>obtain⟨z,_⟩:=g;cases z
  |bl b=>obtain⟨z,_⟩:=g;cases z
  |int b=>obtain⟨z,_⟩:=g;cases z
  |str b=>obtain⟨z,_⟩:=g;cases z;rfl
  |tup xs=>obtain⟨_,_,z,_⟩:=g;cases z
  |lst xs=>obtain⟨_,_,_,z,_⟩:=g;cases z
 |.tup ds,d',v,F,F',h,g=>by
  obtain⟨a,vs,rfl,q,r⟩:=h
  cases d' with
  |non=>obtain⟨z,_⟩:=g;cases z
  |bl b=>obtain⟨z,_⟩:=g;cases z
  |int b=>obtain⟨z,_⟩:=g;cases z
  |str b=>obtain⟨z,_⟩:=g;cases z
  |tup xs=>
   obtain⟨b,ws,z,q',r'⟩:=g;cases z;obtain rfl:=I.tuple_inj q q';rw[A5.det I r r']
  |lst xs=>
   obtain⟨b,ws,F2,z,r',q'⟩:=g.lst_;cases z;exact(Ru I q'.1 q).elim
 |.lst ds,d',v,F,F',h,g=>by
  obtain⟨a,vs,F1,rfl,r,q,_⟩:=h.lst_
  cases d' with
  |non=>obtain⟨z,_⟩:=g;cases z
  |bl b=>obtain⟨z,_⟩:=g;cases z
  |int b=>obtain⟨z,_⟩:=g;cases z
  |str b=>obtain⟨z,_⟩:=g;cases z
  |tup xs=>
   obtain⟨b,ws,z,q',r'⟩:=g;cases z;exact(Ru I q q').elim
  |lst xs=>
   obtain⟨b,ws,F2,z,r',q',_⟩:=g.lst_;cases z;obtain rfl:=I.list_inj q q';rw[A5.det I r r']
theorem A5.det(I:Inv X pins σ H s):∀{ds ds':List D} {vs:List V} {F F':List Addr},A5 X.K H ds vs F->A5 X.K H ds' vs F'->ds=ds'
 |[],ds',vs,F,F',h,g=>by
  obtain⟨rfl,_⟩:=h
  cases ds' with
  |nil=>rfl
  |cons d ds'=>obtain⟨_,_,_,_,z,_⟩:=g;cases z
 |d::ds,ds',vs,F,F',h,g=>by
  obtain⟨v,r,F1,F2,rfl,_,h1,h2⟩:=h
  cases ds' with
  |nil=>obtain⟨z,_⟩:=g;cases z
  |cons d' ds'=>
   obtain⟨v',r',F1',F2',z,_,g1,g2⟩:=g;cases z;rw[Rep.det I h1 g1,A5.det I h2 g2]
end
theorem E9:∀(xs ys:List D),xs.length=ys.length->G0 xs ys=(List.range xs.length).all λj=>eqD (xs.getD j .non) (ys.getD j .non)
 |[],[],_=>rfl
 |[],_::_,h=>by simp at h
 |_::_,[],h=>by simp at h
 |x::xs,y::ys,h=>by
  have ih:=E9 xs ys (by simpa using h)
  rw[List.length_cons,List.range_succ_eq_map,List.all_cons,List.all_map]
  show (eqD x y&&G0 xs ys)=_
  rw[ih];rfl
theorem Jb:∀(xs ys:List D),xs.length≠ys.length->G0 xs ys=false
 |[],[],h=>absurd rfl h
 |[],_::_,_=>rfl
 |_::_,[],_=>rfl
 |x::xs,y::ys,h=>by
  show (eqD x y&&G0 xs ys)=false
  rw[Jb xs ys (by simpa using h),Bool.and_false]
mutual
theorem K5:∀d:D,eqD d d=true
 |.non=>rfl
 |.bl b=>by simp[eqD]
 |.int i=>by simp[eqD]
 |.str x=>by simp[eqD]
 |.tup xs=>by simp only[eqD];exact Hz xs
 |.lst xs=>by simp only[eqD];exact Hz xs
theorem Hz:∀ds:List D,G0 ds ds=true
 |[]=>rfl
 |d::ds=>by simp only[G0];rw[K5 d,Hz ds];rfl
end
theorem Rv(xs ys:List D):((List.range (min xs.length ys.length)).all (λj=>eqD (xs.getD j .non) (ys.getD j .non))&&xs.length==ys.length)=G0 xs ys:=by
 by_cases h:xs.length=ys.length
 ·rw[<-h,Nat.min_self,beq_self_eq_true,Bool.and_true,E9 _ _ h]
 ·rw[Jb _ _ h,beq_eq_false_iff_ne.mpr h,Bool.and_false]
theorem Fo{ds:List D}{j:Nat}{d:D}(h:ds[j]?=some d):ds.getD j .non=d:=by
 rw[List.getD_eq_getElem?_getD,h];rfl
def Jc:D->D->Bool
 |.tup _,.tup _=>true
 |.lst _,.lst _=>true
 |_,_=>false
theorem Ot(I:Inv X pins σ H s)(A:Around)(d d':D)(v v':V)(F F':List Addr)(u u':Value)(hu:A.units<cLine)(hd:Jc d d'=false)(h:Rep X.K H d v F)(g:Rep X.K H d' v' F')(r:An v u)(r':An v' u') :
  SeqAt.RcAt A s u u' (eqD d d')/\SeqAt.EqAt A s u u' (eqD d d'):=by
 cases d with
 |tup xs=>
  obtain⟨a,vs,rfl,q,_⟩:=h;cases r;obtain⟨its,rv,p,_⟩:=I.tuple q
  cases d' with
  |non=>obtain⟨rfl,_⟩:=g;cases r';exact⟨SeqAt.RcAt.tuple_none p hu,SeqAt.EqAt.tuple_none p hu⟩
  |bl b=>obtain⟨rfl,_⟩:=g;cases r';exact⟨SeqAt.RcAt.tuple_bool b p hu,SeqAt.EqAt.tuple_bool b p hu⟩
  |int b=>obtain⟨rfl,_⟩:=g;obtain⟨t,rfl⟩:=r';exact⟨SeqAt.RcAt.tuple_int b t p hu,SeqAt.EqAt.tuple_int b t p hu⟩
  |str b=>obtain⟨rfl,_⟩:=g;obtain⟨t,rfl⟩:=r';exact⟨SeqAt.RcAt.tuple_str b t p hu,SeqAt.EqAt.tuple_str b t p hu⟩
  |lst ys=>
   obtain⟨b,ws,F2,rfl,_,q',_⟩:=g.lst_;cases r';obtain⟨its2,_,p2,_⟩:=I.list q';exact⟨SeqAt.RcAt.tuple_list p p2.isList hu,SeqAt.EqAt.tuple_list p p2.isList hu⟩
  |tup ys=>cases hd
 |lst xs=>
  obtain⟨a,vs,F1,rfl,_,q,_⟩:=h.lst_;cases r;obtain⟨its,rv,p,_⟩:=I.list q
  cases d' with
  |non=>obtain⟨rfl,_⟩:=g;cases r';exact⟨SeqAt.RcAt.list_none p.isList hu,SeqAt.EqAt.list_none p.isList hu⟩
  |bl b=>obtain⟨rfl,_⟩:=g;cases r';exact⟨SeqAt.RcAt.list_bool b p.isList hu,SeqAt.EqAt.list_bool b p.isList hu⟩
  |int b=>obtain⟨rfl,_⟩:=g;obtain⟨t,rfl⟩:=r';exact⟨SeqAt.RcAt.list_int b t p.isList hu,SeqAt.EqAt.list_int b t p.isList hu⟩
  |str b=>obtain⟨rfl,_⟩:=g;obtain⟨t,rfl⟩:=r';exact⟨SeqAt.RcAt.list_str b t p.isList hu,SeqAt.EqAt.list_str b t p.isList hu⟩
  |tup ys=>
   obtain⟨b,ws,rfl,q',_⟩:=g;cases r';obtain⟨its2,_,p2,_⟩:=I.tuple q';exact⟨SeqAt.RcAt.list_tuple p.isList p2 hu,SeqAt.EqAt.list_tuple p.isList p2 hu⟩
  |lst ys=>cases hd
 |non=>
  obtain⟨rfl,_⟩:=h;cases r
  cases d' with
  |non=>obtain⟨rfl,_⟩:=g;cases r';exact⟨SeqAt.RcAt.none_none,SeqAt.EqAt.same _⟩
  |bl b=>obtain⟨rfl,_⟩:=g;cases r';exact⟨SeqAt.RcAt.none_bool b,SeqAt.EqAt.none_bool b⟩
  |int b=>obtain⟨rfl,_⟩:=g;obtain⟨t,rfl⟩:=r';exact⟨SeqAt.RcAt.none_int b t,SeqAt.EqAt.none_int b t⟩
  |str b=>obtain⟨rfl,_⟩:=g;obtain⟨t,rfl⟩:=r';exact⟨SeqAt.RcAt.none_str b t,SeqAt.EqAt.none_str b t⟩
  |tup ys=>
   obtain⟨b,ws,rfl,q',_⟩:=g;cases r';obtain⟨its2,_,p2,_⟩:=I.tuple q';exact⟨SeqAt.RcAt.none_tuple p2 hu,SeqAt.EqAt.none_tuple p2 hu⟩
  |lst ys=>
   obtain⟨b,ws,F2,rfl,_,q',_⟩:=g.lst_;cases r';obtain⟨its2,_,p2,_⟩:=I.list q';exact⟨SeqAt.RcAt.none_list p2.isList hu,SeqAt.EqAt.none_list p2.isList hu⟩
 |bl c=>
  obtain⟨rfl,_⟩:=h;cases r
  cases d' with
  |non=>obtain⟨rfl,_⟩:=g;cases r';exact⟨SeqAt.RcAt.bool_none c,SeqAt.EqAt.bool_none c⟩
  |bl b=>obtain⟨rfl,_⟩:=g;cases r';exact⟨SeqAt.RcAt.bool_bool c b,SeqAt.EqAt.bool_bool c b⟩
  |int b=>obtain⟨rfl,_⟩:=g;obtain⟨t,rfl⟩:=r';exact⟨SeqAt.RcAt.bool_int c b t,SeqAt.EqAt.bool_int c b t⟩
  |str b=>obtain⟨rfl,_⟩:=g;obtain⟨t,rfl⟩:=r';exact⟨SeqAt.RcAt.bool_str c b t,SeqAt.EqAt.bool_str c b t⟩
  |tup ys=>
   obtain⟨b,ws,rfl,q',_⟩:=g;cases r';obtain⟨its2,_,p2,_⟩:=I.tuple q';exact⟨SeqAt.RcAt.bool_tuple c p2 hu,SeqAt.EqAt.bool_tuple c p2 hu⟩
  |lst ys=>
   obtain⟨b,ws,F2,rfl,_,q',_⟩:=g.lst_;cases r';obtain⟨its2,_,p2,_⟩:=I.list q';exact⟨SeqAt.RcAt.bool_list c p2.isList hu,SeqAt.EqAt.bool_list c p2.isList hu⟩
 |int c=>
  obtain⟨rfl,_⟩:=h;obtain⟨t0,rfl⟩:=r
  cases d' with
  |non=>obtain⟨rfl,_⟩:=g;cases r';exact⟨SeqAt.RcAt.int_none c t0,SeqAt.EqAt.int_none c t0⟩
  |bl b=>obtain⟨rfl,_⟩:=g;cases r';exact⟨SeqAt.RcAt.int_bool c t0 b,SeqAt.EqAt.int_bool c t0 b⟩
  |int b=>obtain⟨rfl,_⟩:=g;obtain⟨t,rfl⟩:=r';exact⟨SeqAt.RcAt.int_int c t0 b t,SeqAt.EqAt.int_int c t0 b t⟩
  |str b=>obtain⟨rfl,_⟩:=g;obtain⟨t,rfl⟩:=r';exact⟨SeqAt.RcAt.int_str c t0 b t,SeqAt.EqAt.int_str c t0 b t⟩
  |tup ys=>
   obtain⟨b,ws,rfl,q',_⟩:=g;cases r';obtain⟨its2,_,p2,_⟩:=I.tuple q';exact⟨SeqAt.RcAt.int_tuple c t0 p2 hu,SeqAt.EqAt.int_tuple c t0 p2 hu⟩
  |lst ys=>
   obtain⟨b,ws,F2,rfl,_,q',_⟩:=g.lst_;cases r';obtain⟨its2,_,p2,_⟩:=I.list q';exact⟨SeqAt.RcAt.int_list c t0 p2.isList hu,SeqAt.EqAt.int_list c t0 p2.isList hu⟩
 |str c=>
  obtain⟨rfl,_⟩:=h;obtain⟨t0,rfl⟩:=r
  cases d' with
  |non=>obtain⟨rfl,_⟩:=g;cases r';exact⟨SeqAt.RcAt.str_none c t0,SeqAt.EqAt.str_none c t0⟩
  |bl b=>obtain⟨rfl,_⟩:=g;cases r';exact⟨SeqAt.RcAt.str_bool c t0 b,SeqAt.EqAt.str_bool c t0 b⟩
  |int b=>obtain⟨rfl,_⟩:=g;obtain⟨t,rfl⟩:=r';exact⟨SeqAt.RcAt.str_int c t0 b t,SeqAt.EqAt.str_int c t0 b t⟩
  |str b=>obtain⟨rfl,_⟩:=g;obtain⟨t,rfl⟩:=r';exact⟨SeqAt.RcAt.str_str c t0 b t,SeqAt.EqAt.str_str c t0 b t⟩
  |tup ys=>
   obtain⟨b,ws,rfl,q',_⟩:=g;cases r';obtain⟨its2,_,p2,_⟩:=I.tuple q';exact⟨SeqAt.RcAt.str_tuple c t0 p2 hu,SeqAt.EqAt.str_tuple c t0 p2 hu⟩
  |lst ys=>
   obtain⟨b,ws,F2,rfl,_,q',_⟩:=g.lst_;cases r';obtain⟨its2,_,p2,_⟩:=I.list q';exact⟨SeqAt.RcAt.str_list c t0 p2.isList hu,SeqAt.EqAt.str_list c t0 p2.isList hu⟩
theorem Qdw(I:Inv X pins σ H s):∀(n:Nat) (A:Around) (d d':D) (v v':V) (F F':List Addr) (u u':Value),A.units+n<cLine->(lo n d||lo n d')=true->Rep X.K H d v F->Rep X.K H d' v' F'->An v u->An v' u' ->
  SeqAt.RcAt A s u u' (eqD d d')/\SeqAt.EqAt A s u u' (eqD d d'):=by
 intro n
 induction n with
 |zero=>
  intro A d d' v v' F F' u u' hu hl h g r r';refine Ot I A d d' v v' F F' u u' (by omega) ?_ h g r r'
  cases d<;>cases d'<;>first|rfl|cases hl
 |succ n ih=>
  intro A d d' v v' F F' u u' hu hl h g r r';have items:∀(xs ys:List D) (vs ws:List V) (G G':List Addr) (its its2:List Value),(xs.all (lo n)||ys.all (lo n))=true->A5 X.K H xs vs G->A5 X.K H ys ws G'->Ab vs its->Ab ws its2 ->
    ∀j (h1:j<its.toArray.size) (h2:j<its2.toArray.size),SeqAt.EqAt A.in1 s its.toArray[j] its2.toArray[j] (eqD (xs.getD j .non) (ys.getD j .non)):=by
   intro xs ys vs ws G G' its its2 hal hr hg hv hw j h1 h2;have l1:=hr.length;have l2:=hg.length;have l3:=hv.length;have l4:=hw.length;have b1:j<xs.length:=by simp at h1;omega
   have b2:j<ys.length:=by simp at h2;omega
   obtain⟨v1,G1,e1,p1,_⟩:=hr.get (List.getElem?_eq_getElem b1);obtain⟨v2,G2,e2,p2,_⟩:=hg.get (List.getElem?_eq_getElem b2);obtain⟨u1,f1,q1⟩:=hv.get e1;obtain⟨u2,f2,q2⟩:=hw.get e2;rw[Fo (List.getElem?_eq_getElem b1),Fo (List.getElem?_eq_getElem b2)];have a1:its.toArray[j]=u1:=by
    have:its[j]?=some its[j]:=List.getElem?_eq_getElem (by simpa using h1)
    rw[this] at f1;simpa using f1
   have a2:its2.toArray[j]=u2:=by
    have:its2[j]?=some its2[j]:=List.getElem?_eq_getElem (by simpa using h2)
    rw[this] at f2;simpa using f2
   rw[a1,a2];refine(ih A.in1 _ _ _ _ _ _ _ _ (by show A.units+1+n<cLine;omega) ?_ p1 p2 q1 q2).2
   rw[Bool.or_eq_true] at hal |-;exact hal.imp (λz=>List.all_eq_true.mp z _ (List.getElem_mem b1)) (λz=>List.all_eq_true.mp z _ (List.getElem_mem b2))
  by_cases hb:Jc d d'=false
  ·exact Ot I A d d' v v' F F' u u' (by omega) hb h g r r'
  cases d with
  |tup xs=>
   cases d' with
   |tup ys=>
    have hal:(xs.all (lo n)||ys.all (lo n))=true:=hl;obtain⟨a,vs,rfl,q,hr⟩:=h;cases r;obtain⟨its,rv,p,_⟩:=I.tuple q;obtain⟨b,ws,rfl,q',hg⟩:=g;cases r';obtain⟨its2,rv2,p2,_⟩:=I.tuple q';have e:((List.range (min its.toArray.size its2.toArray.size)).all (λj=>eqD (xs.getD j .non) (ys.getD j .non))&&its.toArray.size==its2.toArray.size)=eqD (.tup xs) (.tup ys):=by
     have l1:=hr.length;have l2:=hg.length;have l3:=rv.length;have l4:=rv2.length;have e1:its.toArray.size=xs.length:=by simp;omega
     have e2:its2.toArray.size=ys.length:=by simp;omega
     rw[e1,e2,Rv];rfl
    have rc:=SeqAt.RcAt.tuples (A:=A) (e:=λj=>eqD (xs.getD j .non) (ys.getD j .non)) p p2 (by omega) (items xs ys vs ws _ _ its its2 hal hr hg rv rv2)
    rw[e] at rc;refine⟨rc,?_⟩;by_cases hab:a=b
    ·subst hab
     obtain rfl:=I.tuple_inj q q';obtain rfl:=A5.det I hr hg;rw[K5];exact SeqAt.EqAt.same _
    ·exact SeqAt.EqAt.of_refs hab rc
   |_=>exact absurd rfl hb
  |lst xs=>
   cases d' with
   |lst ys=>
    have hal:(xs.all (lo n)||ys.all (lo n))=true:=hl;obtain⟨a,vs,F1,rfl,hr,q,_⟩:=h.lst_;cases r;obtain⟨its,rv,p,_⟩:=I.list q;obtain⟨b,ws,F2,rfl,hg,q',_⟩:=g.lst_;cases r';obtain⟨its2,rv2,p2,_⟩:=I.list q';have l1:=hr.length;have l2:=hg.length;have l3:=rv.length;have l4:=rv2.length;have e1:its.toArray.size=xs.length:=by simp;omega
    have e2:its2.toArray.size=ys.length:=by simp;omega
    have rc:SeqAt.RcAt A s (.ref a) (.ref b) (eqD (.lst xs) (.lst ys)):=by
     show SeqAt.RcAt A s (.ref a) (.ref b) (G0 xs ys)
     by_cases hs:its.toArray.size=its2.toArray.size
     ·have rc:=SeqAt.RcAt.lists (A:=A) (e:=λj=>eqD (xs.getD j .non) (ys.getD j .non)) p.isList p2.isList hs (by omega) (items xs ys vs ws _ _ its its2 hal hr hg rv rv2)
      rw[e1] at rc;rw[E9 _ _ (by omega)]
      exact rc
     ·rw[Jb _ _ (by omega)]
      exact SeqAt.RcAt.lists_lengths p.isList p2.isList (by simpa using hs) (by omega)
    refine⟨rc,?_⟩;by_cases hab:a=b
    ·subst hab
     obtain rfl:=I.list_inj q q';obtain rfl:=A5.det I hr hg;rw[K5];exact SeqAt.EqAt.same _
    ·exact SeqAt.EqAt.of_refs hab rc
   |_=>exact absurd rfl hb
  |_=>cases d'<;>exact absurd rfl hb
theorem W9(I:Inv X pins σ H s)(A:Around)(d d':D)(v v':V)(F F':List Addr)(u u':Value)(hu:A.units<cLine)(hd:Jc d d'=false)(h:Rep X.K H d v F)(g:Rep X.K H d' v' F')(r:An v u)(r':An v' u') :
  SeqAt.RcNeAt A s u u' (!eqD d d'):=by
 cases d with
 |tup xs=>
  obtain⟨a,vs,rfl,q,_⟩:=h;cases r;obtain⟨its,rv,p,_⟩:=I.tuple q
  cases d' with
  |non=>obtain⟨rfl,_⟩:=g;cases r';exact SeqAt.RcNeAt.tuple_none p hu
  |bl b=>obtain⟨rfl,_⟩:=g;cases r';exact SeqAt.RcNeAt.tuple_bool b p hu
  |int b=>obtain⟨rfl,_⟩:=g;obtain⟨t,rfl⟩:=r';exact SeqAt.RcNeAt.tuple_int b t p hu
  |str b=>obtain⟨rfl,_⟩:=g;obtain⟨t,rfl⟩:=r';exact SeqAt.RcNeAt.tuple_str b t p hu
  |lst ys=>
   obtain⟨b,ws,F2,rfl,_,q',_⟩:=g.lst_;cases r';obtain⟨its2,_,p2,_⟩:=I.list q';exact SeqAt.RcNeAt.tuple_list p p2.isList hu
  |tup ys=>cases hd
 |lst xs=>
  obtain⟨a,vs,F1,rfl,_,q,_⟩:=h.lst_;cases r;obtain⟨its,rv,p,_⟩:=I.list q
  cases d' with
  |non=>obtain⟨rfl,_⟩:=g;cases r';exact SeqAt.RcNeAt.list_none p.isList hu
  |bl b=>obtain⟨rfl,_⟩:=g;cases r';exact SeqAt.RcNeAt.list_bool b p.isList hu
  |int b=>obtain⟨rfl,_⟩:=g;obtain⟨t,rfl⟩:=r';exact SeqAt.RcNeAt.list_int b t p.isList hu
  |str b=>obtain⟨rfl,_⟩:=g;obtain⟨t,rfl⟩:=r';exact SeqAt.RcNeAt.list_str b t p.isList hu
  |tup ys=>
   obtain⟨b,ws,rfl,q',_⟩:=g;cases r';obtain⟨its2,_,p2,_⟩:=I.tuple q';exact SeqAt.RcNeAt.list_tuple p.isList p2 hu
  |lst ys=>cases hd
 |non=>
  obtain⟨rfl,_⟩:=h;cases r
  cases d' with
  |non=>obtain⟨rfl,_⟩:=g;cases r';exact SeqAt.RcNeAt.none_none
  |bl b=>obtain⟨rfl,_⟩:=g;cases r';exact SeqAt.RcNeAt.none_bool b
  |int b=>obtain⟨rfl,_⟩:=g;obtain⟨t,rfl⟩:=r';exact SeqAt.RcNeAt.none_int b t
  |str b=>obtain⟨rfl,_⟩:=g;obtain⟨t,rfl⟩:=r';exact SeqAt.RcNeAt.none_str b t
  |tup ys=>
   obtain⟨b,ws,rfl,q',_⟩:=g;cases r';obtain⟨its2,_,p2,_⟩:=I.tuple q';exact SeqAt.RcNeAt.none_tuple p2 hu
  |lst ys=>
   obtain⟨b,ws,F2,rfl,_,q',_⟩:=g.lst_;cases r';obtain⟨its2,_,p2,_⟩:=I.list q';exact SeqAt.RcNeAt.none_list p2.isList hu
 |bl c=>
  obtain⟨rfl,_⟩:=h;cases r
  cases d' with
  |non=>obtain⟨rfl,_⟩:=g;cases r';exact SeqAt.RcNeAt.bool_none c
  |bl b=>obtain⟨rfl,_⟩:=g;cases r';exact SeqAt.RcNeAt.bool_bool c b
  |int b=>obtain⟨rfl,_⟩:=g;obtain⟨t,rfl⟩:=r';exact SeqAt.RcNeAt.bool_int c b t
  |str b=>obtain⟨rfl,_⟩:=g;obtain⟨t,rfl⟩:=r';exact SeqAt.RcNeAt.bool_str c b t
  |tup ys=>
   obtain⟨b,ws,rfl,q',_⟩:=g;cases r';obtain⟨its2,_,p2,_⟩:=I.tuple q';exact SeqAt.RcNeAt.bool_tuple c p2 hu
  |lst ys=>
   obtain⟨b,ws,F2,rfl,_,q',_⟩:=g.lst_;cases r';obtain⟨its2,_,p2,_⟩:=I.list q';exact SeqAt.RcNeAt.bool_list c p2.isList hu
 |int c=>
  obtain⟨rfl,_⟩:=h;obtain⟨t0,rfl⟩:=r
  cases d' with
  |non=>obtain⟨rfl,_⟩:=g;cases r';exact SeqAt.RcNeAt.int_none c t0
  |bl b=>obtain⟨rfl,_⟩:=g;cases r';exact SeqAt.RcNeAt.int_bool c t0 b
  |int b=>obtain⟨rfl,_⟩:=g;obtain⟨t,rfl⟩:=r';exact SeqAt.RcNeAt.int_int c t0 b t
  |str b=>obtain⟨rfl,_⟩:=g;obtain⟨t,rfl⟩:=r';exact SeqAt.RcNeAt.int_str c t0 b t
  |tup ys=>
   obtain⟨b,ws,rfl,q',_⟩:=g;cases r';obtain⟨its2,_,p2,_⟩:=I.tuple q';exact SeqAt.RcNeAt.int_tuple c t0 p2 hu
  |lst ys=>
   obtain⟨b,ws,F2,rfl,_,q',_⟩:=g.lst_;cases r';obtain⟨its2,_,p2,_⟩:=I.list q';exact SeqAt.RcNeAt.int_list c t0 p2.isList hu
 |str c=>
  obtain⟨rfl,_⟩:=h;obtain⟨t0,rfl⟩:=r
  cases d' with
  |non=>obtain⟨rfl,_⟩:=g;cases r';exact SeqAt.RcNeAt.str_none c t0
  |bl b=>obtain⟨rfl,_⟩:=g;cases r';exact SeqAt.RcNeAt.str_bool c t0 b
  |int b=>obtain⟨rfl,_⟩:=g;obtain⟨t,rfl⟩:=r';exact SeqAt.RcNeAt.str_int c t0 b t
  |str b=>obtain⟨rfl,_⟩:=g;obtain⟨t,rfl⟩:=r';exact SeqAt.RcNeAt.str_str c t0 b t
  |tup ys=>
   obtain⟨b,ws,rfl,q',_⟩:=g;cases r';obtain⟨its2,_,p2,_⟩:=I.tuple q';exact SeqAt.RcNeAt.str_tuple c t0 p2 hu
  |lst ys=>
   obtain⟨b,ws,F2,rfl,_,q',_⟩:=g.lst_;cases r';obtain⟨its2,_,p2,_⟩:=I.list q';exact SeqAt.RcNeAt.str_list c t0 p2.isList hu
theorem Qj4(I:Inv X pins σ H s)(A:Around)(d d':D)(v v':V)(F F':List Addr)(u u':Value)(hu:A.units+12<cLine)(hl:lo 9 d=true)(h:Rep X.K H d v F)(g:Rep X.K H d' v' F')(r:An v u)(r':An v' u'):SeqAt.RcNeAt A s u u' (!eqD d d'):=by
 by_cases hb:Jc d d'=false
 ·exact W9 I A d d' v v' F F' u u' (by omega) hb h g r r'
 have items:∀(xs ys:List D) (vs ws:List V) (G G':List Addr) (its its2:List Value),xs.all (lo 8)=true->A5 X.K H xs vs G->A5 X.K H ys ws G'->Ab vs its->Ab ws its2 ->
   ∀j (h1:j<its.toArray.size) (h2:j<its2.toArray.size),SeqAt.EqAt A.in1 s its.toArray[j] its2.toArray[j] (eqD (xs.getD j .non) (ys.getD j .non)):=by
  intro xs ys vs ws G G' its its2 hal hr hg hv hw j h1 h2;have l1:=hr.length;have l2:=hg.length;have l3:=hv.length;have l4:=hw.length;have b1:j<xs.length:=by simp at h1;omega
  have b2:j<ys.length:=by simp at h2;omega
  obtain⟨v1,G1,e1,p1,_⟩:=hr.get (List.getElem?_eq_getElem b1);obtain⟨v2,G2,e2,p2,_⟩:=hg.get (List.getElem?_eq_getElem b2);obtain⟨u1,f1,q1⟩:=hv.get e1;obtain⟨u2,f2,q2⟩:=hw.get e2;rw[Fo (List.getElem?_eq_getElem b1),Fo (List.getElem?_eq_getElem b2)];have a1:its.toArray[j]=u1:=by
   have:its[j]?=some its[j]:=List.getElem?_eq_getElem (by simpa using h1)
   rw[this] at f1;simpa using f1
  have a2:its2.toArray[j]=u2:=by
   have:its2[j]?=some its2[j]:=List.getElem?_eq_getElem (by simpa using h2)
   rw[this] at f2;simpa using f2
  rw[a1,a2];refine(Qdw I 8 A.in1 _ _ _ _ _ _ _ _ (by show A.units+1+8<cLine;omega) ?_ p1 p2 q1 q2).2
  rw[Bool.or_eq_true];exact .inl (List.all_eq_true.mp hal _ (List.getElem_mem b1))
 cases d with
 |tup xs=>
  cases d' with
  |tup ys=>
   obtain⟨a,vs,rfl,q,rr⟩:=h;obtain⟨b,ws,rfl,q',rr'⟩:=g;cases r;cases r';obtain⟨its,rv,p,_⟩:=I.tuple q;obtain⟨its2,rv2,p2,_⟩:=I.tuple q';have:=SeqAt.RcNeAt.tuples p p2 (by omega) (items xs ys vs ws _ _ its its2 hl rr rr' rv rv2)
   have l1:=rr.length;have l2:=rr'.length;have l3:=rv.length;have l4:=rv2.length;have e:=Rv xs ys;simp only[List.size_toArray,<-l3,<-l4,<-l1,<-l2] at this;rw[e] at this;exact this
  |_=>exact absurd rfl hb
 |lst xs=>
  cases d' with
  |lst ys=>
   obtain⟨a,vs,F1,rfl,rr,q,_⟩:=h.lst_;obtain⟨b,ws,F2,rfl,rr',q',_⟩:=g.lst_;cases r;cases r';obtain⟨its,rv,p,_⟩:=I.list q;obtain⟨its2,rv2,p2,_⟩:=I.list q';have l1:=rr.length;have l2:=rr'.length;have l3:=rv.length;have l4:=rv2.length;by_cases hz:xs.length=ys.length
   ·have:=SeqAt.RcNeAt.lists p.isList p2.isList (by simp;omega) (by omega) (items xs ys vs ws _ _ its its2 hl rr rr' rv rv2)
    simp only[List.size_toArray,<-l3,<-l1] at this;rw[<-E9 _ _ hz] at this;exact this
   ·have:=SeqAt.RcNeAt.lists_lengths (A:=A) p.isList p2.isList (by simp;omega) (by omega)
    have e:eqD (.lst xs) (.lst ys)=false:=Jb _ _ hz;rw[e];exact this
  |_=>exact absurd rfl hb
 |_=>exact absurd (by cases d'<;>rfl) hb
end
theorem Rw:line<=sizeLine:=by rw[sizeLine_eq,Dc];decide
theorem Bn{n:Nat}(h:Av n=true):n<=sizeLine:=Nat.le_trans (of_decide_eq_true h) Rw
def rO(K:Frag)(o:Op):R2:=λx y H Q=>∃d1 d2 F1 F2 d,Rep K H d1 x F1/\Rep K H d2 y F2/\op2 o d1 d2=.ok d /\
 ∀v H' F,A6 H H'->Rep K H' d v F->(∀a∈F,H a=none\/a∈F1\/a∈F2)->((o=.add\/o=.mul)->∀ds,d=.lst ds->∃a F',F=a::F'/\H a=none)->Q v H'
section
variable{X:Cx}
theorem Br{K:Frag}{H:Hp}{i:Int}:Rep K H (.int i) (.int i) []:=⟨rfl,rfl⟩
theorem C5{K:Frag}{H:Hp}{i:Bool}:Rep K H (.bl i) (.bl i) []:=⟨rfl,rfl⟩
theorem Tt{pins:List (Addr×Obj)}{σ:L2.St}{H:Hp}{s:Shared}{l b:Addr}{xs ys:List V}{Q:VK}{E:Value->Shared->Prop}(I:Inv X pins σ H s)(hl:SqL X.K H l xs)(hb:SqL X.K H b ys)(hz:xs.length+ys.length<=sizeLine)
  (q:∀p,H p=none->Q (.ref p) (upd H p (.lst (xs++ys)))):wpAny (model X.prog X.w) X.A (binaryOp .Add (.ref l) (.ref b)) (EP X pins σ Q) E s:=by
 obtain⟨its,r,p,_⟩:=I.list hl;obtain⟨its2,r2,p2,_⟩:=I.list hb;have l1:=r.length;have l2:=r2.length;obtain⟨⟨cls,dd,data,sl⟩,ho,hc,n,hd⟩:=p.isList;obtain⟨⟨cls2,dd2,data2,sl2⟩,ho2,hc2,n2,hd2⟩:=p2.isList;simp only at hc hd hc2 hd2;subst hc hd hc2 hd2;have e:its.toArray++its2.toArray=(its++its2).toArray:=by simp
 refine concat_meets ⟨_,ho,rfl⟩ ⟨_,ho2,rfl⟩ noFill_list_add seq_list_add PySem.F.slot_list_add PySem.F.entry_list_add (PySem.F.args_list_add_2 _ _)
  (list_addW l b its.toArray its2.toArray n n2 dd dd2 sl sl2 (by rw[List.size_toArray,List.size_toArray];omega)) ⟨ho,ho2,?_⟩
 rw[e];exact⟨.ref _,_,I.lnew (t':=s.toks) (r.append r2) (by rw[List.length_append];omega),rfl,q _ I.fresh⟩
theorem Wa{pins:List (Addr×Obj)}{σ:L2.St}{H:Hp}{s:Shared}{l b:Addr}{xs ys:List V}{Q:VK}{E:Value->Shared->Prop}(I:Inv X pins σ H s)(hl:SqT X.K H l xs)(hb:SqT X.K H b ys)(hz:xs.length+ys.length<=sizeLine)
  (q0:xs=[]->Q (.ref b) H) (q1:ys=[]->Q (.ref l) H) (q:∀p,H p=none->Q (.ref p) (upd H p (.tup (xs++ys)))):wpAny (model X.prog X.w) X.A (binaryOp .Add (.ref l) (.ref b)) (EP X pins σ Q) E s:=by
 obtain⟨its,r,p,_⟩:=I.tuple hl;obtain⟨its2,r2,p2,_⟩:=I.tuple hb;have l1:=r.length;have l2:=r2.length;obtain⟨⟨cls,dd,data,sl⟩,ho,hc,n,hd⟩:=id p;obtain⟨⟨cls2,dd2,data2,sl2⟩,ho2,hc2,n2,hd2⟩:=id p2;simp only at hc hd hc2 hd2;subst hc hd hc2 hd2;have e:its.toArray++its2.toArray=(its++its2).toArray:=by simp
 by_cases h1:xs=[]
 ·have:its=[]:=List.eq_nil_of_length_eq_zero (by rw[<-l1,h1];rfl)
  exact concat_meets ⟨_,ho,rfl⟩ ⟨_,ho2,rfl⟩ noFill_tuple_add seq_tuple_add PySem.F.slot_tuple_add PySem.F.entry_tuple_add (PySem.F.args_tuple_add_2 _ _)
   (tuple_addW0 l b its.toArray its2.toArray n n2 dd dd2 sl sl2 (by simp[this])) ⟨ho,ho2,⟨.ref b,H,I,rfl,q0 h1⟩⟩
 ·have h1':its≠[]:=λz=>h1 (List.eq_nil_of_length_eq_zero (by rw[l1,z];rfl))
  by_cases h2:ys=[]
  ·have:its2=[]:=List.eq_nil_of_length_eq_zero (by rw[<-l2,h2];rfl)
   exact concat_meets ⟨_,ho,rfl⟩ ⟨_,ho2,rfl⟩ noFill_tuple_add seq_tuple_add PySem.F.slot_tuple_add PySem.F.entry_tuple_add (PySem.F.args_tuple_add_2 _ _)
    (tuple_addW1 l b its.toArray its2.toArray n n2 dd dd2 sl sl2 (by simpa using h1') (by simp[this])) ⟨ho,ho2,⟨.ref l,H,I,rfl,q1 h2⟩⟩
  ·have h2':its2≠[]:=λz=>h2 (List.eq_nil_of_length_eq_zero (by rw[l2,z];rfl))
   refine concat_meets ⟨_,ho,rfl⟩ ⟨_,ho2,rfl⟩ noFill_tuple_add seq_tuple_add PySem.F.slot_tuple_add PySem.F.entry_tuple_add (PySem.F.args_tuple_add_2 _ _)
    (tuple_addW2 l b its.toArray its2.toArray n n2 dd dd2 sl sl2 (by simpa using h1') (by simpa using h2') (by rw[List.size_toArray,List.size_toArray];omega)) ⟨ho,ho2,?_⟩
   rw[e];refine⟨.ref _,_,I.laid (t':=s.toks) (λb u e=>Heap.get?_push_of_some _ e) (Nat.le_refl _) ?_,rfl,q _ I.fresh⟩
   exact⟨by rw[List.length_append];omega,⟨_,r.append r2,IsTup.new _ _⟩,λo q=>by rw[Heap.get?_push_size _ rfl] at q;cases q;rfl⟩
theorem Qbn:OpR X (binaryOp .Add) (rO X.K .add):=by
 intro pins s σ H x y v u Q I rx ry h;obtain⟨d1,d2,F1,F2,d,h1,h2,e,k⟩:=h
 cases d1 with
 |str a=>
  cases d2 with
  |str b=>
   have e':(if Av (a.length+b.length) then R.ok (D.str (a++b)) else .un)=.ok d:=e
   split at e'
   ·rename_i hf
    cases e';obtain⟨rfl,rfl⟩:=h1;obtain⟨rfl,rfl⟩:=h2;exact Yo pins s σ H _ _ v u Q I rx ry ⟨a,b,rfl,rfl,Bn hf,k _ _ _ (A6.refl _) ⟨rfl,rfl⟩ (λ_ z=>nomatch z) (λ_ ds z=>by cases z)⟩
   ·cases e'
  |_=>cases e
 |int a=>
  cases d2 with
  |int b=>
   cases e;obtain⟨rfl,rfl⟩:=h1;obtain⟨rfl,rfl⟩:=h2;exact Qci pins s σ H _ _ v u Q I rx ry ⟨a,b,rfl,rfl,k _ _ _ (A6.refl _) Br (λ_ z=>nomatch z) (λ_ ds z=>by cases z)⟩
  |_=>cases e
 |lst a=>
  cases d2 with
  |lst b=>
   have e':(if Av (a.length+b.length) then R.ok (D.lst (a++b)) else .un)=.ok d:=e
   split at e'
   ·rename_i hf
    cases e';obtain⟨l,vs,G1,rfl,r1,q1,s1⟩:=h1.lst_;obtain⟨m,ws,G2,rfl,r2,q2,s2⟩:=h2.lst_;cases rx;cases ry;have l1:=r1.length;have l2:=r2.length;have hz:=Bn hf;refine Tt I q1 q2 (by omega) λp hp=>k _ _ _ (Ah hp) (Rep.new_lst hp (r1.append r2)) (λc hc=>?_) (λ_ ds _=>⟨_,_,rfl,hp⟩)
    rcases List.mem_cons.mp hc with rfl|hc
    ·exact .inl hp
    ·exact .inr ((List.mem_append.mp hc).imp (s1 c) (s2 c))
   ·cases e'
  |_=>cases e
 |tup a=>
  cases d2 with
  |tup b=>
   have e':(if Av (a.length+b.length) then R.ok (D.tup (a++b)) else .un)=.ok d:=e
   split at e'
   ·rename_i hf
    cases e';obtain⟨l,vs,rfl,q1,r1⟩:=id h1;obtain⟨m,ws,rfl,q2,r2⟩:=id h2;cases rx;cases ry;have l1:=r1.length;have l2:=r2.length;have hz:=Bn hf;refine Wa I q1 q2 (by omega) (λz=>?_) (λz=>?_) λp hp=>k _ _ _ (Ah hp) (Rep.new_tup hp (r1.append r2)) (λc hc=>.inr (List.mem_append.mp hc)) (λ_ ds z=>by cases z)
    ·subst z
     have:a=[]:=List.eq_nil_of_length_eq_zero (by rw[l1];rfl)
     subst this;exact k _ _ _ (A6.refl _) h2 (λc hc=>.inr (.inr hc)) (λ_ ds z=>by cases z)
    ·subst z
     have:b=[]:=List.eq_nil_of_length_eq_zero (by rw[l2];rfl)
     subst this;rw[List.append_nil] at k;exact k _ _ _ (A6.refl _) h1 (λc hc=>.inr (.inl hc)) (λ_ ds z=>by cases z)
   ·cases e'
  |_=>cases e
 |_=>cases d2<;>cases e
theorem Qgj:OpR X (binaryOp .Sub) (rO X.K .sub):=by
 intro pins s σ H x y v u Q I rx ry h;obtain⟨d1,d2,F1,F2,d,h1,h2,e,k⟩:=h
 cases d1 with
 |int a=>
  cases d2 with
  |int b=>
   cases e;obtain⟨rfl,rfl⟩:=h1;obtain⟨rfl,rfl⟩:=h2;exact Qcj pins s σ H _ _ v u Q I rx ry ⟨a,b,rfl,rfl,k _ _ _ (A6.refl _) Br (λ_ z=>nomatch z) (λ_ ds z=>by cases z)⟩
  |_=>cases e
 |_=>cases d2<;>cases e
theorem M2{a:Int}(h:C2 a=true) : -(2 ^ 64)<a/\a<2 ^ 64:=by
 unfold C2 at h;rw[Ep] at h;rw[Bool.and_eq_true] at h;exact⟨of_decide_eq_true h.1,of_decide_eq_true h.2⟩
theorem Qbo:OpR X (binaryOp .Mult) (rO X.K .mul):=by
 intro pins s σ H x y v u Q I rx ry h;obtain⟨d1,d2,F1,F2,d,h1,h2,e,k⟩:=h
 cases d1 with
 |int a=>
  cases d2 with
  |int b=>
   have e':(if C2 a||C2 b then R.ok (D.int (a*b)) else .un)=.ok d:=e
   split at e'
   ·rename_i hs
    cases e';obtain⟨rfl,rfl⟩:=h1;obtain⟨rfl,rfl⟩:=h2;refine Qck pins s σ H _ _ v u Q I rx ry ⟨a,b,rfl,rfl,?_,k _ _ _ (A6.refl _) Br (λ_ z=>nomatch z) (λ_ ds z=>by cases z)⟩
    rcases Bool.or_eq_true _ _ ▸ hs with z|z
    ·exact .inl (M2 z)
    ·exact .inr (M2 z)
   ·cases e'
  |_=>cases e
 |_=>cases d2<;>cases e
theorem K6:OpR X (binaryOp .Mod) (rO X.K .mod):=by
 intro pins s σ H x y v u Q I rx ry h;obtain⟨d1,d2,F1,F2,d,h1,h2,e,k⟩:=h
 cases d1 with
 |int a=>
  cases d2 with
  |int b=>
   have e':(if 0<b then R.ok (D.int (a % b)) else .un)=.ok d:=e
   split at e'
   ·rename_i hs
    cases e';obtain⟨rfl,rfl⟩:=h1;obtain⟨rfl,rfl⟩:=h2;exact Qcl pins s σ H _ _ v u Q I rx ry ⟨a,b,rfl,rfl,hs,k _ _ _ (A6.refl _) Br (λ_ z=>nomatch z) (λ_ ds z=>by cases z)⟩
   ·cases e'
  |_=>cases e
 |_=>cases d2<;>cases e
theorem Qgk:OpR X (binaryOp .FloorDiv) (rO X.K .div):=by
 intro pins s σ H x y v u Q I rx ry h;obtain⟨d1,d2,F1,F2,d,h1,h2,e,k⟩:=h
 cases d1 with
 |int a=>
  cases d2 with
  |int b=>
   have e':(if 0<b/\b<1073741824 then R.ok (D.int (a / b)) else .un)=.ok d:=e
   split at e'
   ·rename_i hs
    cases e';obtain⟨rfl,rfl⟩:=h1;obtain⟨rfl,rfl⟩:=h2;exact Yd pins s σ H _ _ v u Q I rx ry ⟨a,b,rfl,rfl,hs,k _ _ _ (A6.refl _) Br (λ_ z=>nomatch z) (λ_ ds z=>by cases z)⟩
   ·cases e'
  |_=>cases e
 |_=>cases d2<;>cases e
theorem Qk(hu:X.A.units+20<cLine):OpR X (compareOp .Eq) (rO X.K .eq):=by
 intro pins s σ H x y v u Q I rx ry h;obtain⟨d1,d2,F1,F2,d,h1,h2,e,k⟩:=h;have e':(if lo 9 d1 then R.ok (D.bl (eqD d1 d2)) else .un)=.ok d:=by
  cases d1<;>cases d2<;>exact e
 split at e'
 ·rename_i hl
  cases e';refine(Qdw I 9 X.A d1 d2 x y F1 F2 v u (by omega) (by rw[hl];rfl) h1 h2 rx ry).1 X.prog X.w X.xe _ ⟨.bl _,H,I,rfl,?_⟩
  exact k _ _ _ (A6.refl _) C5 (λ_ z=>nomatch z) (λ_ ds z=>by cases z)
 ·cases e'
theorem Ql(hu:X.A.units+20<cLine):OpR X (compareOp .NotEq) (rO X.K .ne):=by
 intro pins s σ H x y v u Q I rx ry h;obtain⟨d1,d2,F1,F2,d,h1,h2,e,k⟩:=h;have e':(if lo 9 d1 then R.ok (D.bl (!eqD d1 d2)) else .un)=.ok d:=by
  cases d1<;>cases d2<;>exact e
 split at e'
 ·rename_i hl
  cases e';refine Qj4 I X.A d1 d2 x y F1 F2 v u (by omega) hl h1 h2 rx ry X.prog X.w X.xe _ ⟨.bl _,H,I,rfl,?_⟩
  exact k _ _ _ (A6.refl _) C5 (λ_ z=>nomatch z) (λ_ ds z=>by cases z)
 ·cases e'
theorem Ou{o:Op}{c:CmpOp}{p:Int->Int->Bool}(ho:OpR X (compareOp c) (rI0 λi j=>.bl (p i j)))(h0:∀a b,op2 o (.int a) (.int b)=.ok (.bl (p a b)))(h1:∀d1 d2 d,op2 o d1 d2=.ok d->∃a b,d1=.int a/\d2=.int b)
  (hn:¬(o=.add\/o=.mul)):OpR X (compareOp c) (rO X.K o):=by
 intro pins s σ H x y v u Q I rx ry h;obtain⟨d1,d2,F1,F2,d,h1',h2,e,k⟩:=h;obtain⟨a,b,rfl,rfl⟩:=h1 _ _ _ e;rw[h0] at e;cases e;obtain⟨rfl,rfl⟩:=h1';obtain⟨rfl,rfl⟩:=h2;exact ho pins s σ H _ _ v u Q I rx ry ⟨a,b,rfl,rfl,k _ _ _ (A6.refl _) C5 (λ_ z=>nomatch z) (λz=>absurd z hn)⟩
theorem Qgl:OpR X (compareOp .Lt) (rO X.K .lt):=Ou Qfn (λ_ _=>rfl) (λd1 d2 d e=>by cases d1<;>cases d2<;>first|exact⟨_,_,rfl,rfl⟩|cases e) (by decide)
theorem Qa2:OpR X (compareOp .LtE) (rO X.K .le):=Ou Qfo (λ_ _=>rfl) (λd1 d2 d e=>by cases d1<;>cases d2<;>first|exact⟨_,_,rfl,rfl⟩|cases e) (by decide)
theorem Qgm:OpR X (compareOp .Gt) (rO X.K .gt):=Ou Qfp (λ_ _=>rfl) (λd1 d2 d e=>by cases d1<;>cases d2<;>first|exact⟨_,_,rfl,rfl⟩|cases e) (by decide)
theorem Qj5:OpR X (compareOp .GtE) (rO X.K .ge):=Ou Qfq (λ_ _=>rfl) (λd1 d2 d e=>by cases d1<;>cases d2<;>first|exact⟨_,_,rfl,rfl⟩|cases e) (by decide)
def Ey(K:Frag)(H:Hp)(x:D)(u:Value):Bool:=@decide (∃v d F,An v u/\Rep K H d v F/\eqD d x=true) (Classical.propDecidable _)
theorem Ha{pins:List (Addr×Obj)}{σ:L2.St}{H:Hp}{s:Shared}(I:Inv X pins σ H s){x d:D}{v:V}{F:List Addr}{u:Value}(r:An v u)(h:Rep X.K H d v F):Ey X.K H x u=eqD d x:=by
 unfold Ey
 cases e:eqD d x with
 |true=>exact @decide_eq_true _ (Classical.propDecidable _) ⟨v,d,F,r,h,e⟩
 |false=>
  refine @decide_eq_false _ (Classical.propDecidable _) ?_
  rintro ⟨v',d',F',r',h',e'⟩
  obtain rfl:=r.inj r';obtain rfl:=Rep.det I h h';rw[e] at e';cases e'
theorem Ni{pins:List (Addr×Obj)}{σ:L2.St}{H:Hp}{s:Shared}(I:Inv X pins σ H s){x:D}:∀{ds:List D} {vs:List V} {F:List Addr} {us:List Value},A5 X.K H ds vs F->Ab vs us->us.any (Ey X.K H x)=inD x ds
 |[],_,_,_,h,.nil=>rfl
 |[],_,_,_,h,.cons _ _=>by obtain⟨z,_⟩:=h;cases z
 |d::ds,_,_,_,h,.nil=>by obtain⟨_,_,_,_,z,_⟩:=h;cases z
 |d::ds,_,_,_,h,.cons r t=>by
  obtain⟨v,w,F1,F2,z,_,h1,h2⟩:=h;cases z;rw[List.any_cons,Ha I r h1,Ni I h2 t];rfl
theorem Ga{pins:List (Addr×Obj)}{σ:L2.St}{H:Hp}{s:Shared}(I:Inv X pins σ H s){x:D}{y:V}{G:List Addr}{u:Value}(A:Around)(hu:A.units+20<cLine)(hx:lo 9 x=true)(hy:Rep X.K H x y G)(ru:An y u) :
  ∀{ds:List D} {vs:List V} {F:List Addr} {us:List Value},A5 X.K H ds vs F->Ab vs us->∀w∈us,SeqAt.EqAt A s w u (Ey X.K H x w)
 |[],_,_,_,h,.nil,w,hw=>nomatch hw
 |[],_,_,_,h,.cons _ _,w,hw=>by obtain⟨z,_⟩:=h;cases z
 |d::ds,_,_,_,h,.nil,w,hw=>nomatch hw
 |d::ds,_,_,_,h,.cons r t,w,hw=>by
  obtain⟨v,ws,F1,F2,z,_,h1,h2⟩:=h;cases z;rcases List.mem_cons.mp hw with rfl|hw
  ·rw[Ha I r h1]
   exact(Qdw I 9 A d x _ y F1 G _ u (by omega) (by rw[hx,Bool.or_true]) h1 hy r ru).2
  ·exact Ga I A hu hx hy ru h2 t w hw
end
def ShP(k:Nat)(B:Hp)(d:D)(F:List Addr):Prop:=
 if k=1 then ∀ds,d=.lst ds->∃a F',F=a::F'/\B a=none
 else True
theorem ShP.mono{k:Nat}{B B':Hp}{d:D}{F:List Addr}(s:A6 B B')(h:ShP k B' d F):ShP k B d F:=by
 unfold ShP at h |-;split
 ·rename_i e
  rw[if_pos e] at h;intro ds z;obtain⟨a,F',h1,h2⟩:=h ds z;exact⟨a,F',h1,s.free h2⟩
 ·rename_i e
  rw[if_neg e] at h
  all_goals trivial
theorem ShP.non{k:Nat}{B:Hp}{F:List Addr}:ShP k B .non F:=by
 unfold ShP;by_cases h:k=1
 ·rw[if_pos h];intro ds z;cases z
 ·rw[if_neg h]
  all_goals trivial
def XD(K:Frag)(H:Hp)(d:Option D)(dx:Option Addr):Prop:=match d with
 |none=>dx=none
 |some d=>∃x u,dx=some x/\H x=some (.xd [("at",u)])/\Rep K H d u []
theorem XD.xd{K:Frag}{H:Hp}{d:Option D}{dx:Option Addr}(h:XD K H d dx):∀x,dx=some x->∃fs,H x=some (.xd fs):=λx e=>by
 cases d with
 |none=>
  have h':dx=none:=h;rw[h'] at e;cases e
 |some d=>
  obtain⟨y,u,e1,e2,e3⟩:=h;rw[e1] at e;cases e;exact⟨_,e2⟩
def spF(mg:Str->Option Value)(tb:Hp->Prop)(fr:Nat->Bool)(K:Frag)(C:Str->List D->R D)(f:Str):Sp:=λvs H Q E=>tb H/\((∃ds F d,A5 K H ds vs F/\C f ds=.ok d /\
 ∀v H' G,A6 H H'->Rep K H' d v G->(∀a∈G,H a=none\/a∈F)->(∀k,fr k=true->ShP k H d G)->Q v H') \/
 ∃ds F c dd,A5 K H ds vs F/\C f ds=.xn c dd/\∀v dx H',mg c=some v->A6 H H'->XD K H' dd dx->E v dx H')
structure XCok(K:Frag)(mg:Str->Option Value)(base:Heap)(c:Str):Prop where
 ex:∃C CF,mg c=some (.ref C)/\mg "FairError" = some (.ref CF)/\((c ≠ "BadFair" -> OwnCls c C veM "ValueError.__new__" mg base)/\(c = "BadFair" -> OwnI c C K mg base/\PySem.W.exmOne K (.ref C) (.ref C)=some true))/\PySem.W.exmOne K (.ref C) (.ref CF)=some true/\PySem.W.subIn K (.ref C) (.type "ValueError")=some true/\mg "ValueError" = none/\ClX K C/\∀k∈Tl,∃Ck,mg k=some (.ref Ck)/\PySem.W.kitOne K (.ref C) (.ref Ck)=some (k==c)
 xx:∀C,mg c=some (.ref C)->PySem.W.exmOne K (.ref C) (.ref C)=some true
def EW(K:Frag)(mg:Str->Option Value)(W:Xl->Hp->Prop):XK:=λv dx H'=>∃l:Xl,mg l.1=some v/\XD K H' l.2 dx/\W l H'
def Qm:List Str:=["len","tuple","list","sorted","int","max","any","all","isinstance","range","enumerate","bool","str","reversed","set"]
def Tb(T:Tab)(K:Frag)(mg:Str->Option Value)(H:Hp):Prop:=∀f fn a oc od fd sl c P,T.lookup f=some fn->At fn.body=true->mg f=some (.ref a)->K.lookup a=some ⟨oc,od,.func fd,sl⟩->fd.code=.ref c->PySem.W.codeHdIn K c P=true ->
 ∃more,H P=some (.tbl (#[.str ((f++(".<locals>." : Str))++("<lambda>" : Str)) 0]++more))
theorem Tb.same{T:Tab}{K:Frag}{mg:Str->Option Value}{H H':Hp}(h:Tb T K mg H)(s:A6 H H'):Tb T K mg H':=λf fn a oc od fd sl c P e1 e2 e3 e4 e5 e6=>by
 obtain⟨m,z⟩:=h f fn a oc od fd sl c P e1 e2 e3 e4 e5 e6;exact⟨m,s _ _ z⟩
structure CstOk(K:Frag)(mg:Str->Option Value)(x:Str)(d:D):Prop where
 ex:∃u v,mg x=some u/\An v u/\∀H,Rep K H d v []
structure Md(T:Tab)(n:Nat)(X:Cx):Prop where
 calm:X.calm=true
 nd:X.N.Nodup
 room:Room (2*n+4) X.A
 fn:∀f fn,T.lookup f=some fn->∃a fd ps,X.mg f=some (.ref a)/\PySem.W.keepIn X.K (.ref a)=true/\Js X.K fd ps []/\FnOk X.prog X.w X.K X.mg X.base (CXx X.prog X.w) (2*n+4) a fd ps (spF X.mg (Tb T X.K X.mg) (Cv fn.body) X.K (run T n) f)
 tb:Tb T X.K X.mg X.H₀
 blt:∀x∈Qm,X.mg x=none
 xc:∀c∈xnT T,XCok X.K X.mg X.base c
 cs:∀p∈K0,CstOk X.K X.mg p.1 p.2
theorem Md.tbI{T:Tab}{n:Nat}{X:Cx}(M:Md T n X){pins:List (Addr×Obj)}{σ:L2.St}{H:Hp}{s:Shared}(I:Inv X pins σ H s):Tb T X.K X.mg H:=λf fn a oc od fd sl c P e1 e2 e3 e4 e5 e6=>by
 obtain⟨m,z⟩:=M.tb f fn a oc od fd sl c P e1 e2 e3 e4 e5 e6;obtain⟨m',z'⟩:=I.base.tbls _ _ z;exact⟨m++m',by rw[z',Array.append_assoc]⟩
theorem Md.hu{T:Tab}{n:Nat}{X:Cx}(M:Md T n X):X.A.units+40<cLine:=by have:=M.room.units;omega
section
variable{X:Cx}
theorem pm{e:Expr}{t t':TE}(h:PE X e t)(k:∀σ H Q,t' σ H Q->t σ H Q):PE X e t':=λpins s σ H Q I q=>h pins s σ H Q I (k σ H Q q)
theorem pmI{e:Expr}{t t':TE}(h:PE X e t)(k:∀pins s σ H Q,Inv X pins σ H s->t' σ H Q->t σ H Q):PE X e t':=λpins s σ H Q I q=>h pins s σ H Q I (k pins s σ H Q I q)
theorem tm{e:Expr}{t t':TT}(h:PT X e t)(k:∀σ H Q,t' σ H Q->t σ H Q):PT X e t':=λpins s σ H Q I q=>h pins s σ H Q I (k σ H Q q)
theorem wm{e:Expr}{t t':TT}(h:PW X e t)(k:∀σ H Q,t' σ H Q->t σ H Q):PW X e t':=λw pins s σ H Q I q=>h w pins s σ H Q I (k σ H Q q)
theorem am{e:List Expr}{t t':TA}(h:PA X e t)(k:∀σ H Q,t' σ H Q->t σ H Q):PA X e t':=λpos pins s σ H Q I q=>h pos pins s σ H Q I (k σ H Q q)
variable{C:Str->List D->R D}{i:Nat}{x:Str}{pos:Pos}{e a b c:Expr}{p q r:Ex}
theorem Qgn(h:isE (.var i) X.env.scope X.N e=true):PE X e (tE X.K C (.var i)):=by
 unfold isE at h;split at h
 ·rename_i y p
  simp only[Bool.and_eq_true,beq_iff_eq] at h;obtain⟨⟨⟨h1,h2⟩,h3⟩,h4⟩:=h;refine pm (Jp h1 ?_ h3 h4) λσ H Q h=>?_
  ·unfold L9 at h2
   split at h2
   ·rename_i z;exact .inl z
   ·rename_i z;exact .inr (.inl z)
   ·rename_i z;exact .inr (.inr z)
   ·cases h2
  ·obtain⟨ρ,Fs,d,S,he,k⟩:=h
   rw[Qde] at he;split at he
   ·rename_i d' o e'
    cases he;obtain⟨v,hv,r⟩:=S.val i _ o e';exact⟨v,hv,k v H (Fs i) (A6.refl _) r (λa ha=>.inr ⟨i,by simp[Aj],⟨_,_,e'⟩,ha⟩) (λz=>by cases z)⟩
   ·cases he
 ·cases h
theorem Qgo{n:Int}(h:isE (.int n) X.env.scope X.N e=true):PE X e (tE X.K C (.int n)):=by
 unfold isE at h;split at h
 ·simp only[beq_iff_eq] at h
  subst h;refine pm Ug λσ H Q h=>?_
  obtain⟨ρ,Fs,d,S,he,k⟩:=h;cases he;exact k _ _ _ (A6.refl _) Br Src.nil (λz=>by cases z)
 ·simp only[beq_iff_eq] at h
  subst h;refine pm (Qfl Qcm Ug) λσ H Q h=>?_
  obtain⟨ρ,Fs,d,S,he,k⟩:=h;cases he;exact⟨_,rfl,k _ _ _ (A6.refl _) Br Src.nil (λz=>by cases z)⟩
 ·cases h
theorem Qgp{n:Bool}(h:isE (.bl n) X.env.scope X.N e=true):PE X e (tE X.K C (.bl n)):=by
 unfold isE at h;split at h
 ·simp only[beq_iff_eq] at h
  subst h;refine pm Qfb λσ H Q h=>?_
  obtain⟨ρ,Fs,d,S,he,k⟩:=h;cases he;exact k _ _ _ (A6.refl _) C5 Src.nil (λz=>by cases z)
 ·cases h
theorem Qgq(h:isE .non X.env.scope X.N e=true):PE X e (tE X.K C .non):=by
 unfold isE at h;split at h
 ·refine pm Qc6 λσ H Q h=>?_
  obtain⟨ρ,Fs,d,S,he,k⟩:=h;cases he;exact k _ _ _ (A6.refl _) ⟨rfl,rfl⟩ Src.nil (λz=>by cases z)
 ·cases h
theorem Rx{n:Str}(h:isE (.str n) X.env.scope X.N e=true):PE X e (tE X.K C (.str n)):=by
 unfold isE at h;split at h
 ·simp only[beq_iff_eq] at h
  subst h;refine pm Ps λσ H Q h=>?_
  obtain⟨ρ,Fs,d,S,he,k⟩:=h;cases he;exact k _ _ _ (A6.refl _) ⟨rfl,rfl⟩ Src.nil (λz=>by cases z)
 ·cases h
theorem Qbp{o:Op}{o':Operator}(h:opB o=some o'):OpR X (binaryOp o') (rO X.K o):=by
 cases o<;>cases h
 ·exact Qbn
 ·exact Qgj
 ·exact Qbo
 ·exact K6
 ·exact Qgk
theorem Ry{w:Str}{c:Nat}(hc:Qd w=some c):w=⟨#[c]⟩:=by
 unfold Qd at hc;obtain⟨⟨l⟩⟩:=w;simp only at hc;split at hc
 ·cases hc
  rfl
 ·cases hc
def rOn(K:Frag)(o:Op):R2:=λx y H Q=>∃d1 d2 F1 F2 d,(∀z,d2≠.str z)/\Rep K H d1 x F1/\Rep K H d2 y F2/\op2 o d1 d2=.ok d /\
 ∀v H' F,A6 H H'->Rep K H' d v F->(∀a∈F,H a=none\/a∈F1\/a∈F2)->((o=.add\/o=.mul)->∀ds,d=.lst ds->∃a F',F=a::F'/\H a=none)->Q v H'
theorem Qbq{neg:Bool}{op:CmpOp}{o:Op}(hu:X.A.units+40<cLine)(hn:¬(o=.add\/o=.mul))(he:∀d1 d2 d,(∀z,d2≠.str z)->op2 o d1 d2=.ok d->∃xs,Bo d2=some xs/\lo 9 d1=true/\d=.bl (if neg then !inD d1 xs else inD d1 xs))
  (hl:∀(l:Addr) (items:Array Value) (x:Value) (s:Shared) (Q:Value->Shared->Prop) (e:Value->Bool),s.heap.IsList l items->(∀y,y∈items->SeqAt.EqAt X.A.in1 s y x (e y))->Q (.bool (if neg then !items.any e else items.any e)) s->wpAny (model X.prog X.w) X.A (compareOp op x (.ref l)) Q X.xe s)
  (ht:∀(l:Addr) (items:Array Value) (x:Value) (s:Shared) (Q:Value->Shared->Prop) (e:Value->Bool),s.heap.IsTuple l items->(∀y,y∈items->SeqAt.EqAt X.A.in1 s y x (e y))->Q (.bool (if neg then !items.any e else items.any e)) s->wpAny (model X.prog X.w) X.A (compareOp op x (.ref l)) Q X.xe s) :
  OpR X (compareOp op) (rOn X.K o):=by
 intro pins s σ H x y v u Q I rx ry h;obtain⟨d1,d2,F1,F2,d,hn',h1,h2,e,k⟩:=h;obtain⟨xs,e1,e2,rfl⟩:=he _ _ _ hn' e;have hu':X.A.in1.units+20<cLine:=by
  show X.A.units+1+20<cLine
  omega
 obtain⟨l,vs,F',rfl,r,hq,_⟩:=h2.seq e1;cases ry;rcases hq with hq|hq
 ·obtain⟨its,rv,p,_⟩:=I.list hq
  refine hl l its.toArray v s _ (Ey X.K H d1) p.isList (λw hw=>Ga I X.A.in1 hu' e2 h1 rx r rv w (by simpa using hw)) ⟨.bl _,H,I,?_,k _ _ _ (A6.refl _) C5 (λ_ z=>nomatch z) (λz=>absurd z hn)⟩
  rw[show its.toArray.any (Ey X.K H d1)=its.any (Ey X.K H d1) by simp,Ni I r rv]
  rfl
 ·obtain⟨its,rv,p,_⟩:=I.tuple hq
  refine ht l its.toArray v s _ (Ey X.K H d1) p (λw hw=>Ga I X.A.in1 hu' e2 h1 rx r rv w (by simpa using hw)) ⟨.bl _,H,I,?_,k _ _ _ (A6.refl _) C5 (λ_ z=>nomatch z) (λz=>absurd z hn)⟩
  rw[show its.toArray.any (Ey X.K H d1)=its.any (Ey X.K H d1) by simp,Ni I r rv]
  rfl
theorem Qgr(hu:X.A.units+40<cLine):OpR X (compareOp .In) (rOn X.K .isin):=by
 refine Qbq (neg:=false) hu (by decide) (λd1 d2 d hn h=>?_) (λl items x s Q e h1 h2 q=>SeqAt.in_listAt e h1 h2 q) (λl items x s Q e h1 h2 q=>SeqAt.in_tupleAt e h1 h2 q)
 cases d2 with
 |lst xs=>
  have h':(if lo 9 d1 then R.ok (D.bl (inD d1 xs)) else .un)=.ok d:=by cases d1<;>exact h
  split at h'
  ·rename_i z;cases h';exact⟨xs,rfl,z,rfl⟩
  ·cases h'
 |tup xs=>
  have h':(if lo 9 d1 then R.ok (D.bl (inD d1 xs)) else .un)=.ok d:=by cases d1<;>exact h
  split at h'
  ·rename_i z;cases h';exact⟨xs,rfl,z,rfl⟩
  ·cases h'
 |str z=>exact absurd rfl (hn z)
 |_=>cases d1<;>cases h
theorem Wb(hu:X.A.units+40<cLine):OpR X (compareOp .NotIn) (rOn X.K .notin):=by
 refine Qbq (neg:=true) hu (by decide) (λd1 d2 d hn h=>?_) (λl items x s Q e h1 h2 q=>SeqAt.notIn_listAt e h1 h2 q) (λl items x s Q e h1 h2 q=>SeqAt.notIn_tupleAt e h1 h2 q)
 cases d2 with
 |lst xs=>
  have h':(if lo 9 d1 then R.ok (D.bl (!inD d1 xs)) else .un)=.ok d:=by cases d1<;>exact h
  split at h'
  ·rename_i z;cases h';exact⟨xs,rfl,z,rfl⟩
  ·cases h'
 |tup xs=>
  have h':(if lo 9 d1 then R.ok (D.bl (!inD d1 xs)) else .un)=.ok d:=by cases d1<;>exact h
  split at h'
  ·rename_i z;cases h';exact⟨xs,rfl,z,rfl⟩
  ·cases h'
 |str z=>exact absurd rfl (hn z)
 |_=>cases d1<;>cases h
theorem Qj6(hu:X.A.units+40<cLine):OpR X (compareOp .In) (rO X.K .isin):=by
 intro pins s σ H x y v u Q I rx ry h;obtain⟨d1,d2,F1,F2,d,h1,h2,e,k⟩:=h
 cases d2 with
 |str z=>cases d1<;>cases e
 |_=>exact Qgr hu pins s σ H x y v u Q I rx ry ⟨d1,_,F1,F2,d,(λz q=>by cases q),h1,h2,e,k⟩
theorem Qa3(hu:X.A.units+40<cLine):OpR X (compareOp .NotIn) (rO X.K .notin):=by
 intro pins s σ H x y v u Q I rx ry h;obtain⟨d1,d2,F1,F2,d,h1,h2,e,k⟩:=h
 cases d2 with
 |str z=>
  have e:K1 d1 z=.ok d:=by cases d1<;>exact e
  cases d1 with
  |str w=>
   have e':(match Qd w with|some c=>(if Av z.length then R.ok (D.bl (!z.cps.toList.contains c)) else .un)|none=>.un)=.ok d:=e
   cases hc:Qd w with
   |none=>rw[hc] at e';cases e'
   |some c=>
    rw[hc] at e';simp only at e';split at e'
    ·cases e'
     obtain⟨rfl,rfl⟩:=h1;obtain⟨rfl,rfl⟩:=h2;have hw:w=⟨#[c]⟩:=Ry hc;subst hw;refine Mt pins s σ H _ _ v u Q I rx ry ⟨_,z,rfl,rfl,?_⟩;rw[Tg];exact k _ _ _ (A6.refl _) C5 (λ_ z=>nomatch z) (λz=>absurd z (by decide))
    ·cases e'
  |_=>cases e
 |_=>exact Wb hu pins s σ H x y v u Q I rx ry ⟨d1,_,F1,F2,d,(λz q=>by cases q),h1,h2,e,k⟩
theorem K7(hu:X.A.units+40<cLine){o:Op}{o':CmpOp}(h:opC o=some o'):OpR X (compareOp o') (rO X.K o):=by
 cases o<;>cases h
 ·exact Qk (by omega)
 ·exact Ql (by omega)
 ·exact Qgl
 ·exact Qa2
 ·exact Qgm
 ·exact Qj5
 ·exact Qj6 hu
 ·exact Qa3 hu
theorem Nj{K:Frag}{ρ:Env}{Fs:Nat->List Addr}{σ:L2.St}{H:Hp}{d1 d2:D}{R:V->V->Hp->Prop}(S:VR K H σ ρ Fs)(h1:ev C p ρ=.ok d1)(h2:ev C q ρ=.ok d2)
  (k:∀v1 v2 H2 F1 F2,A6 H H2->Rep K H2 d1 v1 F1->Rep K H2 d2 v2 F2->Src ρ Fs H (Aj p++Aj q) F1->Src ρ Fs H (Aj p++Aj q) F2->R v1 v2 H2):tE K C p σ H λv1 H1=>tE K C q σ H1 λv2 H2=>R v1 v2 H2:=
 ⟨ρ,Fs,d1,S,h1,λv1 H1 F1 s1 r1 c1 _=>⟨ρ,Fs,d2,S.more s1,h2,λv2 H2 F2 s2 r2 c2 _=>k v1 v2 H2 F1 F2 (s1.trans s2) (r1.same s2) r2
  (c1.mono (A6.refl _) (λi hi=>List.mem_append_left _ hi) λ_ z=>z) (c2.mono s1 (λi hi=>List.mem_append_right _ hi) λ_ z=>z)⟩⟩
theorem Qdx{ρ:Env}{Fs:Nat->List Addr}{H H2:Hp}{vs:List Nat}{F1 F2 F:List Addr}(s:A6 H H2)(c1:Src ρ Fs H vs F1)(c2:Src ρ Fs H vs F2)(h:∀a∈F,H2 a=none\/a∈F1\/a∈F2):Src ρ Fs H vs F:=λa ha=>by
 rcases h a ha with z|z|z
 ·exact .inl (s.free z)
 ·exact c1 a z
 ·exact c2 a z
theorem Wc{o:Op}{σ:L2.St}{H:Hp}{Q:VK}(h:tE X.K C (.op o p q) σ H Q):tOp (rO X.K o) (tE X.K C p) (tE X.K C q) σ H Q:=by
 obtain⟨ρ,Fs,d,S,he,k⟩:=h;rw[Qbi] at he;obtain⟨d1,h1,he⟩:=R.bind_eq_ok he;obtain⟨d2,h2,he⟩:=R.bind_eq_ok he;refine Nj S h1 h2 λv1 v2 H2 F1 F2 s r1 r2 c1 c2=>⟨d1,d2,F1,F2,d,r1,r2,he,λv H' F s' r' c' f'=>k v H' F (s.trans s') r' ?_ λz ds e=>?_⟩
 ·exact Qdx s c1 c2 c'
 ·obtain⟨a,F',e1,e2⟩:=f' (by cases o<;>first|exact .inl rfl|exact .inr rfl|cases z) ds e
  exact⟨a,F',e1,s.free e2⟩
theorem Qj7{o:Op}(hu:X.A.units+40<cLine)(h:isE (.op o p q) X.env.scope X.N e=true)
  (hp:∀e,isE p X.env.scope X.N e=true->PE X e (tE X.K C p)) (hq:∀e,isE q X.env.scope X.N e=true->PE X e (tE X.K C q)) (hb:∀o e,isE q X.env.scope X.N e=true->behindInMarks o e=false):PE X e (tE X.K C (.op o p q)):=by
 unfold isE at h;split at h
 ·simp only[Bool.and_eq_true,beq_iff_eq] at h
  exact pm (Uu (Qbp h.1.1) (hp _ h.1.2) (hq _ h.2)) λσ H Q h=>Wc h
 ·simp only[Bool.and_eq_true,beq_iff_eq] at h
  exact pm (R7 (K7 hu h.1.1) (hp _ h.1.2) (hq _ h.2) (hb _ _ h.2)) λσ H Q h=>Wc h
 ·cases h
theorem Rz{c:Bool}{b:Bool}{d:D}(e:(if c=true then (.ok (.bl b):R D) else .un)=.ok d):∃k,d=.bl k:=by
 cases c
 ·cases e
 ·cases e;exact⟨_,rfl⟩
theorem Qa4{d1 d:D}{z:Str}(e:K1 d1 z=.ok d):∃k,d=.bl k:=by
 cases d1 with
 |str w=>
  unfold K1 at e;simp only at e;split at e
  ·split at e
   ·cases e;exact⟨_,rfl⟩
   ·cases e
  ·cases e
 |_=>cases e
theorem Gb{o:Op}{o':CmpOp}(h:opC o=some o'){d1 d2 d:D}(e:op2 o d1 d2=.ok d):∃k,d=.bl k:=by
 cases o<;>cases h
 case eq=>exact Rz e
 case ne=>exact Rz e
 case isin=>cases d2<;>first|exact Rz e|(cases e;done)
 case notin=>cases d2<;>first|exact Rz e|exact Qa4 e|(cases e;done)
 all_goals (cases d1<;>first|(cases e;done)|(cases d2<;>first|(cases e;done)|(cases e;exact⟨_,rfl⟩)))
theorem Qgs{o o':Op}(hu:X.A.units+40<cLine)(h:isE (.chn o o' p q r) X.env.scope X.N e=true)
  (hp:∀e,isE p X.env.scope X.N e=true->PE X e (tE X.K C p)) (hq:∀e,isE q X.env.scope X.N e=true->PE X e (tE X.K C q)) (hr:∀e,isE r X.env.scope X.N e=true->PE X e (tE X.K C r)) (hb:∀o e,isE r X.env.scope X.N e=true->behindInMarks o e=false):PE X e (tE X.K C (.chn o o' p q r)):=by
 obtain⟨_,_,_,_,_,_,rfl,h'⟩:=Nf h;clear h;have h:=h'
 ·simp only[Bool.and_eq_true,beq_iff_eq] at h
  obtain⟨⟨⟨⟨h1,h2⟩,h3⟩,h4⟩,h5⟩:=h;refine pm (Uw (K7 hu h1) (K7 hu h2) (hp _ h3) (hq _ h4) (hr _ h5) (hb _ _ h5)) λσ H Q h=>?_
  obtain⟨ρ,Fs,d,S,he,k⟩:=h;rw[Qg] at he;obtain⟨d1,g1,he⟩:=R.bind_eq_ok he;obtain⟨d2,g2,he⟩:=R.bind_eq_ok he;obtain⟨d3,g3,he⟩:=R.bind_eq_ok he;refine Nj S g1 g2 λv1 v2 H2 F1 F2 s r1 r2 c1 c2=>⟨d1,d2,F1,F2,d3,r1,r2,g3,λv H' F s' r' c' f'=>?_⟩
  obtain⟨b,rfl⟩:=Gb h1 g3;obtain⟨rfl,_⟩:=r';refine⟨b,rfl,?_⟩
  cases b with
  |false=>
   cases he;rw[if_neg Bool.false_ne_true];exact k _ _ _ (s.trans s') C5 Src.nil (λz=>by cases z)
  |true=>
   rw[if_pos rfl];obtain⟨d4,g4,he⟩:=R.bind_eq_ok he;refine⟨ρ,Fs,d4,(S.more s).more s',g4,λv4 H4 F4 s4 r4 c4 _=>⟨d2,d4,F2,F4,d,(r2.same s').same s4,r4,he,λv5 H5 F5 s5 r5 c5 f5=>?_⟩⟩
   obtain⟨b',rfl⟩:=Gb h2 he;obtain⟨rfl,rfl⟩:=r5;exact k _ _ _ (s.trans (s'.trans (s4.trans s5))) C5 Src.nil (λz=>by cases z)
theorem Qgt{neg:Bool}(h:isE (.isn neg p) X.env.scope X.N e=true)(hp:∀e,isE p X.env.scope X.N e=true->PE X e (tE X.K C p)):PE X e (tE X.K C (.isn neg p)):=by
 obtain⟨_,_,_,_,_,rfl,h'⟩:=Ng h;clear h;have h:=h'
 ·simp only[Bool.and_eq_true,beq_iff_eq] at h
  obtain⟨h1,h2⟩:=h;have key:∀{K:Frag} {H:Hp} {d:D} {v:V} {F:List Addr},Rep K H d v F->decide (v=.non)=Ds d:=λ{K H d v F} r=>by
   cases d with
   |non=>obtain⟨rfl,_⟩:=r;rfl
   |bl b=>obtain⟨rfl,_⟩:=r;rfl
   |int b=>obtain⟨rfl,_⟩:=r;rfl
   |str b=>obtain⟨rfl,_⟩:=r;rfl
   |tup xs=>obtain⟨_,_,rfl,_⟩:=r;rfl
   |lst xs=>obtain⟨_,_,_,rfl,_⟩:=r;rfl
  cases neg with
  |false=>
   subst h1;refine pm (Ui (Uh (hp _ h2))) λσ H Q h=>?_
   obtain⟨ρ,Fs,d,S,he,k⟩:=h;rw[K2] at he;obtain⟨d1,g1,he⟩:=R.bind_eq_ok he;cases he;refine⟨ρ,Fs,d1,S,g1,λv1 H1 F1 s1 r1 c1 _=>?_⟩
   show Q (V.bl (decide (v1=V.non))) H1
   rw[key r1];exact k (.bl (Ds d1)) H1 [] s1 ⟨by cases d1<;>rfl,rfl⟩ Src.nil (λz=>by cases z)
  |true=>
   subst h1;refine pm (Ui (R4 (hp _ h2))) λσ H Q h=>?_
   obtain⟨ρ,Fs,d,S,he,k⟩:=h;rw[K2] at he;obtain⟨d1,g1,he⟩:=R.bind_eq_ok he;cases he;refine⟨ρ,Fs,d1,S,g1,λv1 H1 F1 s1 r1 c1 _=>?_⟩
   show Q (V.bl (!decide (v1=V.non))) H1
   rw[key r1];exact k (.bl (!Ds d1)) H1 [] s1 ⟨by cases d1<;>rfl,rfl⟩ Src.nil (λz=>by cases z)
end
def Bx:Expr->Bool
 |.Starred _ _=>false
 |.Set _ _ _=>false
 |.Slice _ _ _ _=>false
 |.Call _ [] _ _=>false
 |_=>true
theorem Ac{p:Ex}{sc:Scope}{N:List Str}{e:Expr}(h:isE p sc N e=true):Bx e=true:=by
 cases p<;>first|(obtain⟨_,_,_,_,_,rfl,_⟩:=H9 h;rfl)|(obtain⟨_,_,_,_,rfl,_⟩:=On h;rfl)|(obtain⟨_,_,_,_,_,_,rfl,_⟩:=Nc h;rfl)|(obtain⟨_,_,_,_,_,rfl,_⟩:=Rm h;rfl)|(obtain⟨_,_,_,_,_,_,_,rfl,_⟩:=iv_rngL h;rfl)|(obtain⟨_,_,_,_,_,_,_,_,_,_,rfl,_⟩:=iv_revL h;rfl)|(obtain⟨_,_,_,_,rfl,_⟩:=Rn h;rfl)|(obtain⟨_,_,_,_,rfl,_⟩:=Nd h;rfl)|(obtain⟨_,_,_,_,rfl,_⟩:=Ja h;rfl)|(obtain⟨_,_,_,_,_,_,_,rfl,_⟩:=J7 h;rfl)|(obtain⟨_,_,_,_,_,_,_,rfl,_⟩:=J9 h;rfl)|(obtain⟨_,_,_,_,_,_,_,rfl,_⟩:=J8 h;rfl)|(obtain⟨_,_,_,_,_,_,rfl,_⟩:=Nf h;rfl)|(obtain⟨_,_,_,_,_,rfl,_⟩:=Ng h;rfl)|(obtain⟨_,_,_,_,rfl,_⟩:=iv_ist h;rfl)|(obtain⟨_,_,_,_,rfl⟩:=Zy h;rfl)|(unfold isE at h;split at h<;>first|rfl|cases h)
theorem A9{e:Expr}(h:Bx e=true)(es:List Expr)(env:PySem.Env):starEach (e::es) env=(false,eval e env)::starEach es env:=by
 cases e<;>first|rfl|cases h
theorem Du{e:Expr}(h:Bx e=true)(o:CmpOp):behindInMarks o e=false:=by
 cases e<;>first|rfl|cases h
theorem Qgu{e:Expr}(h:Bx e=true):Rb e:=by
 intro o i;cases e<;>first|rfl|cases h
theorem Nk{e:Expr}(h:Bx e=true)(env:PySem.Env)(x:Value):foldedSetIterable e env x=pure x:=by
 cases e<;>first|rfl|cases h
theorem Jd{e:Expr}(h:Bx e=true)(name:Str)(env:PySem.Env):attributeBase e name env (eval e env)=eval e env:=by
 cases e with
 |Call f as kw pos=>
  cases as with
  |nil=>cases h
  |cons a r=>cases f<;>rfl
 |_=>rfl
theorem K8{sc:Scope}{N:List Str}(env:PySem.Env)(pos:Pos):∀{ps:Exs} {es:List Expr},D7 ps sc N es=true->(backTo pos (starEach es env)).any (·.1)=false
 |.nil,es,h=>by
  unfold D7 at h;split at h
  ·rfl
  ·cases h
 |.cons p r,es,h=>by
  unfold D7 at h;split at h
  ·rename_i x xs
   rw[Bool.and_eq_true] at h;rw[A9 (Ac h.1)];have:=K8 env pos h.2
   show (false||(backTo pos (starEach xs env)).any (·.1))=false
   rw[this];rfl
  ·cases h
section
variable{X:Cx}{C:Str->List D->R D}{pos:Pos}{e:Expr}{p q r:Ex}
theorem Wd{σ:L2.St}{H:Hp}{Q:VK}(h:tE X.K C (.and p q) σ H Q):Qbe (tE X.K C p) (tE X.K C q) σ H Q:=by
 obtain⟨ρ,Fs,d,S,he,k⟩:=h;rw[Qdf] at he;obtain⟨d1,g1,he⟩:=R.bind_eq_ok he;refine⟨ρ,Fs,d1,S,g1,λv1 H1 F1 s1 r1 c1 _=>?_⟩
 cases d1 with
 |bl b=>
  obtain⟨rfl,_⟩:=r1;refine⟨b,rfl,?_⟩
  cases b with
  |true=>
   rw[if_pos rfl];exact⟨ρ,Fs,d,S.more s1,he,λv H' F s' r c f=>k v H' F (s1.trans s') r (c.mono s1 (λi hi=>List.mem_append_right _ hi) λ_ z=>z) (λz=>by cases z)⟩
  |false=>
   cases he;rw[if_neg Bool.false_ne_true];exact k _ _ _ s1 C5 Src.nil (λz=>by cases z)
 |_=>cases he
theorem Qbr{σ:L2.St}{H:Hp}{Q:VK}(h:tE X.K C (.or p q) σ H Q):Qfe (tE X.K C p) (tE X.K C q) σ H Q:=by
 obtain⟨ρ,Fs,d,S,he,k⟩:=h;rw[Qg5] at he;obtain⟨d1,g1,he⟩:=R.bind_eq_ok he;refine⟨ρ,Fs,d1,S,g1,λv1 H1 F1 s1 r1 c1 _=>?_⟩
 cases d1 with
 |bl b=>
  obtain⟨rfl,_⟩:=r1;refine⟨b,rfl,?_⟩
  cases b with
  |false=>
   rw[if_neg Bool.false_ne_true];exact⟨ρ,Fs,d,S.more s1,he,λv H' F s' r c f=>k v H' F (s1.trans s') r (c.mono s1 (λi hi=>List.mem_append_right _ hi) λ_ z=>z) (λz=>by cases z)⟩
  |true=>
   cases he;rw[if_pos rfl];exact k _ _ _ s1 C5 Src.nil (λz=>by cases z)
 |_=>cases he
theorem Qgv(h:isE (.and p q) X.env.scope X.N e=true)(hp:∀e,isE p X.env.scope X.N e=true->PE X e (tE X.K C p))(hq:∀e,isE q X.env.scope X.N e=true->PE X e (tE X.K C q)):PE X e (tE X.K C (.and p q)):=by
 unfold isE at h;split at h
 ·rw[Bool.and_eq_true] at h
  exact pm (Um (hp _ h.1) (Ul (hq _ h.2))) λσ H Q h=>Wd h
 ·rw[Bool.and_eq_true] at h
  exact pm (Um (hp _ h.1) (hq _ h.2)) λσ H Q h=>Wd h
 ·cases h
theorem Qj8(h:isE (.or p q) X.env.scope X.N e=true)(hp:∀e,isE p X.env.scope X.N e=true->PE X e (tE X.K C p))(hq:∀e,isE q X.env.scope X.N e=true->PE X e (tE X.K C q)):PE X e (tE X.K C (.or p q)):=by
 unfold isE at h;split at h
 ·rw[Bool.and_eq_true] at h
  exact pm (Qbf (hp _ h.1) (Ul (hq _ h.2))) λσ H Q h=>Qbr h
 ·rw[Bool.and_eq_true] at h
  exact pm (Qbf (hp _ h.1) (hq _ h.2)) λσ H Q h=>Qbr h
 ·cases h
theorem Qgw(h:isE (.not p) X.env.scope X.N e=true)(hp:∀e,isE p X.env.scope X.N e=true->PE X e (tE X.K C p)):PE X e (tE X.K C (.not p)):=by
 unfold isE at h;split at h
 ·refine pm (Qc9 (hp _ h)) λσ H Q h=>?_
  obtain⟨ρ,Fs,d,S,he,k⟩:=h;rw[Qdg] at he;obtain⟨d1,g1,he⟩:=R.bind_eq_ok he;refine⟨ρ,Fs,d1,S,g1,λv1 H1 F1 s1 r1 c1 _=>?_⟩
  cases d1 with
  |bl b=>
   cases he;obtain⟨rfl,_⟩:=r1;exact⟨b,rfl,k _ _ _ s1 C5 Src.nil (λz=>by cases z)⟩
  |_=>cases he
 ·cases h
theorem Qgx(h:isE (.ife p q r) X.env.scope X.N e=true)(hp:∀e,Cw p=true->isE p X.env.scope X.N e=true->PT X e (tT X.K C p))(hq:∀e,isE q X.env.scope X.N e=true->PE X e (tE X.K C q))(hr:∀e,isE r X.env.scope X.N e=true->PE X e (tE X.K C r)):PE X e (tE X.K C (.ife p q r)):=by
 unfold isE at h;split at h
 ·simp only[Bool.and_eq_true] at h
  obtain⟨⟨⟨h1,h2⟩,h3⟩,h4⟩:=h;refine pm (Uo (hp _ h1 h2) (hq _ h3) (hr _ h4)) λσ H Q h=>?_
  obtain⟨ρ,Fs,d,S,he,k⟩:=h;rw[Qdh] at he;obtain⟨b,g1,he⟩:=R.bind_eq_ok he;refine⟨ρ,Fs,b,S,g1,λH1 s1=>?_⟩
  cases b with
  |true=>
   rw[if_pos rfl];rw[if_pos rfl] at he;exact⟨ρ,Fs,d,S.more s1,he,λv H' F s' r c f=>k v H' F (s1.trans s') r (c.mono s1 (λi hi=>by simp[Aj,hi]) λ_ z=>z) (λz=>by cases z)⟩
  |false=>
   rw[if_neg Bool.false_ne_true];rw[if_neg Bool.false_ne_true] at he;exact⟨ρ,Fs,d,S.more s1,he,λv H' F s' r c f=>k v H' F (s1.trans s') r (c.mono s1 (λi hi=>by simp[Aj,hi]) λ_ z=>z) (λz=>by cases z)⟩
 ·cases h
theorem Qgy:PA X [] (tA X.K C .nil):=am Bq λσ H Q h=>by
 obtain⟨ρ,Fs,ds,S,he,k⟩:=h;cases he;exact k _ _ _ (A6.refl _) A5.nil Src.nil
theorem Qdy{ps:Exs}{es:List Expr}(hs:Bx e=true)(hp:PE X e (tE X.K C p))(hr:PA X es (tA X.K C ps)):PA X (e::es) (tA X.K C (.cons p ps)):=by
 refine am (Ay hp hr (A9 hs _ _)) λσ H Q h=>?_
 obtain⟨ρ,Fs,ds,S,he,k⟩:=h;rw[Of] at he;obtain⟨d1,g1,he⟩:=R.bind_eq_ok he;obtain⟨ds',g2,he⟩:=R.bind_eq_ok he;cases he;refine⟨ρ,Fs,d1,S,g1,λv1 H1 F1 s1 r1 c1 _=>⟨ρ,Fs,ds',S.more s1,g2,λvs H2 F2 s2 r2 c2=>?_⟩⟩
 refine k _ _ _ (s1.trans s2) (.cons (r1.same s2) r2) (.app (c1.mono (A6.refl _) (λi hi=>?_) λ_ z=>z) (c2.mono s1 (λi hi=>?_) λ_ z=>z))
 ·exact List.mem_append_left _ hi
 ·exact List.mem_append_right _ hi
theorem Qgz{ps:Exs}(h:isE (.tup ps) X.env.scope X.N e=true)(hp:∀es,D7 ps X.env.scope X.N es=true->PA X es (tA X.K C ps)):PE X e (tE X.K C (.tup ps)):=by
 unfold isE at h;split at h
 ·refine pm (Qcp (hp _ h)) λσ H Q h=>?_
  obtain⟨ρ,Fs,d,S,he,k⟩:=h;rw[Qdk] at he;obtain⟨ds,g1,he⟩:=R.bind_eq_ok he;split at he
  ·rename_i hf
   cases he;refine⟨ρ,Fs,ds,S,g1,λvs H1 F1 s1 r1 c1=>⟨by rw[<-r1.length];exact Bn hf,λp hp=>?_⟩⟩
   exact k _ _ _ (s1.trans (Ah hp)) (Rep.new_tup hp r1) c1 (λz=>by cases z)
  ·cases he
 ·cases h
theorem Qh0{ps:Exs}(h:isE (.lst ps) X.env.scope X.N e=true)(hp:∀es,D7 ps X.env.scope X.N es=true->PA X es (tA X.K C ps)):PE X e (tE X.K C (.lst ps)):=by
 unfold isE at h;split at h
 ·refine pm (Uz (hp _ h)) λσ H Q h=>?_
  obtain⟨ρ,Fs,d,S,he,k⟩:=h;rw[Qdl] at he;obtain⟨ds,g1,he⟩:=R.bind_eq_ok he;split at he
  ·rename_i hf
   cases he;refine⟨ρ,Fs,ds,S,g1,λvs H1 F1 s1 r1 c1=>⟨by rw[<-r1.length];exact Bn hf,λp hp=>?_⟩⟩
   exact k _ _ _ (s1.trans (Ah hp)) (Rep.new_lst hp r1) (Src.new (s1.free hp) c1) (λ_ ds _=>⟨_,_,rfl,s1.free hp⟩)
  ·cases he
 ·cases h
theorem Bz{x:Str}(h:Ax X.env.scope x=true):Gl X x:=by
 unfold Ax at h;exact beq_iff_eq.mp h
theorem We{T:Tab}{n:Nat}{f:Str}{ds:List D}{d:D}(h:run T n f ds=.ok d):∃fn,T.lookup f=some fn:=by
 cases n with
 |zero=>cases h
 |succ n=>
  unfold run at h
  cases e:T.lookup f with
  |none=>rw[e] at h;cases h
  |some fn=>exact⟨fn,rfl⟩
theorem Qa5{T:Tab}{n:Nat}{f:Str}{ps:Exs}(M:Md T n X){fn:Fn}(e':T.lookup f=some fn)(h:isE (.call f ps) X.env.scope X.N e=true)(hp:∀es,D7 ps X.env.scope X.N es=true->PA X es (tA X.K (run T n) ps)) :
  PE X e (λσ H Q=>∃ρ Fs ds d,VR X.K H σ ρ Fs/\evs (run T n) ps ρ=.ok ds/\run T n f ds=.ok d/\∀v H' F,A6 H H'->Rep X.K H' d v F->Src ρ Fs H (Ev ps) F->(∀k,Cv fn.body k=true->ShP k H d F)->Q v H'):=by
 obtain⟨g,_,y,ys,_,rfl,h'⟩:=H9 h;clear h;have h:=h'
 ·simp only[Bool.and_eq_true,beq_iff_eq] at h
  obtain⟨⟨⟨rfl,h2⟩,h3⟩,h4⟩:=h;obtain⟨a,fd,pn,m1,m2,m3,m4⟩:=M.fn f fn e';have hy:Bx y=true/\∃q qs,ps=.cons q qs/\D7 qs X.env.scope X.N ys=true:=by
   cases ps with
   |nil=>unfold D7 at h4;cases h4
   |cons q qs=>
    unfold D7 at h4;rw[Bool.and_eq_true] at h4;exact⟨Ac h4.1,q,qs,rfl,h4.2⟩
  obtain⟨hy,q,qs,rfl,hys⟩:=hy;refine pmI (R8 m4 M.room (Bz h2) m1 m2 m3 .nil Qd0 (hp _ h4) h3 (A9 hy _ _) (K8 _ _ hys)) λpins s σ H Q I h=>?_
  obtain⟨ρ,Fs,ds,d,S,g1,he,k⟩:=h;refine⟨ρ,Fs,ds,S,g1,λvs H1 F1 s1 r1 c1=>?_⟩
  show spF X.mg (Tb T X.K X.mg) (Cv fn.body) X.K (run T n) f (vs++[]) H1 Q E0
  rw[List.append_nil];refine⟨(M.tbI I).same s1,.inl ⟨ds,F1,d,r1,he,λv H' G s' r' c' fr=>k v H' G (s1.trans s') r' (λb hb=>?_) (λk z=>(fr k z).mono s1)⟩⟩
  rcases c' b hb with z|z
  ·exact .inl (s1.free z)
  ·exact c1 b z
theorem Qdz{T:Tab}{n:Nat}{f:Str}{ps:Exs}(M:Md T n X)(h:isE (.call f ps) X.env.scope X.N e=true)(hp:∀es,D7 ps X.env.scope X.N es=true->PA X es (tA X.K (run T n) ps)):PE X e (tE X.K (run T n) (.call f ps)):=by
 cases e':T.lookup f with
 |none=>
  intro pins s σ H Q I h;obtain⟨ρ,Fs,d,S,he,k⟩:=h;rw[Rg] at he;obtain⟨ds,g1,he⟩:=R.bind_eq_ok he;obtain⟨fn,e''⟩:=We he;rw[e'] at e'';cases e''
 |some fn=>
  refine pm (Qa5 M e' h hp) λσ H Q h=>?_
  obtain⟨ρ,Fs,d,S,he,k⟩:=h;rw[Rg] at he;obtain⟨ds,g1,he⟩:=R.bind_eq_ok he;exact⟨ρ,Fs,ds,d,S,g1,he,λv H' F s r c _=>k v H' F s r c λz=>by cases z⟩
def tEX(K:Frag)(C:Str->List D->R D)(p:Ex)(W:Xl->Hp->Prop):TE:=λσ H _=>∃ρ Fs c,VR K H σ ρ Fs/\xE C p ρ=some c/\∀H',A6 H H'->W c H'
theorem Qa6{T:Tab}{n:Nat}{f:Str}{ps:Exs}{W:Xl->Hp->Prop}(M:Md T n X)(hP:Ct (CXx X.prog X.w) X (EW X.K X.mg W))(h:isE (.call f ps) X.env.scope X.N e=true)(hp:∀es,D7 ps X.env.scope X.N es=true->PA X es (tA X.K (run T n) ps)):PE X e (tEX X.K (run T n) (.call f ps) W):=by
 obtain⟨g,_,y,ys,_,rfl,h'⟩:=H9 h;clear h;have h:=h'
 ·simp only[Bool.and_eq_true,beq_iff_eq] at h
  obtain⟨⟨⟨rfl,h2⟩,h3⟩,h4⟩:=h;have key:∀{ρ:Env} {c:Xl},xE (run T n) (.call f ps) ρ=some c->∃ds,evs (run T n) ps ρ=.ok ds/\run T n f ds=.xn c.1 c.2:=λ{ρ c} hx=>by
   have hx':(match evs (run T n) ps ρ with|.ok vs=>(match run T n f vs with|.xn c d=>some (c,d)|_=>none)|_=>none)=some c:=hx
   cases e1:evs (run T n) ps ρ with
   |ok ds=>
    rw[e1] at hx';simp only at hx'
    cases e2:run T n f ds with
    |xn c' dd=>rw[e2] at hx';cases hx';exact⟨ds,rfl,e2⟩
    |ok d=>rw[e2] at hx';cases hx'
    |un=>rw[e2] at hx';cases hx'
   |xn _ _=>rw[e1] at hx';cases hx'
   |un=>rw[e1] at hx';cases hx'
  cases e:T.lookup f with
  |none=>
   intro pins s σ H Q I h;obtain⟨ρ,Fs,c,S,he,k⟩:=h;obtain⟨ds,_,he⟩:=key he
   cases n with
   |zero=>cases he
   |succ n=>unfold run at he;rw[e] at he;cases he
  |some fn=>
   obtain⟨a,fd,pn,m1,m2,m3,m4⟩:=M.fn f fn e;have hy:Bx y=true/\∃q qs,ps=.cons q qs/\D7 qs X.env.scope X.N ys=true:=by
    cases ps with
    |nil=>unfold D7 at h4;cases h4
    |cons q qs=>
     unfold D7 at h4;rw[Bool.and_eq_true] at h4;exact⟨Ac h4.1,q,qs,rfl,h4.2⟩
   obtain⟨hy,q,qs,rfl,hys⟩:=hy;refine pmI (R8 m4 M.room (Bz h2) m1 m2 m3 .nil hP (hp _ h4) h3 (A9 hy _ _) (K8 _ _ hys)) λpins s σ H Q I h=>?_
   obtain⟨ρ,Fs,c,S,he,k⟩:=h;obtain⟨ds,g1,he⟩:=key he;refine⟨ρ,Fs,ds,S,g1,λvs H1 F1 s1 r1 c1=>?_⟩
   show spF X.mg (Tb T X.K X.mg) (Cv fn.body) X.K (run T n) f (vs++[]) H1 Q (EW X.K X.mg W)
   rw[List.append_nil];exact⟨(M.tbI I).same s1,.inr ⟨ds,F1,c.1,c.2,r1,he,λv dx H' e s' xd=>⟨c,e,xd,k H' (s1.trans s')⟩⟩⟩
theorem Qbs{K:Frag}{H:Hp}{ds:List D}{vs:List V}{F:List Addr}{i:Int}{d:D}(r:A5 K H ds vs F)(h:atD ds i=.ok d):∃v F1,atI vs i=some v/\Rep K H d v F1/\∀a∈F1,a∈F:=by
 unfold atD at h;split at h
 ·rename_i d' e
  cases h;have e2:Lf.ixN ds.length i=L2.ixN vs.length i:=by rw[r.length];rfl
  cases e1:Lf.ixN ds.length i with
  |none=>rw[e1] at e;cases e
  |some j=>
   rw[e1] at e;obtain⟨v,F1,g1,g2,g3⟩:=r.get (show ds[j]?=some _ from e)
   refine⟨v,F1,?_,g2,g3⟩;unfold atI;rw[<-e2,e1];exact g1
 ·cases h
theorem Qh1(h:isE (.idx p q) X.env.scope X.N e=true)(hp:∀e,isE p X.env.scope X.N e=true->PE X e (tE X.K C p))(hq:∀e,isE q X.env.scope X.N e=true->PE X e (tE X.K C q)):PE X e (tE X.K C (.idx p q)):=by
 unfold isE at h;split at h
 ·rw[Bool.and_eq_true] at h
  refine pm (Qfu Qcu (hp _ h.1) (hq _ h.2) (Qgu (Ac h.2))) λσ H Q h=>?_
  obtain⟨ρ,Fs,d,S,he,k⟩:=h;rw[Qdj] at he;obtain⟨d1,g1,he⟩:=R.bind_eq_ok he;obtain⟨d2,g2,he⟩:=R.bind_eq_ok he;refine Nj S g1 g2 λv1 v2 H2 F1 F2 s r1 r2 c1 c2=>?_
  cases d2 with
  |int i=>
   obtain⟨rfl,_⟩:=r2
   cases d1 with
   |lst xs=>
    obtain⟨a,vs,F',rfl,rr,hq,hs⟩:=r1.lst_;obtain⟨v,G,e1,e2,e3⟩:=Qbs rr he;exact .inl ⟨a,vs,i,v,rfl,rfl,hq,e1,k v H2 G s e2 (c1.mono (A6.refl _) (λ_ z=>z) λb hb=>hs b (e3 b hb)) (λz=>by cases z)⟩
   |tup xs=>
    obtain⟨a,vs,rfl,hq,rr⟩:=r1;obtain⟨v,G,e1,e2,e3⟩:=Qbs rr he;exact .inr (.inl ⟨a,vs,i,v,rfl,rfl,hq,e1,k v H2 G s e2 (c1.mono (A6.refl _) (λ_ z=>z) e3) (λz=>by cases z)⟩)
   |str z=>
    obtain⟨rfl,rfl⟩:=r1;have he':(if Av z.length then (match (Lf.ixN z.length i).bind λj=>z.cps[j]? with|some c=>R.ok (D.str ⟨#[c]⟩)|none=>.un) else .un)=.ok d:=he
    split at he'
    ·rename_i hf
     split at he'
     ·rename_i c ec
      cases he';refine .inr (.inr ⟨z,i,c,rfl,rfl,Bn hf,?_,k _ H2 [] s ⟨rfl,rfl⟩ Src.nil (λz=>by cases z)⟩)
      unfold atI;rw[show z.cps.toList.length=z.length from Array.length_toList,<-ec]
      show ((Lf.ixN z.length i).bind λj=>z.cps.toList[j]?)=_
      simp
     ·cases he'
    ·cases he'
   |_=>cases he
  |_=>cases d1<;>cases he
 ·cases h
def tP(K:Frag)(C:Str->List D->R D)(ps:Exs):TO:=λσ H Q=>∃ρ Fs ds o,VR K H σ ρ Fs/\evs C ps ρ=.ok ds/\bound ds=.ok o/\∀H',A6 H H'->Q o H'
theorem Wf{ps:Exs}{o:Option Expr}(h:isO ps X.env.scope X.N o=true)(hp:∀p e,ps=.cons p .nil->isE p X.env.scope X.N e=true->PE X e (tE X.K C p)):PO X o (tP X.K C ps):=by
 unfold isO at h;split at h
 ·split at h
  ·intro pins s σ H Q I h
   obtain⟨ρ,Fs,ds,o,S,he,hb,k⟩:=h;cases he;cases hb;exact Yg pins s σ H Q I (k H (A6.refl _))
  ·cases h
 ·rename_i p
  split at h
  ·intro pins s σ H Q I h'
   obtain⟨ρ,Fs,ds,o,S,he,hb,k⟩:=h';rw[Of,Zf] at he;obtain⟨d,g1,he⟩:=R.bind_eq_ok he;cases he
   cases d with
   |int i=>
    cases hb;refine Yh (hp _ _ rfl h) pins s σ H Q I ⟨ρ,Fs,_,S,g1,λv H1 F s1 r1 _ _=>?_⟩
    obtain⟨rfl,_⟩:=r1;exact⟨i,rfl,k H1 s1⟩
   |_=>cases hb
  ·cases h
 ·cases h
theorem Qh2{lo hi:Exs}(h:isE (.slc p lo hi) X.env.scope X.N e=true)(hp:∀e,isE p X.env.scope X.N e=true->PE X e (tE X.K C p))
  (hl:∀o,isO lo X.env.scope X.N o=true->PO X o (tP X.K C lo)) (hh:∀o,isO hi X.env.scope X.N o=true->PO X o (tP X.K C hi)):PE X e (tE X.K C (.slc p lo hi)):=by
 unfold isE at h;split at h
 ·simp only[Bool.and_eq_true] at h
  refine pm (V1 (Yj.or (Qcr.or (Yn.or Qd7))) (hp _ h.1.1) (hl _ h.1.2) (hh _ h.2)) λσ H Q h=>?_
  obtain⟨ρ,Fs,d,S,he,k⟩:=h;rw[Qh] at he;obtain⟨d1,g1,he⟩:=R.bind_eq_ok he;obtain⟨l1,g2,he⟩:=R.bind_eq_ok he;obtain⟨o1,g3,he⟩:=R.bind_eq_ok he;obtain⟨l2,g4,he⟩:=R.bind_eq_ok he;obtain⟨o2,g5,he⟩:=R.bind_eq_ok he;refine⟨ρ,Fs,d1,S,g1,λv1 H1 F1 s1 r1 c1 _=>⟨ρ,Fs,l1,o1,S.more s1,g2,g3,λH2 s2=>⟨ρ,Fs,l2,o2,(S.more s1).more s2,g4,g5,λH3 s3=>?_⟩⟩⟩
  cases d1 with
  |lst xs=>
   cases he;have r1':=(r1.same s2).same s3;obtain⟨a,vs,F',rfl,rr,hq,hs⟩:=r1'.lst_;obtain⟨G,g,gs⟩:=rr.cut o1 o2;have s13:=s1.trans (s2.trans s3);refine .inl ⟨a,vs,rfl,hq,λp hp=>k _ _ _ (s13.trans (Ah hp)) (Rep.new_lst hp g) (Src.new (s13.free hp) (c1.mono (A6.refl _) (λi hi=>?_) λb hb=>hs b (gs b hb))) (λ_ ds _=>⟨_,_,rfl,s13.free hp⟩)⟩
   simp[Aj,hi]
  |tup xs=>
   cases he;have r1':=(r1.same s2).same s3;obtain⟨a,vs,rfl,hq,rr⟩:=r1';have s13:=s1.trans (s2.trans s3);have ix:∀n d o,Lf.sIx n d o=HT.sIx n d o:=λn d o=>by cases o<;>rfl
   by_cases hw:sIx xs.length 0 o1=0/\sIx xs.length xs.length o2=xs.length
   ·have hc:Lf.cut xs o1 o2=xs:=by
     unfold Lf.cut;rw[hw.1,hw.2,List.drop_zero,Nat.sub_zero,List.take_length]
    rw[hc] at k;refine .inr (.inr (.inl ⟨a,vs,rfl,hq,by rw[<-rr.length,<-ix,<-ix];exact hw,k _ _ F1 s13 ⟨a,vs,rfl,hq,rr⟩ (c1.mono (A6.refl _) (λi hi=>?_) λ_ z=>z) (λ_ ds z=>by cases z)⟩))
    simp[Aj,hi]
   ·obtain⟨G,g,gs⟩:=rr.cut o1 o2
    refine .inr (.inl ⟨a,vs,rfl,hq,by rw[<-rr.length,<-ix,<-ix];exact hw,λp hp=>k _ _ _ (s13.trans (Ah hp)) (Rep.new_tup hp g) (c1.mono (A6.refl _) (λi hi=>?_) gs) (λ_ ds z=>by cases z)⟩)
    simp[Aj,hi]
  |str z=>
   have he':(if Av z.length then R.ok (D.str ⟨(Lf.cut z.cps.toList o1 o2).toArray⟩) else .un)=.ok d:=he
   split at he'
   ·rename_i hf
    cases he';obtain⟨rfl,rfl⟩:=r1;have ix:∀n d o,Lf.sIx n d o=HT.sIx n d o:=λn d o=>by cases o<;>rfl
    refine .inr (.inr (.inr ⟨z,rfl,Bn hf,?_⟩));have hk:=k (.str ⟨(Lf.cut z.cps.toList o1 o2).toArray⟩) H3 [] (s1.trans (s2.trans s3)) ⟨rfl,rfl⟩ Src.nil (λ_ ds z=>by cases z)
    unfold Lf.cut at hk;rw[ix,ix,show z.cps.toList.length=z.length from Array.length_toList] at hk
    exact hk
   ·cases he'
  |_=>cases he
 ·cases h
theorem Ov{K:Frag}{H:Hp}{d:D}{v:V}(h:Rep K H d v []):∀n:Nat,A5 K H (List.replicate n d) (List.replicate n [v]).flatten []
 |0=>⟨rfl,rfl⟩
 |n+1=>by
  have:=A5.cons h (Ov h n);simpa [List.replicate_succ] using this
theorem Qh3(h:isE (.rep p q) X.env.scope X.N e=true)(hp:∀e,isE p X.env.scope X.N e=true->PE X e (tE X.K C p))(hq:∀e,isE q X.env.scope X.N e=true->PE X e (tE X.K C q)):PE X e (tE X.K C (.rep p q)):=by
 unfold isE at h;split at h
 ·rename_i x lp n pos
  simp only[Bool.and_eq_true] at h;refine pm (Uu Qcw (Uz (Ay (hp _ h.1) Bq (A9 (Ac h.1) _ _))) (hq _ h.2)) λσ H Q h=>?_
  obtain⟨ρ,Fs,d,S,he,k⟩:=h;rw[Qdm] at he;obtain⟨d1,g1,he⟩:=R.bind_eq_ok he;obtain⟨d2,g2,he⟩:=R.bind_eq_ok he
  cases d2 with
  |int m=>
   have he':(if noL d1&&decide (0<=m)&&Av m.toNat then R.ok (D.lst (List.replicate m.toNat d1)) else .un)=.ok d:=he
   split at he'
   ·rename_i hc
    cases he';simp only[Bool.and_eq_true] at hc;obtain⟨⟨c1,c2⟩,c3⟩:=hc;refine⟨ρ,Fs,d1,S,g1,λv1 H1 F1 s1 r1 _ _=>?_⟩
    have e0:=r1.noL c1;subst e0;refine⟨by rw[sizeLine_eq];simp,λl hl=>⟨ρ,Fs,_,(S.more s1).more (Ah hl),g2,λv2 H2 F2 s2 r2 _ _=>?_⟩⟩
    obtain⟨rfl,rfl⟩:=r2;have b:0<=m:=of_decide_eq_true c2;have b2:m.toNat<=line:=of_decide_eq_true c3;rw[Dc] at b2;have hH:H2 l=some (.lst [v1]):=s2 _ _ Az;refine⟨l,m,[v1],rfl,rfl,hH,?_,?_,by have:=Bn c3;simpa using this,λp hp'=>?_⟩
    ·omega
    ·omega
    ·refine k _ _ [p] (s1.trans ((Ah hl).trans (s2.trans (Ah hp')))) (Rep.new_lst hp' (Ov ((r1.same (Ah hl)).same s2) _)) (λa ha=>?_) (λ_ ds _=>⟨_,_,rfl,s1.free ((Ah hl).free (s2.free hp'))⟩)
     have:a=p:=by simpa using ha
     subst this;exact .inl (s1.free ((Ah hl).free (s2.free hp')))
   ·cases he'
  |_=>cases he
 ·cases h
end
section
variable{X:Cx}{C:Str->List D->R D}{pos:Pos}{e:Expr}{p q r:Ex}
def rB(K:Frag)(f:B1):List V->Hp->VK->Prop:=λxs H Q=>∃x d1 F1 d,xs=[x]/\Rep K H d1 x F1/\Er f d1=.ok d /\
 ∀v H' F,A6 H H'->Rep K H' d v F->(∀a∈F,H a=none\/a∈F1)->((f=.list\/f=.sorted)->∀ds,d=.lst ds->∃a F',F=a::F'/\H a=none)->Q v H'
theorem Wg:Be X (.builtin "len") (rB X.K .len):=by
 intro pins s σ H xs us Q I rv h;obtain⟨x,d1,F1,d,rfl,h1,e,k⟩:=h;have key:∀ds,Bo d1=some ds->d=.int ds.length->wpAny (model X.prog X.w) X.A (call (.builtin "len") us) (EP X pins σ Q) X.xe s:=λds h2 h3=>by
  subst h3;obtain⟨a,vs,F',rfl,rr,hq,_⟩:=h1.seq h2;refine Mu pins s σ H _ us Q I rv ⟨a,vs,rfl,hq,?_⟩;have:=k (.int ds.length) H [] (A6.refl _) Br (λ_ z=>nomatch z) (λ_ ds z=>by cases z)
  rw[rr.length] at this;exact this
 cases d1 with
 |lst ds=>cases e;exact key ds rfl rfl
 |tup ds=>cases e;exact key ds rfl rfl
 |str z=>
  have e':(if Av z.length then R.ok (D.int z.length) else .un)=.ok d:=e
  split at e'
  ·rename_i hf
   cases e';obtain⟨rfl,rfl⟩:=h1;exact Mv pins s σ H _ us Q I rv ⟨z,rfl,Bn hf,k _ _ _ (A6.refl _) Br (λ_ z=>nomatch z) (λ_ ds z=>by cases z)⟩
  ·cases e'
 |_=>cases e
theorem Qa7:Be X (.type "tuple") (rB X.K .tuple):=by
 intro pins s σ H xs us Q I rv h;obtain⟨x,d1,F1,d,rfl,h1,e,k⟩:=h
 cases d1 with
 |lst ds=>
  cases e;obtain⟨a,vs,F',rfl,rr,hq,hs⟩:=h1.lst_;refine G4 pins s σ H _ us Q I rv ⟨a,vs,rfl,.inl ⟨hq,λp hp=>?_⟩⟩
  exact k _ _ _ (Ah hp) (Rep.new_tup hp rr) (λb hb=>.inr (hs b hb)) (λz=>by rcases z with z|z<;>cases z)
 |tup ds=>
  cases e;obtain⟨a,vs,rfl,hq,rr⟩:=id h1;refine G4 pins s σ H _ us Q I rv ⟨a,vs,rfl,.inr ⟨hq,?_⟩⟩;exact k _ _ _ (A6.refl _) h1 (λb hb=>.inr hb) (λz=>by rcases z with z|z<;>cases z)
 |_=>cases e
theorem Qe0:Be X (.type "list") (rB X.K .list):=by
 intro pins s σ H xs us Q I rv h;obtain⟨x,d1,F1,d,rfl,h1,e,k⟩:=h;have key:∀ds,Bo d1=some ds->d=.lst ds->wpAny (model X.prog X.w) X.A (call (.type "list") us) (EP X pins σ Q) X.xe s:=λds h2 h3=>by
  subst h3;obtain⟨a,vs,F',rfl,rr,hq,hs⟩:=h1.seq h2;refine Mw pins s σ H _ us Q I rv ⟨a,vs,rfl,hq,λp hp=>?_⟩
  refine k _ _ _ (Ah hp) (Rep.new_lst hp rr) (λb hb=>?_) (λ_ ds _=>⟨_,_,rfl,hp⟩)
  rcases List.mem_cons.mp hb with rfl|hb
  ·exact .inl hp
  ·exact .inr (hs b hb)
 cases d1 with
 |lst ds=>cases e;exact key ds rfl rfl
 |tup ds=>cases e;exact key ds rfl rfl
 |_=>cases e
theorem Wh{z:Str}{i:Int}(h:Od z=some i):∃k:Nat,z=⟨#[48+k]⟩/\k<=9/\i=k:=by
 unfold Od at h
 cases hc:Qd z with
 |none=>rw[hc] at h;cases h
 |some c=>
  rw[hc] at h;have h':(if 48<=c/\c<=57 then some ((c:Int)-48) else none)=some i:=h
  split at h'
  ·rename_i hh
   cases h';refine⟨c-48,?_,by omega,by omega⟩
   rw[show 48+(c-48)=c by omega]
   exact Ry hc
  ·cases h'
theorem Qh4:Be X (.type "int") (rB X.K .int):=by
 intro pins s σ H xs us Q I rv h;obtain⟨x,d1,F1,d,rfl,h1,e,k⟩:=h
 cases d1 with
 |bl b=>
  cases e;obtain⟨rfl,rfl⟩:=h1;exact Le pins s σ H _ us Q I rv (.inr ⟨b,rfl,k _ _ _ (A6.refl _) Br (λ_ z=>nomatch z) (λ_ ds z=>by cases z)⟩)
 |int b=>
  cases e;obtain⟨rfl,rfl⟩:=h1;exact Le pins s σ H _ us Q I rv (.inl ⟨b,rfl,k _ _ _ (A6.refl _) Br (λ_ z=>nomatch z) (λ_ ds z=>by cases z)⟩)
 |str z=>
  have e':(match Od z with|some i=>R.ok (D.int i)|none=>.un)=.ok d:=e
  cases hz:Od z with
  |none=>rw[hz] at e';cases e'
  |some i=>
   rw[hz] at e';cases e';obtain⟨c,rfl,hc,rfl⟩:=Wh hz;obtain⟨rfl,rfl⟩:=h1;exact Vi pins s σ H _ us Q I rv ⟨c,rfl,hc,k _ _ _ (A6.refl _) Br (λ_ z=>nomatch z) (λ_ ds z=>by cases z)⟩
 |_=>cases e
theorem Qh5:Be X (.type "str") (rB X.K .str):=by
 intro pins s σ H xs us Q I rv h;obtain⟨x,d1,F1,d,rfl,h1,e,k⟩:=h
 cases d1 with
 |int i=>
  have e':(if 0<=i/\i<=9 then R.ok (D.str ⟨#[48+i.toNat]⟩) else .un)=.ok d:=e
  split at e'
  ·rename_i hi
   cases e';obtain⟨rfl,rfl⟩:=h1;exact T5 pins s σ H _ us Q I rv ⟨i,rfl,hi.1,hi.2,k _ _ _ (A6.refl _) ⟨rfl,rfl⟩ (λ_ z=>nomatch z) (λ_ ds z=>by cases z)⟩
  ·cases e'
 |_=>cases e
theorem Iu{c:Nat}:∀{L:List Str},L≠[]->(∀p∈L,c∉p.cps.toList)->A0 c (Str.join ⟨#[c]⟩ L).cps.toList=L.map λp=>p.cps.toList
 |[],h,_=>absurd rfl h
 |[p],_,h=>Es (h p List.mem_cons_self)
 |p::q::r,_,h=>by
  have ih:=Iu (L:=q::r) (by simp) λp hp=>h p (List.mem_cons_of_mem _ hp)
  have e:(Str.join ⟨#[c]⟩ (p::q::r)).cps.toList=p.cps.toList++c::(Str.join ⟨#[c]⟩ (q::r)).cps.toList:=by
   show ((p.cps++#[c])++(Str.join ⟨#[c]⟩ (q::r)).cps).toList=_
   simp
  rw[e,E6 (h p List.mem_cons_self),ih];rfl
theorem Wi(c:Nat)(z:Str):Txt.split z ⟨#[c]⟩=Aq c z:=by
 have h1:=StrLaws.split_free z c;have h2:=StrLaws.join_split z ⟨#[c]⟩;have h3:=PyProof.Rows.split_pos z ⟨#[c]⟩;have h4:=Iu (c:=c) (L:=Txt.split z ⟨#[c]⟩) (λe=>by rw[e] at h3;exact absurd h3 (by decide)) h1
 unfold Aq;rw[h2] at h4;rw[h4,List.map_map];exact(List.map_id _).symm.trans (List.map_congr_left λp _=>rfl)
theorem Ow{K:Frag}{H:Hp}:∀{ds:List D} {zs:List Str} {vs:List V} {F:List Addr},E3 ds=some zs->A5 K H ds vs F->vs=zs.map V.str
 |[],_,_,_,e,⟨rfl,rfl⟩=>by cases e;rfl
 |.str x::ds,zs,_,_,e,⟨v,vs,F,G,rfl,rfl,h,g⟩=>by
  rw[E3] at e
  cases e2:E3 ds with
  |none=>rw[e2] at e;cases e
  |some zs'=>
   rw[e2] at e;cases e;obtain⟨rfl,rfl⟩:=h;rw[Ow e2 g];rfl
 |.non::_,_,_,_,e,_=>by cases e
 |.int _::_,_,_,_,e,_=>by cases e
 |.bl _::_,_,_,_,e,_=>by cases e
 |.tup _::_,_,_,_,e,_=>by cases e
 |.lst _::_,_,_,_,e,_=>by cases e
theorem Ox{K:Frag}{H:Hp}:∀zs:List Str,A5 K H (zs.map D.str) (zs.map V.str) []
 |[]=>⟨rfl,rfl⟩
 |z::zs=>⟨_,_,[],[],rfl,rfl,⟨rfl,rfl⟩,Ox zs⟩
theorem Wj{cp:Pos}{y:Expr}(hv:Bx y=true):((backTo cp (starEach [y] X.env)).all (λx=>!x.1)&&(backToKw cp (keywordEach [] X.env)).all (λx=>x.1.isSome)
   && decide ([y].length+([]:List Keyword).length+(if ([]:List Keyword).isEmpty then 0 else 1)<30))=true:=by rw[A9 hv];rfl
theorem Qj9{x:Str}(h:isE (.jn x p) X.env.scope X.N e=true)(hp:∀e,isE p X.env.scope X.N e=true->PE X e (tE X.K C p)):PE X e (tE X.K C (.jn x p)):=by
 obtain⟨o',ap,y,cp,rfl,h'⟩:=Rn h;clear h;have h:=h';rw[Bool.and_eq_true,Bool.and_eq_true] at h;obtain⟨⟨h1,h2⟩,h3⟩:=h;have hv:=Ac h3;have bm:=Ip PySem.F.plainAttrs_str PySem.F.slot_str_join PySem.F.type_str_join Yp (Rx (C:=C) h2) (Ay (hp _ h3) Bq (A9 hv _ _)) (Jd (Ac h2) _ _) (Wj hv) h1 (A9 hv _ _) rfl;refine pm bm λσ H Q h=>?_
 obtain⟨ρ,Fs,d,S,he,k⟩:=h;rw[Rh] at he;obtain⟨d1,g1,he⟩:=R.bind_eq_ok he;refine⟨ρ,Fs,.str x,S,rfl,λv H1 F1 s1 r1 c1 _=>?_⟩
 obtain⟨rfl,rfl⟩:=r1;refine⟨rfl,⟨ρ,Fs,d1,S.more s1,g1,λw H2 F2 s2 r2 c2 _=>?_⟩⟩
 cases d1 with
 |lst ds=>
  have he':(match E3 ds with|some zs=>(if Av ((zs.map Str.length).sum+zs.length*x.length) then R.ok (D.str (Str.join x zs)) else .un)|none=>.un)=.ok d:=he
  cases e2:E3 ds with
  |none=>rw[e2] at he';cases he'
  |some zs=>
   rw[e2] at he';simp only at he';split at he'
   ·rename_i hf
    cases he';obtain⟨a,vs,F',rfl,rr,hq,_⟩:=r2.lst_;rw[Ow e2 rr] at hq;refine⟨x,a,zs,rfl,rfl,hq,?_,k _ _ [] (s1.trans s2) ⟨rfl,rfl⟩ Src.nil (λz=>by cases z)⟩
    have:=Bn hf;unfold JoinOk;rw[Bool.not_eq_true',StrLaws.joinTotal];unfold Builtin.Str.tooLong;exact decide_eq_false (Nat.not_lt.mpr this)
   ·cases he'
 |_=>cases he
theorem Qh6{c:Nat}(h:isE (.spl p c) X.env.scope X.N e=true)(hp:∀e,isE p X.env.scope X.N e=true->PE X e (tE X.K C p)):PE X e (tE X.K C (.spl p c)):=by
 obtain⟨o',ap,y,cp,rfl,h'⟩:=Nd h;clear h;have h:=h';rw[Bool.and_eq_true,Bool.and_eq_true] at h;obtain⟨⟨h1,h2⟩,h3⟩:=h;have hv:=Ac h3;have bm:=Ip PySem.F.plainAttrs_str PySem.F.slot_str_split PySem.F.type_str_split V5 (hp _ h2) (Ay (Rx (C:=C) h3) Bq (A9 hv _ _)) (Jd (Ac h2) _ _) (Wj hv) h1 (A9 hv _ _) rfl;refine pm bm λσ H Q h=>?_
 obtain⟨ρ,Fs,d,S,he,k⟩:=h;rw[Eu] at he;obtain⟨d1,g1,he⟩:=R.bind_eq_ok he;refine⟨ρ,Fs,d1,S,g1,λv H1 F1 s1 r1 c1 _=>?_⟩
 cases d1 with
 |str z=>
  have he':(if Av (z.length+2) then R.ok (D.lst ((Aq c z).map .str)) else .un)=.ok d:=he
  split at he'
  ·rename_i hf
   cases he';obtain⟨rfl,rfl⟩:=r1;refine⟨rfl,⟨ρ,Fs,.str ⟨#[c]⟩,S.more s1,rfl,λw H2 F2 s2 r2 c2 _=>?_⟩⟩
   obtain⟨rfl,rfl⟩:=r2;refine⟨z,c,rfl,rfl,Bn hf,λq hq=>?_⟩
   rw[Wi];exact k _ _ [q] ((s1.trans s2).trans (Ah hq)) (Rep.new_lst hq (Ox _)) (Src.new ((s1.trans s2).free hq) Src.nil) (λ_ ds z=>⟨_,_,rfl,(s1.trans s2).free hq⟩)
  ·cases he'
 |_=>cases he
theorem Qh7{T:Tab}{n i:Nat}(M:Md T n X)(h:isE (.cst i) X.env.scope X.N e=true):PE X e (tE X.K C (.cst i)):=by
 unfold isE at h;split at h
 ·simp only[Bool.and_eq_true,beq_iff_eq] at h
  obtain⟨⟨h1,h2⟩,h3⟩:=h
  cases e2:K0[i]? with
  |none=>rw[e2] at h1;cases h1
  |some q=>
   rw[e2] at h1;have h1':=beq_iff_eq.mp h1;obtain⟨u,v,m1,m2,m3⟩:=(M.cs q (List.mem_of_getElem? e2)).ex;rw[h1'] at m1;refine pm (R0 (Bz h2) m1 m2 h3) λσ H Q h=>?_
   obtain⟨ρ,Fs,d,S,he,k⟩:=h;rw[Et,e2] at he;cases he;exact k v H [] (A6.refl _) (m3 H) Src.nil (λz=>by cases z)
 ·cases h
theorem M3{f:B1}{σ:L2.St}{H:Hp}{Q:VK}(h:tE X.K C (.b1 f p) σ H Q):tCB (rB X.K f) (Jr (tE X.K C p) Q3) σ H Q:=by
 obtain⟨ρ,Fs,d,S,he,k⟩:=h;rw[Qg6] at he;obtain⟨d1,g1,he⟩:=R.bind_eq_ok he;refine⟨ρ,Fs,d1,S,g1,λv1 H1 F1 s1 r1 c1 _=>⟨v1,d1,F1,d,rfl,r1,he,λv H' F s' r' c' f'=>k v H' F (s1.trans s') r' (λa ha=>?_) λz ds e=>?_⟩⟩
 ·rcases c' a ha with z|z
  ·exact .inl (s1.free z)
  ·exact c1 a z
 ·obtain⟨a,F',e1,e2⟩:=f' (by cases f<;>first|exact .inl rfl|exact .inr rfl|cases z) ds e
  exact⟨a,F',e1,s1.free e2⟩
theorem Qja{T:Tab}{n:Nat}{f:B1}(M:Md T n X)(hs:Be X (.builtin "sorted") (rB X.K .sorted))(h:isE (.b1 f p) X.env.scope X.N e=true)(hp:∀e,isE p X.env.scope X.N e=true->PE X e (tE X.K C p)):PE X e (tE X.K C (.b1 f p)):=by
 obtain⟨_,_,_,_,rfl,h'⟩:=On h;clear h;have h:=h'
 ·simp only[Bool.and_eq_true,beq_iff_eq] at h
  obtain⟨⟨rfl,h2⟩,h3⟩:=h;have hx:=Ac h3;have hg:=Bz h2;have hd:∀f:B1,b1N f∈Qm:=by intro f;cases f<;>decide +kernel
  have hm:=M.blt _ (hd f);have ha:=Ay (hp _ h3) Bq (A9 hx _ _);have b1:bootBuiltins (b1N .len)=some (.builtin "len"):=PySem.boot_len;have b2:bootBuiltins (b1N .tuple)=some (.type "tuple"):=by decide +kernel
  have b3:bootBuiltins (b1N .list)=some (.type "list"):=by decide +kernel
  have b4:bootBuiltins (b1N .sorted)=some (.builtin "sorted"):=by decide +kernel
  have b5:bootBuiltins (b1N .int)=some (.type "int"):=by decide +kernel
  have b8:bootBuiltins (b1N .str)=some (.type "str"):=by decide +kernel
  cases f with
  |len=>exact pm (El Wg hg hm b1 ha (by decide +kernel) (by decide +kernel) (A9 hx _ _) rfl) λσ H Q h=>M3 h
  |tuple=>exact pm (Fj Qa7 hg hm b2 ha (by decide +kernel) (by decide +kernel) (A9 hx _ _) rfl) λσ H Q h=>M3 h
  |list=>exact pm (Fj Qe0 hg hm b3 ha (by decide +kernel) (by decide +kernel) (A9 hx _ _) rfl) λσ H Q h=>M3 h
  |sorted=>exact pm (El hs hg hm b4 ha (by decide +kernel) (by decide +kernel) (A9 hx _ _) rfl) λσ H Q h=>M3 h
  |int=>exact pm (Fj Qh4 hg hm b5 ha (by decide +kernel) (by decide +kernel) (A9 hx _ _) rfl) λσ H Q h=>M3 h
  |str=>exact pm (Fj Qh5 hg hm b8 ha (by decide +kernel) (by decide +kernel) (A9 hx _ _) rfl) λσ H Q h=>M3 h
def tyS:Ty->String
 |.int => "int"
 |.bool => "bool"
 |.list => "list"
 |.tuple => "tuple"
 |.str => "str"
theorem Qh8{t:Ty}:Be X (.builtin "isinstance") (λxs H Q=>∃x d F,xs=[x,.ty (tyS t)]/\Rep X.K H d x F/\Q (.bl (D0 t d)) H):=by
 intro pins s σ H xs us Q I rv h;obtain⟨x,d,F,rfl,h,k⟩:=h;obtain⟨u,w,rfl,ru,rw'⟩:=Ab.two rv;cases rw';have fin:∀tk,EP X pins σ Q (.bool (D0 t d)) { s with toks:=tk }:=λtk=>⟨.bl _,H,I.tok tk,rfl,k⟩
 cases d with
 |non=>obtain⟨rfl,_⟩:=h;cases ru;cases t<;>exact PySem.W.kia_one PySem.W.kitx_none I.kIn True.intro rfl (λz=>nomatch z) fin
 |bl b=>obtain⟨rfl,_⟩:=h;cases ru;cases t<;>exact PySem.W.kia_one PySem.W.kitx_bool I.kIn True.intro rfl (λz=>nomatch z) fin
 |int b=>obtain⟨rfl,_⟩:=h;obtain⟨tk,rfl⟩:=ru;cases t<;>exact PySem.W.kia_one PySem.W.kitx_int I.kIn True.intro rfl (λz=>nomatch z) fin
 |str b=>obtain⟨rfl,_⟩:=h;obtain⟨tk,rfl⟩:=ru;cases t<;>exact PySem.W.kia_one PySem.W.kitx_str I.kIn True.intro rfl (λz=>nomatch z) fin
 |tup ds=>
  obtain⟨a,vs,rfl,hq,_⟩:=h;cases ru;obtain⟨o,e,c,_⟩:=I.tupObj hq;cases t<;>exact PySem.W.kia_one PySem.W.kitx_tuple I.kIn ⟨o,e,c⟩ rfl (λz=>nomatch z) fin
 |lst ds=>
  obtain⟨a,vs,F',rfl,_,hq,_⟩:=h.lst_;cases ru;obtain⟨its,_,⟨o,n,e,c,_⟩,_⟩:=I.list hq;cases t<;>exact PySem.W.kia_one PySem.W.kitx_list I.kIn ⟨o,e,c⟩ rfl (λz=>nomatch z) fin
theorem Qh9{T:Tab}{n:Nat}{t:Ty}(M:Md T n X)(h:isE (.ins t p) X.env.scope X.N e=true)(hp:∀e,isE p X.env.scope X.N e=true->PE X e (tE X.K C p)):PE X e (tE X.K C (.ins t p)):=by
 obtain⟨_,_,_,_,_,_,rfl,h'⟩:=Nc h;clear h;have h:=h'
 ·simp only[Bool.and_eq_true,beq_iff_eq] at h
  obtain⟨⟨⟨⟨rfl,h2⟩,rfl⟩,h4⟩,h5⟩:=h;have hx:=Ac h5;have hb:bootBuiltins (tyN t)=some (.type (tyS t)):=by cases t<;>decide +kernel
  have hd:tyN t∈Qm:=by cases t<;>decide +kernel
  have hty:∀pos,PE X (.Name (tyN t) pos) (tC (.ty (tyS t))):=λpos=>R3 (Bz h4) (M.blt _ hd) hb rfl (by cases t<;>decide +kernel) (by cases t<;>decide +kernel)
  have ha:=λpos=>Ay (hp _ h5) (Ay (hty pos) Bq rfl) (A9 hx _ _)
  refine pm (El (Qh8 (t:=t)) (Bz h2) (M.blt _ (by decide +kernel)) (by decide +kernel) (ha _) (by decide +kernel) (by decide +kernel) (A9 hx _ _) rfl) λσ H Q h=>?_
  obtain⟨ρ,Fs,d,S,he,k⟩:=h;rw[Qdi] at he;obtain⟨d1,g1,he⟩:=R.bind_eq_ok he;cases he;exact⟨ρ,Fs,d1,S,g1,λv1 H1 F1 s1 r1 c1 _=>⟨v1,d1,F1,rfl,r1,k _ _ _ s1 C5 Src.nil (λz=>by cases z)⟩⟩
theorem I8{pins:List (Addr×Obj)}{σ:L2.St}{H:Hp}{s:Shared}(I:Inv X pins σ H s){x:D}:∀{ds:List D} {vs:List V} {F:List Addr} {us:List Value},A5 X.K H ds vs F->Ab vs us->us.countP (Ey X.K H x)=Hx x ds
 |[],_,_,_,h,.nil=>rfl
 |[],_,_,_,h,.cons _ _=>by obtain⟨z,_⟩:=h;cases z
 |d::ds,_,_,_,h,.nil=>by obtain⟨_,_,_,_,z,_⟩:=h;cases z
 |d::ds,_,_,_,h,.cons r t=>by
  obtain⟨v,w,F1,F2,z,_,h1,h2⟩:=h;cases z;rw[List.countP_cons,Ha I r h1,I8 I h2 t];unfold Hx;rw[List.filter_cons];cases eqD d x<;>simp
theorem K9{pins:List (Addr×Obj)}{σ:L2.St}{H:Hp}{s:Shared}(I:Inv X pins σ H s){x:D}:∀{ds:List D} {vs:List V} {F:List Addr} {us:List Value} {j:Nat},A5 X.K H ds vs F->Ab vs us->Gx x ds=some j ->
  ∃hj:j<us.length,Ey X.K H x us[j]=true/\∀m (hm:m<us.length),m<j->Ey X.K H x us[m]=false
 |[],_,_,_,_,h,_,e=>by cases e
 |d::ds,_,_,_,_,h,.nil,e=>by obtain⟨_,_,_,_,z,_⟩:=h;cases z
 |d::ds,_,_,_,j,h,.cons r t,e=>by
  obtain⟨v,w,F1,F2,z,_,h1,h2⟩:=h;cases z;unfold Gx at e;split at e
  ·rename_i hx
   cases e;exact⟨by simp,by simp[Ha I r h1,hx],λm _ hm=>by omega⟩
  ·rename_i hx
   cases e1:Gx x ds with
   |none=>rw[e1] at e;cases e
   |some i=>
    rw[e1] at e;cases e;obtain⟨hj,g1,g2⟩:=K9 I h2 t e1;refine⟨by simpa using hj,by simpa using g1,λm hm hlt=>?_⟩
    cases m with
    |zero=>simp[Ha I r h1];simpa using hx
    |succ m=>
     have hlt':m+1<i+1:=hlt;simpa using g2 m (by simpa using hm) (by omega)
theorem Qe1{c:Nat}(h:isE (.endw p c) X.env.scope X.N e=true)(hp:∀e,isE p X.env.scope X.N e=true->PE X e (tE X.K C p)):PE X e (tE X.K C (.endw p c)):=by
 obtain⟨o',ap,y,cp,rfl,h'⟩:=Ja h;clear h;have h:=h';rw[Bool.and_eq_true,Bool.and_eq_true] at h;obtain⟨⟨h1,h2⟩,h3⟩:=h;have hv:=Ac h3;have bm:=Ip PySem.F.plainAttrs_str PySem.F.slot_str_endswith PySem.F.type_str_endswith Z0 (hp _ h2) (Ay (Rx (C:=C) h3) Bq (A9 hv _ _)) (Jd (Ac h2) _ _) (Wj hv) h1 (A9 hv _ _) rfl;refine pm bm λσ H Q h=>?_
 obtain⟨ρ,Fs,d,S,he,k⟩:=h;have he:(ev C p ρ >>= λy=>Qdc c y)=.ok d:=he
 obtain⟨d1,g1,he⟩:=R.bind_eq_ok he;refine⟨ρ,Fs,d1,S,g1,λv H1 F1 s1 r1 c1 _=>?_⟩
 cases d1 with
 |str z=>
  cases he;obtain⟨rfl,rfl⟩:=r1;refine⟨rfl,⟨ρ,Fs,.str ⟨#[c]⟩,S.more s1,rfl,λw H2 F2 s2 r2 c2 _=>?_⟩⟩
  obtain⟨rfl,rfl⟩:=r2;exact⟨z,c,rfl,rfl,k _ _ [] (s1.trans s2) C5 Src.nil (λz=>by cases z)⟩
 |_=>cases he
theorem Ka{K:Frag}{H:Hp}:∀{ds:List D} {ns:List Int} {vs:List V} {F:List Addr},Bg ds=some ns->A5 K H ds vs F->vs=ns.map V.int
 |[],_,_,_,e,⟨rfl,rfl⟩=>by cases e;rfl
 |.int x::ds,zs,_,_,e,⟨v,vs,F,G,rfl,rfl,h,g⟩=>by
  rw[Bg] at e
  cases e2:Bg ds with
  |none=>rw[e2] at e;cases e
  |some zs'=>
   rw[e2] at e;cases e;obtain⟨rfl,rfl⟩:=h;rw[Ka e2 g];rfl
 |.non::_,_,_,_,e,_=>by cases e
 |.str _::_,_,_,_,e,_=>by cases e
 |.bl _::_,_,_,_,e,_=>by cases e
 |.tup _::_,_,_,_,e,_=>by cases e
 |.lst _::_,_,_,_,e,_=>by cases e
theorem Qe2{T:Tab}{n:Nat}(M:Md T n X)(h:isE (.lset p) X.env.scope X.N e=true)(hp:∀e,isE p X.env.scope X.N e=true->PE X e (tE X.K C p)):PE X e (tE X.K C (.lset p)):=by
 obtain⟨_,_,_,_,_,_,_,rfl,h'⟩:=J7 h;clear h;have h:=h';simp only[Bool.and_eq_true,beq_iff_eq] at h;obtain⟨⟨⟨⟨rfl,h2⟩,rfl⟩,h4⟩,h5⟩:=h;have hx:=Ac h5;refine pm (Z9 M.calm (Bz h2) (M.blt _ (by decide +kernel)) (Bz h4) (M.blt _ (by decide +kernel)) (Ay (hp _ h5) Bq (A9 hx _ _)) (A9 hx _ _)) λσ H Q h=>?_
 obtain⟨ρ,Fs,d,S,he,k⟩:=h;have he:(ev C p ρ >>= λy=>Vt y)=.ok d:=he
 obtain⟨d1,g1,he⟩:=R.bind_eq_ok he
 cases d1 with
 |tup ds=>
  have he':(match Bg ds with|some ns=>(if ns.length<4000 then R.ok (D.int (Tn ns).length) else .un)|none=>.un)=.ok d:=he
  cases hi:Bg ds with
  |none=>rw[hi] at he';cases he'
  |some ns=>
   rw[hi] at he';simp only at he';split at he'
   ·rename_i hz
    cases he';refine⟨ρ,Fs,_,S,g1,λv1 H1 F1 s1 r1 c1 _=>?_⟩
    obtain⟨a,vs,rfl,hq,rr⟩:=r1;rw[Ka hi rr] at hq;exact⟨a,ns,rfl,hq,hz,k _ _ [] s1 Br Src.nil (λz=>by cases z)⟩
   ·cases he'
 |_=>cases he
theorem Qe3{ns:List Int}{m:Int}(h:ns=[]/\m=0\/m∈ns/\∀y∈ns,y<=m):m=To ns:=by
 rcases h with⟨rfl,rfl⟩|⟨h1,h2⟩
 ·rfl
 ·cases ns with
  |nil=>cases h1
  |cons x r=>
   have key:∀(r:List Int) (x:Int),(∀y∈x::r,y<=r.foldl max x)/\r.foldl max x∈x::r:=by
    intro r
    induction r with
    |nil=>intro x;exact⟨λy hy=>by simp at hy;subst hy;exact Int.le_refl _,by simp⟩
    |cons z r ih=>
     intro x;obtain⟨i1,i2⟩:=ih (max x z);refine⟨λy hy=>?_,?_⟩
     ·have i3:=i1 (max x z) List.mem_cons_self
      show y<=r.foldl max (max x z)
      rcases List.mem_cons.mp hy with rfl|hy
      ·exact Int.le_trans (Int.le_max_left _ _) i3
      ·rcases List.mem_cons.mp hy with rfl|hy
       ·exact Int.le_trans (Int.le_max_right _ _) i3
       ·exact i1 y (List.mem_cons_of_mem _ hy)
     ·show r.foldl max (max x z)∈x::z::r
      rcases List.mem_cons.mp i2 with e|e
      ·rw[e]
       rcases Int.le_total x z with q|q
       ·rw[Int.max_eq_right q];simp
       ·rw[Int.max_eq_left q];simp
      ·exact List.mem_cons_of_mem _ (List.mem_cons_of_mem _ e)
   obtain⟨k1,k2⟩:=key r x;exact Int.le_antisymm (k1 m h1) (h2 _ k2)
theorem Qe4{T:Tab}{n:Nat}(M:Md T n X)(h:isE (.maxd p) X.env.scope X.N e=true)(hp:∀e,isE p X.env.scope X.N e=true->PE X e (tE X.K C p)):PE X e (tE X.K C (.maxd p)):=by
 obtain⟨_,_,_,_,kv,_,_,rfl,h'⟩:=J9 h;clear h;have h:=h';simp only[Bool.and_eq_true,beq_iff_eq] at h;obtain⟨⟨⟨⟨rfl,h2⟩,rfl⟩,h4⟩,h5⟩:=h;have hx:=Ac h5;unfold Qdt at h4;split at h4
 ·have h4':=beq_iff_eq.mp h4
  subst h4';refine pm (Z7 M.calm (Bz h2) (M.blt _ (by decide +kernel)) (Ay (hp _ h5) Bq (A9 hx _ _)) (A9 hx _ _)) λσ H Q h=>?_
  obtain⟨ρ,Fs,d,S,he,k⟩:=h;have he:(ev C p ρ >>= λy=>Qdd y)=.ok d:=he
  obtain⟨d1,g1,he⟩:=R.bind_eq_ok he
  cases d1 with
  |tup ds=>
   have he':(match Bg ds with|some ns=>(if ns.length<4000 then R.ok (D.int (To ns)) else .un)|none=>.un)=.ok d:=he
   cases hi:Bg ds with
   |none=>rw[hi] at he';cases he'
   |some ns=>
    rw[hi] at he';simp only at he';split at he'
    ·cases he'
     refine⟨ρ,Fs,_,S,g1,λv1 H1 F1 s1 r1 c1 _=>?_⟩
     obtain⟨a,vs,rfl,hq,rr⟩:=r1;rw[Ka hi rr] at hq;refine⟨a,ns,rfl,hq,λm hm=>?_⟩
     rw[Qe3 hm];exact k _ _ [] s1 Br Src.nil (λz=>by cases z)
    ·cases he'
  |_=>cases he
 ·cases h4
theorem M4{K:Frag}{H:Hp}:∀{ds:List D} {vs:List V} {F:List Addr},A5 K H ds vs F->∃G,A5 K H ds.reverse vs.reverse G/\∀a∈G,a∈F
 |[],_,_,⟨rfl,rfl⟩=>⟨[],⟨rfl,rfl⟩,λa h=>h⟩
 |d::ds,_,_,⟨v,r,F1,F2,e1,e2,h1,h2⟩=>by
  subst e1;subst e2;obtain⟨G,g1,g2⟩:=M4 h2;refine⟨G++F1,?_,λa ha=>?_⟩
  ·rw[List.reverse_cons,List.reverse_cons]
   exact g1.append (A5.one h1)
  ·rcases List.mem_append.mp ha with h|h
   ·exact List.mem_append_right _ (g2 a h)
   ·exact List.mem_append_left _ h
theorem Qe5{T:Tab}{n:Nat}(M:Md T n X)(h:isE (.revS p) X.env.scope X.N e=true)(hp:∀e,isE p X.env.scope X.N e=true->PE X e (tE X.K C p)):PE X e (tE X.K C (.revS p)):=by
 obtain⟨_,_,_,_,_,_,_,rfl,h'⟩:=J8 h;clear h;have h:=h';simp only[Bool.and_eq_true,beq_iff_eq] at h;obtain⟨⟨⟨⟨rfl,h2⟩,rfl⟩,h4⟩,h5⟩:=h;have hx:=Ac h5;refine pm (Z3 M.calm (Bz h2) (M.blt _ (by decide +kernel)) (Bz h4) (M.blt _ (by decide +kernel)) (Ay (hp _ h5) Bq (A9 hx _ _)) (A9 hx _ _)) λσ H Q h=>?_
 obtain⟨ρ,Fs,d,S,he,k⟩:=h;have he:(ev C p ρ >>= λy=>Vu y)=.ok d:=he
 obtain⟨d1,g1,he⟩:=R.bind_eq_ok he
 cases d1 with
 |lst ds=>
  have he':(if Av ds.length then R.ok (D.lst ds.reverse) else .un)=.ok d:=he
  split at he'
  ·rename_i hf
   cases he';refine⟨ρ,Fs,_,S,g1,λv1 H1 F1 s1 r1 c1 _=>?_⟩
   obtain⟨a,vs,F',rfl,rr,hq,hs⟩:=r1.lst_;obtain⟨G,g,gs⟩:=M4 rr;refine⟨a,vs,rfl,hq,?_,λq hq=>?_⟩
   ·have:=of_decide_eq_true hf
    rw[Dc] at this;rw[<-rr.length];exact this
   ·exact k _ _ (q::G) (s1.trans (Ah hq)) (Rep.new_lst hq g) (Src.new (s1.free hq) (c1.mono (A6.refl _) (λi hi=>hi) λb hb=>hs b (gs b hb))) (λz=>by cases z)
  ·cases he'
 |_=>cases he
def rM(K:Frag)(m:M1)(tup:Bool):V->List V->Hp->VK->Prop:=λo xs H Q=>∃x d1 d2 F1 F2 ds n,xs=[x]/\Rep K H d1 o F1/\Rep K H d2 x F2/\d1=(if tup then .tup ds else .lst ds)/\Gy m d1 d2=.ok (.int n)/\Q (.int n) H
theorem Ez{m:M1}{d1 d2 d:D}(h:Gy m d1 d2=.ok d):lo 9 d2=true/\∃ds,Bo d1=some ds/\(match m with|.index=>∃j,Gx d2 ds=some j/\d=.int j|.count=>d=.int (Hx d2 ds)):=by
 cases m with
 |index=>
  cases d1 with
  |lst xs=>
   simp only[Gy] at h;split at h
   ·rename_i hl
    split at h
    ·rename_i j e2
     cases h;exact⟨hl,xs,rfl,j,e2,rfl⟩
    ·cases h
   ·cases h
  |tup xs=>
   simp only[Gy] at h;split at h
   ·rename_i hl
    split at h
    ·rename_i j e2
     cases h;exact⟨hl,xs,rfl,j,e2,rfl⟩
    ·cases h
   ·cases h
  |_=>cases h
 |count=>
  simp only[Gy] at h;split at h
  ·rename_i hl
   split at h
   ·rename_i ds e
    cases h;exact⟨hl,ds,e,rfl⟩
   ·cases h
  ·cases h
theorem Tu(hu:X.A.units+40<cLine):MtR X "list.count" (rM X.K .count false):=by
 intro pins s σ H o xs v us Q I ro rv h;obtain⟨x,d1,d2,F1,F2,ds,n,rfl,h1,h2,rfl,e,k⟩:=h;obtain⟨u,rfl,ru⟩:=Ab.one rv;obtain⟨hl,ds',e1,e2⟩:=Ez e;cases e1;cases e2;obtain⟨a,vs,F',rfl,rr,hq,_⟩:=h1.lst_;cases ro;obtain⟨its,rv',p,_⟩:=I.list hq;obtain⟨⟨cls,dd,data,sl⟩,ho,hc,n,hd⟩:=p.isList;simp only at hc hd;subst hc hd;refine call_meets PySem.F.slot_list_count ⟨_,ho,rfl⟩ PySem.F.entry_list_count (PySem.F.args_list_count_2 _ _) (SeqAt.list_countAt a its.toArray n dd sl u (Ey X.K H d2)) ⟨ho,λw hw=>Ga I X.A.in1 (by show X.A.units+1+20<cLine;omega) hl h2 ru rr rv' w (by simpa using hw),?_⟩
 refine⟨.int (Hx d2 ds),H,I.tok _,⟨s.toks,?_⟩,k⟩;rw[<-I8 I rr rv']
theorem Tv(hu:X.A.units+40<cLine):MtR X "tuple.count" (rM X.K .count true):=by
 intro pins s σ H o xs v us Q I ro rv h;obtain⟨x,d1,d2,F1,F2,ds,n,rfl,h1,h2,rfl,e,k⟩:=h;obtain⟨u,rfl,ru⟩:=Ab.one rv;obtain⟨hl,ds',e1,e2⟩:=Ez e;cases e1;cases e2;obtain⟨a,vs,rfl,hq,rr⟩:=h1;cases ro;obtain⟨its,rv',p,_⟩:=I.tuple hq;obtain⟨⟨cls,dd,data,sl⟩,ho,hc,n,hd⟩:=p;simp only at hc hd;subst hc hd;refine call_meets PySem.F.slot_tuple_count ⟨_,ho,rfl⟩ PySem.F.entry_tuple_count (PySem.F.args_tuple_count_2 _ _) (SeqAt.tuple_countAt a its.toArray n dd sl u (Ey X.K H d2)) ⟨ho,λw hw=>Ga I X.A.in1 (by show X.A.units+1+20<cLine;omega) hl h2 ru rr rv' w (by simpa using hw),?_⟩
 refine⟨.int (Hx d2 ds),H,I.tok _,⟨s.toks,?_⟩,k⟩;rw[<-I8 I rr rv']
theorem Tw(hu:X.A.units+40<cLine):MtR X "list.index" (rM X.K .index false):=by
 intro pins s σ H o xs v us Q I ro rv h;obtain⟨x,d1,d2,F1,F2,ds,n,rfl,h1,h2,rfl,e,k⟩:=h;obtain⟨u,rfl,ru⟩:=Ab.one rv;obtain⟨hl,ds',e1,j,ej,e2⟩:=Ez e;cases e1;cases e2;obtain⟨a,vs,F',rfl,rr,hq,_⟩:=h1.lst_;cases ro;obtain⟨its,rv',p,hz⟩:=I.list hq;obtain⟨⟨cls,dd,data,sl⟩,ho,hc,n,hd⟩:=p.isList;simp only at hc hd;subst hc hd;obtain⟨hj,g1,g2⟩:=K9 I rr rv' ej;have l1:=rv'.length;have l2:=Ek;refine call_meets PySem.F.slot_list_index ⟨_,ho,rfl⟩ PySem.F.entry_list_index (PySem.F.args_list_index_2 _ _) (SeqAt.list_indexAt a its.toArray n dd sl u (Ey X.K H d2) j (by simpa using hj) (by omega) (by simpa using g1) (λm hm hlt=>by simpa using g2 m (by simpa using hm) hlt))
  ⟨ho,λw hw=>Ga I X.A.in1 (by show X.A.units+1+20<cLine;omega) hl h2 ru rr rv' w (by simpa using hw),?_⟩
 exact⟨.int j,H,I.tok _,⟨s.toks,rfl⟩,k⟩
theorem Tx(hu:X.A.units+40<cLine):MtR X "tuple.index" (rM X.K .index true):=by
 intro pins s σ H o xs v us Q I ro rv h;obtain⟨x,d1,d2,F1,F2,ds,n,rfl,h1,h2,rfl,e,k⟩:=h;obtain⟨u,rfl,ru⟩:=Ab.one rv;obtain⟨hl,ds',e1,j,ej,e2⟩:=Ez e;cases e1;cases e2;obtain⟨a,vs,rfl,hq,rr⟩:=h1;cases ro;obtain⟨its,rv',p,_⟩:=I.tuple hq;obtain⟨⟨cls,dd,data,sl⟩,ho,hc,n,hd⟩:=p;simp only at hc hd;subst hc hd;obtain⟨hj,g1,g2⟩:=K9 I rr rv' ej;refine call_meets PySem.F.slot_tuple_index ⟨_,ho,rfl⟩ PySem.F.entry_tuple_index (PySem.F.args_tuple_index_2 _ _) (O6 a its.toArray n dd sl u (Ey X.K H d2) j (by simpa using hj) (by simpa using g1) (λm hm hlt=>by simpa using g2 m (by simpa using hm) hlt))
  ⟨ho,λw hw=>Ga I X.A.in1 (by show X.A.units+1+20<cLine;omega) hl h2 ru rr rv' w (by simpa using hw),?_⟩
 exact⟨.int j,H,I.tok _,⟨s.toks,rfl⟩,k⟩
end
section
variable{X:Cx}{C:Str->List D->R D}{pos:Pos}{e:Expr}{p q r:Ex}
def Nl:Expr->Bool
 |.UnaryOp .Not _ _=>false
 |.BoolOp _ _ _=>false
 |.IfExp _ _ _ _=>false
 |.Compare _ _ _ _=>false
 |_=>true
theorem Qa8{e:Expr}(h:Nl e=true)(env:PySem.Env)(whole:Sem Value):isTrue e env whole=(do let v <-whole;standAt e.pos;holding [v] (truthy v)):=by
 cases e with
 |UnaryOp o a pos=>cases o<;>first|rfl|cases h
 |BoolOp _ _ _=>cases h
 |IfExp _ _ _ _=>cases h
 |Compare _ _ _ _=>cases h
 |_=>rfl
theorem Qa9{K:Frag}{H:Hp}{d:D}{v:V}{F:List Addr}{b:Bool}(h:Rep K H d v F)(e:Ci d=.ok b):Qcn K v H b:=by
 cases d with
 |non=>obtain⟨rfl,_⟩:=h;cases e;rfl
 |bl c=>obtain⟨rfl,_⟩:=h;cases e;rfl
 |int c=>obtain⟨rfl,_⟩:=h;cases e;rfl
 |str c=>cases e
 |tup ds=>
  obtain⟨a,vs,rfl,hq,rr⟩:=h;cases e;refine .inr (.inl ⟨vs,hq,?_⟩);have:=rr.length;cases ds<;>cases vs<;>first|rfl|(simp at this)
 |lst ds=>
  obtain⟨a,vs,F',rfl,rr,hq,_⟩:=h.lst_;cases e;refine .inl ⟨vs,hq,?_⟩;have:=rr.length;cases ds<;>cases vs<;>first|rfl|(simp at this)
theorem Qaa(hp:K3 p=true)(hx:Nl e=true)(h:PE X e (tE X.K C p)):PT X e (tT X.K C p):=by
 refine tm (Uy h (Qa8 hx _)) λσ H Q h=>?_
 obtain⟨ρ,Fs,b,S,he,k⟩:=h;rw[C9 _ hp] at he;obtain⟨d,g1,he⟩:=R.bind_eq_ok he;exact⟨ρ,Fs,d,S,g1,λv H' F s r _ _=>⟨b,Qa9 r he,k H' s⟩⟩
theorem Qjb(hp:K3 p=true)(hb:∀ρ d,ev C p ρ=.ok d->∃b,d=.bl b){σ:L2.St}{H:Hp}{Q:Bool->Hp->Prop}(h:tT X.K C p σ H Q):tE X.K C p σ H λx H'=>∃k,x=.bl k/\Q k H':=by
 obtain⟨ρ,Fs,b,S,he,k⟩:=h;rw[C9 _ hp] at he;obtain⟨d,g1,he⟩:=R.bind_eq_ok he;obtain⟨c,rfl⟩:=hb ρ d g1;cases he;refine⟨ρ,Fs,_,S,g1,λv H' F s r _ _=>?_⟩
 obtain⟨rfl,_⟩:=r;exact⟨_,rfl,k H' s⟩
end
structure ItOk(K:Frag)(J:L2.It)(H1:Hp)(ds:List D)(F:List Addr):Prop where
 go:∀i H' S,Kp S H1 H'->(∀a∈F,¬S a)->i<ds.length->J.go i H'
 yld:∀i H' x H'' S,Kp S H1 H'->(∀a∈F,¬S a)->J.yld i H' x H''->∀d,ds[i]?=some d->A6 H' H''/\∃G,Rep K H'' d x G/\∀a∈G,a∈F
 stop:∀i H' S,Kp S H1 H'->(∀a∈F,¬S a)->ds.length<=i->J.stop i H'
 lists:∀a∈F,∃xs,H1 a=some (.lst xs)
def tI(K:Frag)(C:Str->List D->R D)(it:It):TI:=λσ H R=>∃ρ Fs ds,VR K H σ ρ Fs/\evI C it ρ=.ok ds /\
 ∀J H1 F,A6 H H1->ItOk K J H1 ds F->Src ρ Fs H (Ak it) F->ds.length<=sizeLine->R J H1
section
variable{X:Cx}{C:Str->List D->R D}{pos:Pos}{e tg:Expr}{p q r:Ex}
theorem Wk{K:Frag}{H1:Hp}{a:Addr}{ds:List D}{F:List Addr}(h:Rep K H1 (.lst ds) (.ref a) F):ItOk K (Itl K a) H1 ds F where
 go:=λi H' S k n hi=>by
  obtain⟨b,vs,F',e,rr,hq,_⟩:=(h.keep k n).lst_;cases e;obtain⟨v,_,g,_⟩:=rr.get (List.getElem?_eq_getElem hi);exact⟨vs,v,hq,g⟩
 yld:=λi H' x H'' S k n y d hd=>by
  obtain⟨e,y⟩:=y;subst e;obtain⟨b,vs,F',e,rr,hq,hs⟩:=(h.keep k n).lst_;cases e;obtain⟨v,G,g1,g2,g3⟩:=rr.get hd;have:=y vs hq;rw[g1] at this;cases this;exact⟨A6.refl _,G,g2,λb hb=>hs b (g3 b hb)⟩
 stop:=λi H' S k n hi=>by
  obtain⟨b,vs,F',e,rr,hq,_⟩:=(h.keep k n).lst_;cases e;exact⟨vs,hq,by rw[<-rr.length];exact hi⟩
 lists:=h.lists
theorem Wl{K:Frag}{H1:Hp}{a:Addr}{ds:List D}{F:List Addr}(h:Rep K H1 (.tup ds) (.ref a) F):ItOk K (Itt K a) H1 ds F where
 go:=λi H' S k n hi=>by
  obtain⟨b,vs,e,hq,rr⟩:=h.keep k n;cases e;obtain⟨v,_,g,_⟩:=rr.get (List.getElem?_eq_getElem hi);exact⟨vs,v,hq,g⟩
 yld:=λi H' x H'' S k n y d hd=>by
  obtain⟨e,y⟩:=y;subst e;obtain⟨b,vs,e,hq,rr⟩:=h.keep k n;cases e;obtain⟨v,G,g1,g2,g3⟩:=rr.get hd;have:=y vs hq;rw[g1] at this;cases this;exact⟨A6.refl _,G,g2,g3⟩
 stop:=λi H' S k n hi=>by
  obtain⟨b,vs,e,hq,rr⟩:=h.keep k n;cases e;exact⟨vs,hq,by rw[<-rr.length];exact hi⟩
 lists:=h.lists
theorem I9(n:Int):(E2 n).length=n.toNat:=by simp[E2]
theorem Qe6{K:Frag}{H1:Hp}{n:Int}:ItOk K (Itr 0 n.toNat) H1 (E2 n) [] where
 go:=λi H' S k _ hi=>by rw[I9] at hi;exact hi
 yld:=λi H' x H'' S k _ y d hd=>by
  obtain⟨e,y⟩:=y;subst e y;unfold E2 at hd;rw[List.getElem?_map] at hd
  cases e:(List.range n.toNat)[i]? with
  |none=>rw[e] at hd;cases hd
  |some j=>
   rw[e] at hd;cases hd;have:j=i:=by
    rw[List.getElem?_range] at e
    ·exact(Option.some.inj e).symm
    ·have:=(List.getElem?_eq_some_iff.mp e).1
     simpa using this
   subst this;exact⟨A6.refl _,[],⟨by simp,rfl⟩,λ_ z=>nomatch z⟩
 stop:=λi H' S k _ hi=>by rw[I9] at hi;exact hi
 lists:=λ_ z=>nomatch z
theorem F6:∀(xs:List D) (k:Nat),(B4 k xs).length=xs.length
 |[],_=>rfl
 |x::xs,k=>by simp[B4,F6 xs]
theorem S3:∀(xs:List D) (k i:Nat) (d:D),(B4 k xs)[i]?=some d->∃y,xs[i]?=some y/\d=.tup [.int ((k+i:Nat):Int),y]
 |[],_,_,_,e=>by simp[B4] at e
 |x::xs,k,0,d,e=>by
  simp[B4] at e;exact⟨x,rfl,e.symm⟩
 |x::xs,k,i+1,d,e=>by
  obtain⟨y,h1,h2⟩:=S3 xs (k+1) i d (by simpa [B4] using e)
  refine⟨y,by simpa using h1,?_⟩
  rw[h2,show k+1+i=k+(i+1) by omega]
theorem Wm{K:Frag}{J:L2.It}{H1:Hp}{ds:List D}{F:List Addr}(hJ:∀i H x,J.yld i H x H->True)(h:ItOk K J H1 ds F):ItOk K (Ite J) H1 (B4 0 ds) F where
 go:=λi H' S k n hi=>h.go i H' S k n (by rw[F6] at hi;exact hi)
 yld:=λi H' x H'' S k n y d hd=>by
  obtain⟨T,v,rfl,hT,rfl,hy⟩:=y;obtain⟨e,h1,rfl⟩:=S3 ds 0 i d hd;obtain⟨_,G,r,g⟩:=h.yld i H' v H' S k n hy e h1;refine⟨Ah hT,G,Rep.new_tup hT ?_,g⟩;have:=A5.cons (K:=K) (H:=H') (show Rep K H' (.int ((0+i:Nat):Int)) (.int i) [] from ⟨by simp,rfl⟩) (A5.one r)
  simpa using this
 stop:=λi H' S k n hi=>h.stop i H' S k n (by rw[F6] at hi;exact hi)
 lists:=h.lists
theorem Qe7{T:Tab}{n:Nat}{it:It}(M:Md T n X)(h:isI it X.env.scope X.N tg e=true)(hp:∀p e,(it=.seq p\/it=.rng p\/it=.enu p)->isE p X.env.scope X.N e=true->PE X e (tE X.K C p)):PI X tg e (tI X.K C it):=by
 intro pins s σ H RR I hw;obtain⟨ρ,Fs,ds,S,he,k⟩:=hw
 cases it with
 |seq p=>
  unfold isI at h;rw[Zg] at he;obtain⟨d,g1,he⟩:=R.bind_eq_ok he;have hpe:=hp p e (.inl rfl) h
  cases d with
  |lst xs=>
   simp only[Bo] at he;split at he
   ·rename_i hf
    cases he;refine Yb hpe pins s σ H RR I ⟨ρ,Fs,_,S,g1,λv H1 F s1 r1 c1 _=>?_⟩
    obtain⟨a,vs,F',rfl,rr,hq,hs⟩:=r1.lst_;exact⟨a,rfl,⟨vs,hq⟩,k _ _ F s1 (Wk r1) c1 (Bn hf)⟩
   ·cases he
  |tup xs=>
   simp only[Bo] at he;split at he
   ·rename_i hf
    cases he;refine Qcf hpe pins s σ H RR I ⟨ρ,Fs,_,S,g1,λv H1 F s1 r1 c1 _=>?_⟩
    obtain⟨a,vs,rfl,hq,rr⟩:=id r1;exact⟨a,rfl,⟨vs,hq⟩,k _ _ F s1 (Wl r1) c1 (Bn hf)⟩
   ·cases he
  |_=>cases he
 |rng p=>
  obtain⟨_,_,_,_,rfl,h'⟩:=W2 h;clear h;have h:=h'
  ·simp only[Bool.and_eq_true,beq_iff_eq] at h
   obtain⟨⟨rfl,h2⟩,h3⟩:=h;rw[Zh] at he;obtain⟨d,g1,he⟩:=R.bind_eq_ok he;have hx:=Ac h3
   cases d with
   |int n=>
    simp only at he;split at he
    ·rename_i hn
     cases he;have h0 : -(2 ^ 62)<=n:=by
      have:(line:Int)=1000000:=by rw[Dc];rfl
      omega
     ·refine Sv (Bz h2) (M.blt _ (by decide +kernel)) (Ay (hp p _ (.inr (.inl rfl)) h3) Bq (A9 hx _ _)) (A9 hx _ _) pins s σ H RR I ⟨ρ,Fs,_,S,g1,λv H1 F s1 r1 c1 _=>?_⟩
      obtain⟨rfl,rfl⟩:=r1;have:(line:Int)=1000000:=by rw[Dc];rfl
      refine⟨n,rfl,h0,by omega,k _ _ [] s1 Qe6 Src.nil ?_⟩
      rw[I9];have:=Rw;have:line=1000000:=Dc;omega
    ·cases he
   |_=>cases he
 |enu p=>
  obtain⟨_,_,_,_,_,_,_,rfl,rfl,h'⟩:=W3 h;clear h;have h:=h'
  ·simp only[Bool.and_eq_true,beq_iff_eq] at h
   obtain⟨⟨rfl,h2⟩,h3⟩:=h;rw[Zi] at he;obtain⟨d,g1,he⟩:=R.bind_eq_ok he;have hx:=Ac h3;refine Ym (Bz h2) (M.blt _ (by decide +kernel)) (Ay (hp p _ (.inr (.inr rfl)) h3) Bq (A9 hx _ _)) (A9 hx _ _) pins s σ H RR I ⟨ρ,Fs,_,S,g1,λv H1 F s1 r1 c1 _=>?_⟩
   cases d with
   |lst xs=>
    simp only[Bo] at he;split at he
    ·rename_i hf
     cases he;obtain⟨a,vs,F',rfl,rr,hq,hs⟩:=r1.lst_;exact⟨a,rfl,.inl ⟨⟨vs,hq⟩,k _ _ F s1 (Wm (λ_ _ _ _=>trivial) (Wk r1)) c1 (by rw[F6];exact Bn hf)⟩⟩
    ·cases he
   |tup xs=>
    simp only[Bo] at he;split at he
    ·rename_i hf
     cases he;obtain⟨a,vs,rfl,hq,rr⟩:=id r1;exact⟨a,rfl,.inr ⟨⟨vs,hq⟩,k _ _ F s1 (Wm (λ_ _ _ _=>trivial) (Wl r1)) c1 (by rw[F6];exact Bn hf)⟩⟩
    ·cases he
   |_=>cases he
end
theorem G6{g:Str->NameKind->NameKind}:∀{names:List (Str×NameKind)} {x:Str},(names.map λy=>(y.1,g y.1 y.2)).lookup x=(names.lookup x).map (g x)
 |[],_=>rfl
 |(n,k)::r,x=>by
  rw[List.map_cons,List.lookup_cons,List.lookup_cons]
  cases e:x==n with
  |true=>rw[beq_iff_eq.mp e];rfl
  |false=>exact G6
def F7(sc:Scope)(n:Str)(k:NameKind):NameKind:=if (k==.free&&sc.kind==.function&&sc.names.lookup n==some .cell) then .cell else k
theorem Dj(isc sc:Scope)(x:Str):(Bh isc sc).names.lookup x=(isc.names.lookup x).map (F7 sc x):=by
 rw[<-G6 (g:=F7 sc)];unfold Bh;have:(isc.names.map λy=>(y.1,F7 sc y.1 y.2))=isc.names.map λ(n,k)=>if (k==.free&&sc.kind==.function&&sc.names.lookup n==some .cell) then (n,.cell) else (n,k):=by
  refine List.map_congr_left λy _=>?_
  obtain⟨n,k⟩:=y;unfold F7;dsimp only;split<;>rfl
 rw[this]
theorem Gc(env:PySem.Env):∀(names:List (Str×NameKind)) (acc:List (Str×Addr)),(∀y∈names,y.2=.free->∃c,env.cells.lookup y.1=some c)->(∀y∈acc,env.cells.lookup y.1=some y.2) ->
  ∃cl,(forIn names acc λ(x:Str×NameKind) (r:List (Str×Addr))=>match x with|(name,kind)=>if (kind==NameKind.free)=true then do let c <-cellOf env name;pure (ForInStep.yield ((name,c)::r)) else pure (ForInStep.yield r):Sem (List (Str×Addr)))=pure cl /\
   (∀y∈cl,env.cells.lookup y.1=some y.2)/\(∀y∈acc,y∈cl)/\(∀y∈names,y.2=.free->∃c,(y.1,c)∈cl)/\∀y∈cl,y∈acc\/(y.1,NameKind.free)∈names
 |[],acc,_,ha=>⟨acc,by simp,ha,λ_ z=>z,λy hy=>(nomatch hy),λy hy=>.inl hy⟩
 |(n,k)::r,acc,hn,ha=>by
  by_cases hk:k=.free
  ·subst hk
   obtain⟨c,hc⟩:=hn (n,.free) List.mem_cons_self rfl;obtain⟨cl,e,p1,p2,p3,p4⟩:=Gc env r ((n,c)::acc) (λy hy=>hn y (List.mem_cons_of_mem _ hy)) (λy hy=>by
    rcases List.mem_cons.mp hy with rfl|hy
    ·exact hc
    ·exact ha y hy)
   refine⟨cl,?_,p1,λy hy=>p2 y (List.mem_cons_of_mem _ hy),λy hy hf=>?_,λy hy=>?_⟩
   ·rw[List.forIn_cons]
    have:cellOf env n=pure c:=by unfold cellOf;rw[hc]
    simp only[this,beq_self_eq_true,if_true];exact e
   ·rcases List.mem_cons.mp hy with rfl|hy
    ·exact⟨c,p2 _ List.mem_cons_self⟩
    ·exact p3 y hy hf
   ·rcases p4 y hy with z|z
    ·rcases List.mem_cons.mp z with rfl|z
     ·exact .inr List.mem_cons_self
     ·exact .inl z
    ·exact .inr (List.mem_cons_of_mem _ z)
  ·have hb:(k==NameKind.free)=false:=by simpa using hk
   obtain⟨cl,e,p1,p2,p3,p4⟩:=Gc env r acc (λy hy=>hn y (List.mem_cons_of_mem _ hy)) ha
   refine⟨cl,?_,p1,p2,λy hy hf=>?_,λy hy=>(p4 y hy).imp_right (List.mem_cons_of_mem _)⟩
   ·rw[List.forIn_cons]
    simp only[hb,Bool.false_eq_true,if_false];exact e
   ·rcases List.mem_cons.mp hy with rfl|hy
    ·exact absurd hf hk
    ·exact p3 y hy hf
theorem Qn(scope:Scope)(env:PySem.Env)(h:∀y∈scope.names,y.2=.free->∃c,env.cells.lookup y.1=some c) :
  ∃cl,closureFor scope env=pure cl/\(∀x c,cl.lookup x=some c->env.cells.lookup x=some c)/\(∀y∈scope.names,y.2=.free->∃c,cl.lookup y.1=some c)/\∀x c,cl.lookup x=some c->(x,NameKind.free)∈scope.names:=by
 obtain⟨cl,e,p1,_,p3,p4⟩:=Gc env scope.names [] h (λ_ z=>nomatch z)
 refine⟨cl,?_,λx c hx=>p1 _ (PySem.mem_of_lookup hx),λy hy hf=>?_,λx c hx=>(p4 _ (PySem.mem_of_lookup hx)).resolve_left (λz=>nomatch z)⟩
 ·unfold closureFor
  exact(congrArg (· >>= pure) e).trans (by simp)
 ·obtain⟨c,hc⟩:=p3 y hy hf
  have:(cl.lookup y.1).isSome=true:=by
   rw[Option.isSome_iff_ne_none];intro z;have:=List.lookup_eq_none_iff.mp z _ hc;simp at this
  obtain⟨c',hc'⟩:=Option.isSome_iff_exists.mp this;exact⟨c',hc'⟩
section
variable{prog:Program}{w:World}{A:Around}{s:Shared}
abbrev Hb(ifs:List Expr)(env:PySem.Env)(r:Bool):Sem Bool:=forIn ifs r λc r=>if r=true then do let ok <-isTrue c env (eval c env);pure (ForInStep.yield ok) else pure (ForInStep.yield r)
theorem Iv{E:Value->Shared->Prop}{env:PySem.Env}{Q:Bool->Shared->Prop}:∀{ifs:List Expr} {s:Shared},Q false s->wpAny (model prog w) A (Hb ifs env false) Q E s
 |[],s,h=>wpAny_pure h
 |c::r,s,h=>by
  unfold Hb;rw[List.forIn_cons];simp only[Bool.false_eq_true,if_false];exact Iv h
theorem Tz{RR:Result->Shared->Prop}{elt target iter:Expr}{ifs:List Expr}{scope:Scope}{pos:Pos}{it acc:Value}{env:PySem.Env}(I:Nat->Shared->Prop)
  (turn:∀n s,I n s->wpAny (model prog w) A (pyNext it) (λr s1=>match r with
   |none=>RR (.ok .next) s1
   | some v=>wpAny (model prog w) A (letOwnedTupleGo target it v) (λ_ s2=>wpAny (model prog w) A (assign target env v) (λ_ s3=>
     wpAny (model prog w) A (Hb ifs env true) (λok s4=>if ok=true then wpAny (model prog w) A (eval elt env) (λx s5=>
       wpAny (model prog w) A (call (.builtin "list.append") [acc,x]) (λ_ s6=>∃m,m<n/\I m s6) (λ_ _=>False) s5) (λ_ _=>False) s4
      else ∃m,m<n/\I m s4) (λ_ _=>False) s3) (λ_ _=>False) s2) (λ_ _=>False) s1) (λ_ _=>False) s)
  (n:Nat) (h:I n s):codeAny (model prog w) A (.compLoop (.ListComp elt [⟨target,iter,ifs,0⟩] scope pos) 0 it acc env) RR s:=by
 have no:∀{E':Value->Shared->Prop} (e:Value) (s':Shared),False->E' e s':=λ_ _ z=>z.elim
 refine codeAny_loop rfl I (λn s hI=>?_) n h
 refine wpAny_noted ?_;rw[compTurn_list];refine wpAny_bind (wpAny_standAt (wpAny_bind (wpAny_mono (turn n s hI) (λr s1 h1=>?_) no)))
 cases r with
 |none=>exact wpAny_pure h1
 |some v=>
  refine wpAny_bind (wpAny_mono h1 (λ_ s2 h2=>wpAny_bind (wpAny_mono h2 (λ_ s3 h3=>wpAny_bind (wpAny_mono h3 (λok s4 h4=>?_) no)) no)) no)
  cases ok with
  |false=>exact wpAny_pure ⟨rfl,h4⟩
  |true=>exact wpAny_bind (wpAny_bind (wpAny_mono h4 (λx s5 h5=>wpAny_bind (wpAny_mono h5 (λ_ s6 h6=>wpAny_pure (wpAny_pure ⟨rfl,h6⟩)) no)) no))
end
def blk(X:Cx)(xs:List Str)(scope:Scope)(cl:List (Str×Addr))(B:Addr)(N':List Str)(s₀:Shared)(H₀:Hp)(fp:List Addr)(pins:List (Addr×Obj)):Cx:=
 { X with env:=compEnvC scope cl B X.env,N:=N',s₀:=s₀,H₀:=H₀,outer:=X.stack,stack:=X.stack,ex:=fp,fn:=λx=>xs.contains x,pn:=X.pn++pins,xe:=λ_ _=>False }
theorem Md.blk{T:Tab}{n:Nat}{X:Cx}(M:Md T n X){xs:List Str}{scope:Scope}{cl:List (Str×Addr)}{B:Addr}{N':List Str}{s₀:Shared}{H₀:Hp}{fp:List Addr}{pins:List (Addr×Obj)}(nd:N'.Nodup)(tb:Tb T X.K X.mg H₀):Md T n (Lf.blk X xs scope cl B N' s₀ H₀ fp pins):=
 ⟨M.calm,nd,M.room,M.fn,tb,M.blt,M.xc,M.cs⟩
section
variable{X:Cx}{pins:List (Addr×Obj)}{σ:L2.St}{H:Hp}{s s':Shared}{scope:Scope}{cl:List (Str×Addr)}{xs:List Str}{fp:List Addr}
theorem Ea{isc sc:Scope}{N xs:List Str}(h:Ew isc sc N xs=true) :
  isc.kind=.function/\sc.kind=.function/\(∀y∈isc.names,y.2=.cell->y.1∈xs)/\(∀x∈xs,isc.names.lookup x=some .local\/isc.names.lookup x=some .cell) /\
  (∀y∈isc.names,y.2=.local->isc.names.lookup y.1=some .local/\(y.1∈xs\/y.1∉N))/\(∀y∈isc.names,y.2=.free->L9 sc y.1=true/\sc.names.lookup y.1≠some .local/\y.1∉xs)/\L9 (Bh isc sc) (Ly N.length)=false:=by
 unfold Ew at h;simp only[Bool.and_eq_true,beq_iff_eq,List.all_eq_true,bne_iff_ne,Bool.or_eq_true,Bool.not_eq_true',List.contains_eq_mem,decide_eq_true_eq,decide_eq_false_iff_not,ne_eq] at h;obtain⟨⟨⟨⟨⟨⟨h1,h2⟩,h3⟩,h4⟩,h5⟩,h6⟩,h7⟩:=h;refine⟨h1,h2,λy hy e=>(h3 y hy).resolve_left λz=>z e,h4,λy hy e=>?_,λy hy e=>?_,h7⟩
 ·rcases h5 y hy with z|z
  ·exact absurd e z
  ·exact z
 ·rcases h6 y hy with z|z
  ·exact absurd e z
  ·exact⟨z.1.1,z.1.2,z.2⟩
theorem Je{sc:Scope}{x:Str}:Vis sc x↔L9 sc x=true:=by
 unfold Vis L9;constructor
 ·rintro (h|h|h)<;>rw[h]
 ·intro h
  split at h
  ·rename_i z;exact .inl z
  ·rename_i z;exact .inr (.inl z)
  ·rename_i z;exact .inr (.inr z)
  ·cases h
theorem U0(I:Inv X pins σ H s)(ok:Ew scope X.env.scope X.N xs=true){h1:Heap}(hcs:∀x c,cl.lookup x=some c->(x∈xs/\s.heap.objs.size<c/\h1.IsCell c none)\/(x∉xs/\X.env.cells.lookup x=some c))(hci:∀x y c,cl.lookup x=some c->cl.lookup y=some c->x=y)(hcc:∀y∈scope.names,y.2=.cell->∃c,cl.lookup y.1=some c)(hf:∀y∈scope.names,y.2=.free->∃c,cl.lookup y.1=some c)
  (fpo:∀b∈fp,Gp X pins H b/\b<s.heap.objs.size) {t1:Nat} {m1:Str->Option Value} (hn:h1.Ns s.heap.objs.size m1) (hk:∀b o,s.heap.get? b=some o->h1.get? b=some o) :
  Inv (blk X xs scope cl s.heap.objs.size (Ar X.N xs) s H fp pins) [] (σ++List.replicate xs.length none) H { s with heap:=h1,toks:=t1 }:=by
 obtain⟨k1,k2,k3,k4,k5,k6,k7⟩:=Ea ok;have hst:∀b,b<s.heap.objs.size->b≠s.heap.objs.size:=λb hb=>Nat.ne_of_lt hb
 have kinds:∀x,Vis (Bh scope X.env.scope) x->x∉xs->x∈X.N->(∃c,cl.lookup x=some c)/\Vis X.env.scope x/\X.env.scope.names.lookup x≠some .local/\((Bh scope X.env.scope).names.lookup x=some .cell\/(Bh scope X.env.scope).names.lookup x=some .free):=by
  intro x hv hx hN;have hlk:∀k,(Bh scope X.env.scope).names.lookup x=some k->∃k0,scope.names.lookup x=some k0/\k=F7 X.env.scope x k0:=λk e=>by
   rw[Dj] at e
   cases e0:scope.names.lookup x with
   |none=>rw[e0] at e;cases e
   |some k0=>rw[e0] at e;exact⟨k0,rfl,(Option.some.inj e).symm⟩
  have fin:∀k0,scope.names.lookup x=some k0->k0=.free->(∃c,cl.lookup x=some c)/\Vis X.env.scope x/\X.env.scope.names.lookup x≠some .local:=λk0 e z=>by
   subst z;have:=PySem.mem_of_lookup e;exact⟨hf _ this rfl,Je.mpr (k6 _ this rfl).1,(k6 _ this rfl).2.1⟩
  have isfree:∀k k0,scope.names.lookup x=some k0->k=F7 X.env.scope x k0->(k=.local\/k=.cell\/k=.free)->k0=.free:=λk k0 e ek hk=>by
   have hm:=PySem.mem_of_lookup e
   cases k0 with
   |free=>rfl
   | «local»=>exact absurd hN (((k5 _ hm rfl).2).resolve_left hx)
   |cell=>exact absurd (k3 _ hm rfl) hx
   |globalExplicit=>
    have:k=.globalExplicit:=by rw[ek];rfl
    rw[this] at hk;rcases hk with z|z|z<;>cases z
   |globalImplicit=>
    have:k=.globalImplicit:=by rw[ek];rfl
    rw[this] at hk;rcases hk with z|z|z<;>cases z
  rcases hv with hv|hv|hv
  ·obtain⟨k0,e0,e1⟩:=hlk _ hv
   have z:=isfree _ _ e0 e1 (.inl rfl);subst z;unfold F7 at e1;split at e1<;>cases e1
  ·obtain⟨k0,e0,e1⟩:=hlk _ hv
   obtain⟨p1,p2,p3⟩:=fin _ e0 (isfree _ _ e0 e1 (.inr (.inl rfl)));exact⟨p1,p2,p3,.inl hv⟩
  ·obtain⟨k0,e0,e1⟩:=hlk _ hv
   obtain⟨p1,p2,p3⟩:=fin _ e0 (isfree _ _ e0 e1 (.inr (.inr rfl)));exact⟨p1,p2,p3,.inr hv⟩
 have lenN:σ.length=X.N.length:=I.len;refine⟨⟨I.ok.mod,k1,I.ok.glob,I.ok.blt,Nat.le_refl _,hci,λx hx=>?_,λx c z e=>?_,I.ok.hd,I.ok.frames,.inl rfl,λb hb=>?_,λb o e=>I.bs b o e,Nat.le_trans I.ok.bsz I.sz,λb o e hb=>?_,λb hb=>?_,I.stack,I.stkFree⟩,
  rfl,I.bare,Un.kept hk,⟨m1,hn,λi x v h1' h2' h3'=>?_⟩,λx c e=>?_,I.hok.fresh (Nat.le_refl _),λx c e=>?_,λp hp=>?_,I.hok.kept hk,?_⟩
 ·-- has
  have hx':(Bh scope X.env.scope).names.lookup x=some .cell\/(Bh scope X.env.scope).names.lookup x=some .free:=hx;have aux:∀k,(Bh scope X.env.scope).names.lookup x=some k->(k=.cell\/k=.free)->∃c,cl.lookup x=some c:=λk e z=>by
   rw[Dj] at e
   cases e0:scope.names.lookup x with
   |none=>rw[e0] at e;cases e
   |some k0=>
    rw[e0] at e;have e':F7 X.env.scope x k0=k:=Option.some.inj e;have hm:=PySem.mem_of_lookup e0
    cases k0 with
    |free=>exact hf _ hm rfl
    |cell=>exact hcc _ hm rfl
    | «local»=>rw[<-e'] at z;rcases z with z|z<;>cases z
    |globalExplicit=>rw[<-e'] at z;rcases z with z|z<;>cases z
    |globalImplicit=>rw[<-e'] at z;rcases z with z|z<;>cases z
  rcases hx' with hx'|hx'
  ·exact aux _ hx' (.inl rfl)
  ·exact aux _ hx' (.inr rfl)
 ·-- cab
  have z':xs.contains x=true:=z;have hx:x∈xs:=by simpa using z'
  rcases hcs x c e with⟨_,y,_⟩|⟨y,_⟩
  ·exact Nat.le_of_lt y
  ·exact absurd hx y
 ·-- exf
  refine⟨hst b (fpo b hb).2,λx c e=>?_⟩
  rcases hcs x c e with⟨_,y,_⟩|⟨_,y⟩
  ·exact λz=>absurd (Nat.lt_trans y (by rw[z];exact(fpo b hb).2)) (Nat.lt_irrefl _)
  ·exact(fpo b hb).1.2.2.2.2.1 x c y
 ·-- noex
  obtain⟨_,_,_,p4,_⟩:=(fpo b hb).1;rcases p4 with z|z
  ·exact I.ok.noex b o e z
  ·have h0:b<X.base.objs.size:=Heap.lt_size e
   exact absurd (Nat.lt_of_lt_of_le h0 (Nat.le_trans I.ok.bsz z)) (Nat.lt_irrefl _)
 ·-- exfs
  obtain⟨_,p2,p3,_⟩:=(fpo b hb).1;intro z;rcases List.mem_cons.mp (I.stkSub b z) with q|q
  ·exact p2 q
  ·exact p3 q
 ·-- loc
  by_cases hi:i<X.N.length
  ·have hσ:σ[i]?=some (some v):=by
    rw[List.getElem?_append_left (by omega)] at h2'
    exact h2'
   have hx0:(X.N.map (λy=>if xs.contains y then Ly X.N.length else y))[i]?=some x:=by
    have:(Ar X.N xs)[i]?=some x:=h1';unfold Ar at this;rw[List.getElem?_append_left (by simpa using hi)] at this
    exact this
   rw[List.getElem?_map] at hx0
   cases e0:X.N[i]? with
   |none=>rw[e0] at hx0;cases hx0
   |some y=>
    rw[e0] at hx0;have e1:(if xs.contains y then Ly X.N.length else y)=x:=Option.some.inj hx0
    by_cases hy:xs.contains y=true
    ·rw[if_pos hy] at e1
     subst e1;have:=Je.mp h3';have k7':L9 (relabel scope X.env) (Ly X.N.length)=false:=k7;rw[show (blk X xs scope cl s.heap.objs.size (Ar X.N xs) s H fp pins).env.scope=relabel scope X.env from rfl,k7'] at this
     cases this
    ·rw[if_neg hy] at e1
     subst e1;have hy':y∉xs:=by simpa using hy
     obtain⟨⟨c,hcl⟩,p2,p3,p4⟩:=kinds y h3' hy' (List.mem_of_getElem? e0);obtain⟨m,_,hl⟩:=I.loc;obtain⟨u,ru,look⟩:=hl i y v e0 hσ p2;refine⟨u,ru,.inr ⟨p4,c,hcl,?_⟩⟩;rcases look with⟨z,_⟩|⟨_,c',hc',cell⟩
     ·exact absurd z p3
     ·rcases hcs _ _ hcl with⟨y1,_⟩|⟨_,y2⟩
      ·exact absurd y1 hy'
      ·rw[y2] at hc'
       cases hc';exact cell.keeps hk
  ·exfalso
   rw[List.getElem?_append_right (by omega),List.getElem?_replicate] at h2'
   split at h2'<;>cases h2'
 ·rcases hcs x c e with⟨_,_,y⟩|⟨_,y⟩
  ·exact⟨none,y⟩
  ·obtain⟨v,q⟩:=I.cell x c y
   exact⟨v,q.keeps hk⟩
 ·rcases hcs x c e with⟨_,y,_⟩|⟨_,y⟩
  ·exact I.hok.fresh (Nat.le_of_lt y)
  ·exact I.freeC x c y
 ·have hp':p∈X.pn++pins:=by
   have:p∈(X.pn++pins)++[]:=hp
   rwa [List.append_nil] at this
  obtain⟨q1,q2,q3,q4,q5⟩:=I.pin p hp';refine⟨hk _ _ q1,q2,hst _ (Heap.lt_size q1),λz=>?_,q5⟩
  rcases List.mem_cons.mp (I.stkSub _ z) with q|q
  ·exact q3 q
  ·exact q4 q
 ·show (σ++List.replicate xs.length none).length=(Ar X.N xs).length
  unfold Ar;simp[lenN]
end
def Qab(two:Bool)(tg:Expr)(xs:List Str):Prop:=(two=false/\∃x p,tg=.Name x p/\xs=[x])\/(two=true/\∃x p y q k pos,tg=.Tuple [.Name x p,.Name y q] k pos/\xs=[x,y])
section
variable{X:Cx}{pins:List (Addr×Obj)}{σ τ:L2.St}{H:Hp}{s:Shared}{xs:List Str}{two:Bool}{tg:Expr}{N:List Str}
theorem Wn(σ:L2.St)(t v:Option V):(σ++[t]).set σ.length v=σ++[v]:=by
 rw[List.set_append_right _ _ (Nat.le_refl _),Nat.sub_self];rfl
theorem Qha(ht:Qab two tg xs)(hc:X.calm=true)(hN:X.N=Ar N xs)(nd:X.N.Nodup)(hl:∀x∈xs,Loc X.env.scope x/\X.fn x=true)(hσ:σ.length=N.length)(hτ:τ.length=xs.length){d:D}{v:V}{G:List Addr}{u:Value}{e:Env}
  (I:Inv X pins (σ++τ) H s) (rv:An v u) (r:Rep X.K H d v G) (he:tgt two d=.ok e) :
  wpAny (model X.prog X.w) X.A (assign tg X.env u) (λ_ s'=>∃(τ':L2.St) (Gs:Nat->List Addr),τ'.length=xs.length/\e.length=xs.length/\Inv X pins (σ++τ') H s'/\∀(j:Nat) d' o,e[j]?=some (some (d',o))->∃w,τ'[j]?=some (some w)/\Rep X.K H d' w (Gs j)/\∀a∈Gs j,a∈G) X.xe s:=by
 rcases ht with⟨rfl,x,p,rfl,rfl⟩|⟨rfl,x,p,y,q,k,pos,rfl,rfl⟩
 ·cases he
  have hi:X.N[N.length]?=some x:=by rw[hN];simp[Ar]
  obtain⟨t,rfl⟩:∃t,τ=[t]:=by
   match τ,hτ with
   |[t],_=>exact⟨t,rfl⟩
  have hx:=hl x (by simp)
  refine thn (D9 nd hi hx.1 (.inl hx.2) pins s (σ++[t]) H v u (λσ' H'=>σ'=σ++[some v]/\H'=H) I rv ?_) λ_ s' ⟨σ',H',I',e1,e2⟩=>?_
  ·refine⟨?_,rfl⟩
   rw[<-hσ];exact Wn σ t (some v)
  ·subst e1 e2
   refine⟨[some v],λ_=>G,rfl,rfl,I',λj d' o e=>?_⟩
   cases j with
   |zero=>cases e;exact⟨v,rfl,r,λ_ z=>z⟩
   |succ j=>simp at e
 ·unfold tgt at he
  rw[if_pos rfl] at he;split at he
  ·rename_i da db
   cases he;obtain⟨ad,vs,rfl,hq,rr⟩:=r;obtain⟨v1,w1,F1,F2,rfl,rfl,r1,rr⟩:=rr;obtain⟨v2,w2,F3,F4,rfl,rfl,r2,rr⟩:=rr;obtain⟨rfl,rfl⟩:=rr;have hi:X.N[N.length]?=some x:=by rw[hN];simp[Ar]
   have hj:X.N[N.length+1]?=some y:=by
    rw[hN];unfold Ar;rw[List.getElem?_append_right (by simp)]
    simp
   obtain⟨t,t',rfl⟩:∃t t',τ=[t,t']:=by
    match τ,hτ with
    |[t,t'],_=>exact⟨t,t',rfl⟩
   have hx:=hl x (by simp)
   have hy:=hl y (by simp)
   have pg:=Pv (k:=k) (pos:=pos) hc (Dm (D9 (pos:=p) nd hi hx.1 (.inl hx.2)) (Dm (D9 (pos:=q) nd hj hy.1 (.inl hy.2)) Mq));refine thn (pg pins s (σ++[t,t']) H _ u (λσ' H'=>σ'=σ++[some v1,some v2]/\H'=H) I rv ?_) λ_ s' ⟨σ',H',I',e1,e2⟩=>?_
   ·refine⟨ad,_,rfl,hq,rfl,v1,_,rfl,v2,_,rfl,rfl,?_,rfl⟩
    rw[<-hσ,List.set_append_right _ _ (Nat.le_refl _),Nat.sub_self,List.set_append_right _ _ (Nat.le_succ _),Nat.succ_sub (Nat.le_refl _),Nat.sub_self];rfl
   ·subst e1 e2
    refine⟨[some v1,some v2],λj=>if j=0 then F1 else F3,rfl,rfl,I',λj d' o e=>?_⟩
    match j,e with
    |0,e=>cases e;exact⟨v1,rfl,r1,λa ha=>List.mem_append_left _ ha⟩
    |1,e=>cases e;exact⟨v2,rfl,r2,λa ha=>List.mem_append_right _ (List.mem_append_left _ ha)⟩
    |j+2,e=>simp at e
  ·cases he
theorem Qe8{K:Frag}{ρ e:Env}{Fs Gs:Nat->List Addr}(S:VR K H σ ρ Fs)(hl:τ.length=e.length)(h:∀(j:Nat) d' o,e[j]?=some (some (d',o))->∃w,τ[j]?=some (some w)/\Rep K H d' w (Gs j)) :
  VR K H (σ++τ) (ρ++e) (λi=>if i < ρ.length then Fs i else Gs (i - ρ.length)):=by
 refine⟨by rw[List.length_append,List.length_append,S.len,hl],λi d o he=>?_⟩
 by_cases hi:i < ρ.length
 ·rw[List.getElem?_append_left hi] at he
  obtain⟨v,h1,h2⟩:=S.val i d o he;exact⟨v,by rw[List.getElem?_append_left (by rw[S.len];exact hi)];exact h1,by simp only[if_pos hi];exact h2⟩
 ·rw[List.getElem?_append_right (by omega)] at he
  obtain⟨w,h1,h2⟩:=h _ d o he;exact⟨w,by rw[List.getElem?_append_right (by rw[S.len];omega),S.len];exact h1,by simp only[if_neg hi];exact h2⟩
theorem Qac{ρ e:Env}{Fs Gs:Nat->List Addr}{H H':Hp}{vs ws:List Nat}{F G:List Addr}(s:A6 H H')(h:Src (ρ++e) (λi=>if i < ρ.length then Fs i else Gs (i - ρ.length)) H' vs F)(hv:∀i∈vs,i∈ws)(hG:∀(j:Nat),(∃d o,e[j]?=some (some (d,o)))->∀a∈Gs j,a∈G)(hs:Src ρ Fs H ws G):Src ρ Fs H ws F:=λa ha=>by
 rcases h a ha with z|⟨i,hi,⟨d,o,hb⟩,z⟩
 ·exact .inl (s.free z)
 ·by_cases hlt:i < ρ.length
  ·simp only[if_pos hlt] at z
   rw[List.getElem?_append_left hlt] at hb;exact .inr ⟨i,hv i hi,⟨d,o,hb⟩,z⟩
  ·simp only[if_neg hlt] at z
   rw[List.getElem?_append_right (by omega)] at hb
   exact hs a (hG _ ⟨d,o,hb⟩ a z)
def tTs(K:Frag)(C:Str->List D->R D)(ps:Exs):TT:=λσ H Q=>∃ρ Fs b,VR K H σ ρ Fs/\J0 C ps ρ=.ok b/\∀H',A6 H H'->Q b H'
def PTs(X:Cx)(es:List Expr)(t:TT):Prop:=
 ∀(pins:List (Addr×Obj)) (s:Shared) (σ:L2.St) (H:Hp) (Q:Bool->Hp->Prop),Inv X pins σ H s->t σ H Q->wpAny (model X.prog X.w) X.A (Hb es X.env true) (TP X pins σ Q) X.xe s
theorem Qe9{C:Str->List D->R D}:PTs X [] (tTs X.K C .nil):=λpins s σ H Q I h=>by
 obtain⟨ρ,Fs,b,S,he,k⟩:=h;cases he;exact wpAny_pure ⟨H,I,k H (A6.refl _)⟩
theorem Qad{C:Str->List D->R D}{p:Ex}{ps:Exs}{e:Expr}{es:List Expr}(hp:PT X e (tT X.K C p))(hr:PTs X es (tTs X.K C ps)):PTs X (e::es) (tTs X.K C (.cons p ps)):=λpins s σ H Q I h=>by
 obtain⟨ρ,Fs,b,S,he,k⟩:=h;rw[Tp] at he;obtain⟨c,g1,he⟩:=R.bind_eq_ok he;unfold Hb;rw[List.forIn_cons];simp only[if_true];refine wpAny_bind (wpAny_bind (thn (hp pins s σ H (λc' H'=>c'=c/\A6 H H') I ⟨ρ,Fs,c,S,g1,λH' s'=>⟨rfl,s'⟩⟩) λc' s1 ⟨H1,I1,e1,s1'⟩=>wpAny_pure ?_))
 subst e1
 cases c' with
 |true=>
  rw[if_pos rfl] at he;exact hr pins s1 σ H1 Q I1 ⟨ρ,Fs,b,S.more s1',he,λH' s'=>k H' (s1'.trans s')⟩
 |false=>
  rw[if_neg Bool.false_ne_true] at he;cases he;exact Iv ⟨H1,I1,k H1 s1'⟩
end
theorem Nm{f:D->R (Option D)}{x:D}{r zs:List D}(h:Gz f (x::r)=.ok zs):∃y ys,f x=.ok y/\Gz f r=.ok ys/\zs=(match y with|some y=>y::ys|none=>ys):=by
 unfold Gz at h;obtain⟨y,h1,h⟩:=R.bind_eq_ok h;obtain⟨ys,h2,h⟩:=R.bind_eq_ok h;cases h;exact⟨y,ys,h1,h2,rfl⟩
def Wo(C:Str->List D->R D)(two:Bool)(elt:Ex)(ifs:Exs)(ρ:Env)(d:D):R (Option D):=
 tgt two d >>= λe=>J0 C ifs (ρ++e) >>= λk=>if k then ev C elt (ρ++e) >>= λy=>.ok (some y) else .ok none
section
variable{X:Cx}{pins:List (Addr×Obj)}{σ:L2.St}{H:Hp}{s:Shared}{C:Str->List D->R D}
theorem U1{T:Tab}{n:Nat}{two:Bool}{tg iter elt':Expr}{ifs':List Expr}{scope:Scope}{pos:Pos}{xs:List Str}{elt:Ex}{ifs:Exs}{ws:List Nat}{fp:List Addr}{it:Addr}{tn:Nat->Heap->Prop}{J:L2.It}{ds ys:List D}{F:List Addr}{ρ:Env}{Fs:Nat->List Addr}{cl:List (Str×Addr)}
  {RR:Value->Addr->Result->Shared->Prop} {E:Value->Shared->Prop} {H0:Hp} {fm:Bool} {DC:Prop} (hDC:DC->fm=true) (sm0:A6 H0 H)
  (M:Md T n X) (ht:Qab two tg xs) (ok:Ew scope X.env.scope X.N xs=true) (nd:(Ar X.N xs).Nodup)
  (hT:∀X',Md T n X'->X'.env.scope=Bh scope X.env.scope->X'.N=Ar X.N xs->PTs X' ifs' (tTs X'.K C ifs)) (hE:∀X',Md T n X'->X'.env.scope=Bh scope X.env.scope->X'.N=Ar X.N xs->PE X' elt' (tEm X'.K C fm elt))
  (hc:∀x c,cl.lookup x=some c->X.env.cells.lookup x=some c) (hf:∀y∈scope.names,y.2=.free->∃c,cl.lookup y.1=some c) (hfr:∀x c,cl.lookup x=some c->(x,NameKind.free)∈scope.names)
  (I:Inv X pins σ H s) (TT:Turn X.prog X.w X.K tg J fp it tn) (st:tn 0 s.heap) (fpo:∀b∈fp,Gp X pins H b) (io:ItOk X.K J H ds F) (hz:ds.length<=sizeLine)
  (S:VR X.K H σ ρ Fs) (hF:Src ρ Fs H0 ws F) (hw:∀i∈Aj elt,i∈ws) (hm:Gz (Wo C two elt ifs ρ) ds=.ok ys)
  (fin:∀D B vs G H' s',Inv X pins σ H' s'->(∃m,s'.heap.Ns B m)->Gp X pins H' B->A6 H H'->H D=none->H' D=some (.lst vs)->A5 X.K H' ys vs G->(∀a∈G,a≠D)->Src ρ Fs H0 ws G->(DC->ys.all Dd=true->Au X.K H' ys vs G/\∀a∈G,H0 a=none)->RR (.ref D) B (.ok .next) s') :
  wpAny (model X.prog X.w) X.A (newList []) (λacc s3=>wpAny (model X.prog X.w) X.A (newFunctionEnv scope X.env.globals cl [] X.env.qual none .none (some X.env)) (λcenv s4=>
   codeAny (model X.prog X.w) X.A (.compStart (.ListComp elt' [⟨tg,iter,ifs',0⟩] scope pos) 0 (.ref it) acc { cenv with scope:=relabel scope X.env }) (RR acc cenv.locals) s4) E s3) E s:=by
 obtain⟨k1,k2,k3,k4,k5,k6,k7⟩:=Ea ok;have fplt:∀b∈fp,b<s.heap.objs.size:=λb hb=>by
  obtain⟨o,e,_⟩:=TT.obj 0 _ st b hb;exact Heap.lt_size e
 refine wpAny_newList ?_ (Nat.zero_le _);have I3:Inv X pins σ (upd H s.heap.objs.size (.lst [])) { s with heap:=s.heap.push { cls:=.type "list",data:=.seq ([]:List Value).toArray },toks:=s.toks }:=I.lnew .nil (Nat.zero_le _)
 have hD:H s.heap.objs.size=none:=I.fresh
 generalize hs3:({ s with heap:=s.heap.push { cls:=.type "list",data:=.seq ([]:List Value).toArray },toks:=s.toks }:Shared)=s3 at I3
 have sz3:s3.heap.objs.size=s.heap.objs.size+1:=by rw[<-hs3];exact Heap.size_push _ _
 have k3':∀b o,s.heap.get? b=some o->s3.heap.get? b=some o:=λb o e=>by rw[<-hs3];exact Heap.get?_push_of_some _ e
 have kin3:∀b o,s.heap.get? b=some o->b<s3.heap.objs.size:=λb o e=>Heap.lt_size (k3' b o e)
 refine Mz (λx c e=>by obtain⟨v,o,q,_⟩:=I.cell x c (hc x c e);exact kin3 _ _ q) (λx y c e1 e2=>I.ok.inj x y c (hc _ _ e1) (hc _ _ e2)) (λh1 cs hk1 hns1 cok hcc=>?_)
 have fpo3:∀b∈fp,Gp X pins (upd H s.heap.objs.size (.lst [])) b/\b<s3.heap.objs.size:=λb hb=>by
  obtain⟨p1,p2⟩:=fpo b hb;have hne:b≠s.heap.objs.size:=Nat.ne_of_lt (fplt b hb);refine⟨⟨by rw[A7 hne];exact p1,p2⟩,by rw[sz3];exact Nat.lt_succ_of_lt (fplt b hb)⟩
 have hcs:∀x c,cs.lookup x=some c->(x∈xs/\s3.heap.objs.size<c/\h1.IsCell c none)\/(x∉xs/\X.env.cells.lookup x=some c):=λx c e=>by
  rcases cok.at' x c e with⟨y1,y2,_,y4⟩|y
  ·exact .inl ⟨k3 _ y1 rfl,y2,y4⟩
  ·exact .inr ⟨(k6 _ (hfr x c y) rfl).2.2,hc x c y⟩
 have I4:=U0 (t1:=s3.toks) I3 ok hcs cok.inj hcc (λy hy hfr=>by obtain⟨c,e⟩:=hf y hy hfr;exact cok.old y.1 c e) fpo3 hns1 hk1
 generalize hX:blk X xs scope cs s3.heap.objs.size (Ar X.N xs) s3 (upd H s.heap.objs.size (.lst [])) fp pins=X' at I4
 have M':Md T n X':=by rw[<-hX];exact M.blk nd (M.tbI I3)
 have env':X'.env=compEnvC scope cs s3.heap.objs.size X.env:=by rw[<-hX];rfl
 have sc':X'.env.scope=Bh scope X.env.scope:=by rw[env'];rfl
 have N':X'.N=Ar X.N xs:=by rw[<-hX];rfl
 have pw:X'.prog=X.prog/\X'.w=X.w/\X'.K=X.K/\X'.A=X.A:=by rw[<-hX];exact⟨rfl,rfl,rfl,rfl⟩
 obtain⟨pw1,pw2,pw3,pw4⟩:=pw;have hT':=hT X' M' sc' N';have hE':=hE X' M' sc' N';have st1:tn 0 h1:=TT.keep 0 _ _ st λb hb o e=>hk1 b o (k3' b o e)
 have fpo':∀{H':Hp},(∀b∈fp,H' b=none)->∀b∈fp,Gp X' [] H' b:=λ{H'} hn b hb=>by
  have ef:=I4.ok.exf b (by rw[<-hX];exact hb)
  have exf:=I4.ok.exfs b (by rw[<-hX];exact hb)
  refine⟨hn b hb,ef.1,exf,.inl (by rw[<-hX];exact hb),λx c e=>ef.2 x c e,λp hp=>?_⟩
  have hp':p∈X.pn++pins:=by
   have:p∈X'.pn++[]:=hp;rw[List.append_nil,<-hX] at this;exact this
  exact(fpo b hb).2.2.2.2.2 p hp'
 have locN:∀x∈xs,L2.Loc X'.env.scope x/\X'.fn x=true:=λx hx=>by
  refine⟨?_,by rw[<-hX];show xs.contains x=true;simpa using hx⟩
  unfold L2.Loc;rw[sc',Dj];rcases k4 x hx with z|z
  ·rw[z];exact .inl rfl
  ·rw[z];exact .inr rfl
 have loop:∀s',Inv X' [] (σ++List.replicate xs.length none) (upd H s.heap.objs.size (.lst [])) s'->tn 0 s'.heap ->
   codeAny (model X.prog X.w) X.A (.compLoop (.ListComp elt' [⟨tg,iter,ifs',0⟩] scope pos) 0 (.ref it) (.ref s.heap.objs.size) (compEnvC scope cs s3.heap.objs.size X.env)) (RR (.ref s.heap.objs.size) s3.heap.objs.size) s':=by
  intro s' I' st';refine Tz (λm s'=>∃i τ H' vs G done rest,m=ds.length-i/\i<=ds.length/\Inv X' [] (σ++τ) H' s'/\τ.length=xs.length/\tn i s'.heap/\(∀b∈fp,H' b=none)/\A6 H H'/\H' s.heap.objs.size=some (.lst vs)/\A5 X.K H' done vs G/\(∀a∈G,a≠s.heap.objs.size)/\Src ρ Fs H0 ws G/\(DC->done.all Dd=true->Au X.K H' done vs G/\∀a∈G,H0 a=none) /\
   Gz (Wo C two elt ifs ρ) (ds.drop i)=.ok rest/\done++rest=ys/\done.length<=i) ?_ ds.length ⟨0,List.replicate xs.length none,_,[],[],[],ys,rfl,Nat.zero_le _,I',by simp,st',λb hb=>?_,Ah hD,Az,A5.nil,(λ_ z=>nomatch z),Src.nil,(λ_ _=>⟨W8,λ_ z=>nomatch z⟩),hm,rfl,Nat.zero_le _⟩
  ·rintro m s1 ⟨i,τ,H1,vs,G,done,rest,rfl,hi,I1,lτ,st1,fr1,sm1,hD1,R1,nG,cG,dG,hm1,hys,hdn⟩
   have kp1:Kp (λ_=>False) H H1:=.of_same sm1
   by_cases hlt:i<ds.length
   ·-- one more item
    have dr:ds.drop i=ds[i]::ds.drop (i+1):=List.drop_eq_getElem_cons hlt;rw[dr] at hm1;obtain⟨y,rest',hy,hm2,rfl⟩:=Nm hm1;unfold Wo at hy;obtain⟨e,he,hy⟩:=R.bind_eq_ok hy;obtain⟨k,hk,hy⟩:=R.bind_eq_ok hy;have step:=TT.item X' pw1 pw2 pw3 M'.calm i [] s1 (σ++τ) H1 (λ_ _=>False) I1 (fpo' fr1) st1 (io.go i H1 _ kp1 (λ_ _ z=>z) hlt)
    rw[pw4] at step;refine thn step λr s2 ⟨u,hr,h2⟩=>?_
    subst hr;refine thn h2 λ_ s3' ⟨x,H3,J3,rx,yl,st3,fr3⟩=>?_
    obtain⟨sm3,G1,rep1,sub1⟩:=io.yld i H1 x H3 _ kp1 (λ_ _ z=>z) yl ds[i] (List.getElem?_eq_getElem hlt)
    have J3':=J3.pinned (fpo' fr3) (TT.obj _ _ st3);rw[<-pw3] at rep1;have asg:=Qha (X:=X') (N:=X.N) ht M'.calm N' M'.nd locN I.len lτ J3' rx rep1 he;rw[env',pw1,pw2,pw4] at asg;refine wpAny_mono asg (λ_ s4 h4=>?_) (λ_ _ z=>by rw[<-hX] at z;exact z)
    obtain⟨τ',Gs,lτ',le,I4',hτ⟩:=h4;have sm13:A6 H H3:=sm1.trans sm3;have S4:VR X'.K H3 (σ++τ') (ρ++e) (λi=>if i < ρ.length then Fs i else Gs (i - ρ.length)):=by
     rw[pw3] at hτ |-;exact Qe8 (S.more sm13) (by rw[lτ',le]) λj d' o ej=>by
      obtain⟨w,a1,a2,_⟩:=hτ j d' o ej;exact⟨w,a1,a2⟩
    have hG1:∀(j:Nat),(∃d o,e[j]?=some (some (d,o)))->∀a∈Gs j,a∈F:=λj ⟨d,o,ej⟩ a ha=>by
     obtain⟨w,_,_,a3⟩:=hτ j d o ej;exact sub1 a (a3 a ha)
    have tst:=hT' _ s4 (σ++τ') H3 (λb H'=>b=k/\A6 H3 H') I4' ⟨_,_,k,S4,hk,λH' s'=>⟨rfl,s'⟩⟩
    rw[env',pw1,pw2,pw4] at tst;refine wpAny_mono tst (λb s5 h5=>?_) (λ_ _ z=>by rw[<-hX] at z;exact z)
    obtain⟨H5,I5,rfl,sm5⟩:=h5;have back:∀{σ6:L2.St} {H6:Hp} {s6:Shared},Inv X' ([]++Hv fp s3'.heap) σ6 H6 s6->tn (i+1) s6.heap/\∀b∈fp,H6 b=none:=λ{σ6 H6 s6} I6=>
     ⟨TT.keep _ _ _ st3 λb hb o e=>(I6.pin (b,o) (List.mem_append_right _ (List.mem_append_right _ (Dz hb e)))).1,λb hb=>by
      obtain⟨o,e,_⟩:=TT.obj _ _ st3 b hb;exact(I6.pin (b,o) (List.mem_append_right _ (List.mem_append_right _ (Dz hb e)))).2.1⟩
    have D5:H5 s.heap.objs.size=some (.lst vs):=sm5 _ _ (sm3 _ _ hD1)
    cases b with
    |false=>
     rw[if_neg Bool.false_ne_true] at hy |-;cases hy;obtain⟨b1,b2⟩:=back I5;exact⟨ds.length-(i+1),by omega,i+1,τ',H5,vs,G,done,rest',rfl,hlt,I5.unpinned,lτ',b1,b2,sm13.trans sm5,D5,(R1.same sm3).same sm5,nG,cG,(λz1 z2=>⟨(dG z1 z2).1.same (sm3.trans sm5),(dG z1 z2).2⟩),hm2,hys,by omega⟩
    |true=>
     rw[if_pos rfl] at hy |-;obtain⟨z,hz1,hy⟩:=R.bind_eq_ok hy;cases hy;have el:=hE' _ s5 (σ++τ') H5 (λv H'=>∃F5,A6 H5 H'/\Rep X'.K H' z v F5/\Src (ρ++e) (λi=>if i < ρ.length then Fs i else Gs (i - ρ.length)) H5 (Aj elt) F5/\(fm=true->∀es,z=.lst es->∃a F',F5=a::F'/\H5 a=none)) I5
      ⟨_,_,z,S4.more sm5,hz1,λv H' F5 s' r' c' f'=>⟨F5,s',r',c',f'⟩⟩
     rw[env',pw1,pw2,pw4] at el;refine wpAny_mono el (λxv s6 h6=>?_) (λ_ _ z=>by rw[<-hX] at z;exact z)
     obtain⟨v6,H6,I6,rv6,F5,sm6,rep6,src6,frm6⟩:=h6;have D6:H6 s.heap.objs.size=some (.lst vs):=sm6 _ _ D5;have lenv:vs.length<sizeLine:=by have:=R1.length;omega
     have app:=Ln (X:=X') ([]++Hv fp s3'.heap) s6 (σ++τ') H6 (.ref s.heap.objs.size) [v6] (.ref s.heap.objs.size) [xv] (λ_ H'=>H'=upd H6 s.heap.objs.size (.lst (vs++[v6]))) I6 rfl (.cons rv6 .nil)
      ⟨s.heap.objs.size,vs,v6,rfl,rfl,D6,lenv,rfl⟩
     rw[pw1,pw2,pw4] at app;refine wpAny_mono app (λ_ s7 h7=>?_) (λ_ _ z=>by rw[<-hX] at z;exact z)
     obtain⟨_,H7,I7,_,rfl⟩:=h7;obtain⟨b1,b2⟩:=back I7;have smH6:A6 H H6:=sm13.trans (sm5.trans sm6);have kp7:Kp (λa=>a=s.heap.objs.size) H6 (upd H6 s.heap.objs.size (.lst (vs++[v6]))):=⟨λb o e n=>by rw[A7 n];exact e,λb z=>by rw[z];exact⟨vs,D6⟩⟩
     have src7:Src ρ Fs H0 ws F5:=Qac (sm0.trans (sm13.trans sm5)) src6 hw hG1 hF;have nF5:∀a∈F5,a≠s.heap.objs.size:=λa ha e=>by
      subst e;rcases src6 _ ha with q|⟨j,_,⟨dj,oj,ej⟩,q⟩
      ·rw[D5] at q;cases q
      ·obtain⟨w,_,rj⟩:=S4.val j dj oj ej
       by_cases hj:j < ρ.length
       ·rw[List.getElem?_append_left hj] at ej
        obtain⟨w',_,rj'⟩:=S.val j dj oj ej;simp only[if_pos hj] at q;obtain⟨ys',e'⟩:=rj'.lists _ q;rw[hD] at e';cases e'
       ·simp only[if_neg hj] at q
        rw[List.getElem?_append_right (by omega)] at ej
        obtain⟨ys',e'⟩:=io.lists _ (hG1 _ ⟨dj,oj,ej⟩ _ q);rw[hD] at e';cases e'
     rw[pw3] at rep6;have dG':DC->(done++[z]).all Dd=true->Au X.K (upd H6 s.heap.objs.size (.lst (vs++[v6]))) (done++[z]) (vs++[v6]) (G++F5)/\∀a∈G++F5,H0 a=none:=λz1 z2=>by
      rw[List.all_append,Bool.and_eq_true] at z2;have z3:Dd z=true:=by simpa using z2.2
      have d1:=(dG z1 z2.1).1.same (sm3.trans (sm5.trans sm6));have q1:=hDC z1
      cases z with
      |lst es=>
       obtain⟨a0,F0,e0,e1⟩:=frm6 q1 es rfl;obtain⟨b,ws',F',hv,rr,q⟩:=rep6;have hF':=rr.noL z3;subst hF';rcases q with⟨q4,q5⟩|⟨q4,q5⟩
       ·rw[q5] at e0
        cases e0;have hbn:a0≠s.heap.objs.size:=nF5 a0 (by rw[q5];exact List.mem_cons_self)
        subst hv;rw[q5];refine⟨(d1.upd D6 nG).snoc (Fm D6 rr) (by rw[A7 hbn];exact q4) λhb=>?_,λa ha=>(List.mem_append.mp ha).elim ((dG z1 z2.1).2 a) λha=>?_⟩
        rotate_left
        ·have:a=a0:=by simpa using ha
         subst this;exact(sm0.trans (sm13.trans sm5)).free e1
        obtain⟨xs',hx'⟩:=R1.lists _ hb;have:=sm5 _ _ (sm3 _ _ hx');rw[e1] at this;cases this
       ·rw[q5] at e0
        cases e0
      |_=>cases z3
     refine⟨ds.length-(i+1),by omega,i+1,τ',_,vs++[v6],G++F5,done++[z],rest',rfl,hlt,I7.unpinned,lτ',b1,b2,λb o e=>?_,Az,
      (((R1.same sm3).same (sm5.trans sm6)).keep kp7 nG).append (A5.one (rep6.keep kp7 nF5)),λa ha=>(List.mem_append.mp ha).elim (nG a) (nF5 a),cG.app src7,dG',hm2,by rw[List.append_assoc];exact hys,by simp;omega⟩
     rw[A7 (A8 e hD)];exact smH6 b o e
   ·-- no more
    have hie:i=ds.length:=by omega
    subst hie;rw[List.drop_length] at hm1;cases hm1;rw[List.append_nil] at hys;subst hys;have step:=TT.done X' pw1 pw2 pw3 M'.calm _ [] s1 (σ++τ) H1 (λ_ _=>False) I1 (fpo' fr1) st1 (io.stop _ H1 _ kp1 (λ_ _ z=>z) (Nat.le_refl _))
    rw[pw4] at step;refine thn step λr s2 ⟨hr,I2⟩=>?_
    subst hr;subst hX;have un:Un (frs X.stack) fp H H1 s.heap s2.heap:=(Un.laid k3' (Nat.le_refl _) hD).trans I2.base;have IX:Inv X pins σ H1 s2:=I.call' (I2.os.trans (by rw[<-hs3];rfl)) un I2.hok I2.bare λb hb=>by
     obtain⟨p0,p1,p2,p3,p4,p5⟩:=fpo b hb;exact⟨p3,p1,p4,p5⟩
    obtain⟨mB,nsB,_⟩:=I2.loc;have hBle:s.heap.objs.size<=s3.heap.objs.size:=by rw[sz3];exact Nat.le_succ _
    exact fin _ _ vs G H1 s2 IX ⟨mB,nsB⟩ (I.fpOk hBle I2.free) sm1 hD hD1 R1 nG cG dG
  ·rw[A7 (Nat.ne_of_lt (fplt b hb))]
   exact(fpo b hb).1
 exact codeAny_compStart_list (loop _ I4 st1) (TT.self _ 0 _ _ _ st1 (loop _ I4 st1))
end
theorem Fp{it:It}{sc:Scope}{N:List Str}{tg e:Expr}(h:isI it sc N tg e=true):Bx e=true:=by
 cases it with
 |seq p=>unfold isI at h;exact Ac h
 |rng p=>obtain⟨_,_,_,_,rfl,_⟩:=W2 h;rfl
 |enu p=>obtain⟨_,_,_,_,_,_,_,rfl,rfl,_⟩:=W3 h;rfl
theorem Jf{two:Bool}{elt:Ex}{it:It}{ifs:Exs}{sc:Scope}{N:List Str}{e:Expr}(h:isE (.comp two elt it ifs) sc N e=true) :
  ∃elt' tg iter ifs' isc pos xs,e=.ListComp elt' [⟨tg,iter,ifs',0⟩] isc pos/\Qab two tg xs/\Ew isc sc N xs=true/\(Ar N xs).Nodup/\isI it sc N tg iter=true/\Nb ifs (Bh isc sc) (Ar N xs) ifs'=true/\isE elt (Bh isc sc) (Ar N xs) elt'=true:=by
 unfold isE at h
 cases z:Ol e with
 |none=>rw[z] at h;cases h
 |some q=>
  rw[z] at h;obtain⟨elt',⟨tg,iter,ifs',k⟩,isc,pos⟩:=q;have z:=Om z;simp only[Bool.and_eq_true,beq_iff_eq] at h;obtain⟨rfl,h⟩:=h
  cases two with
  |false=>
   cases y:gNm tg with
   |none=>rw[y] at h;cases h
   |some q=>
    rw[y] at h;simp only[Bool.and_eq_true,decide_eq_true_eq] at h;obtain⟨⟨⟨⟨h1,h2⟩,h3⟩,h4⟩,h5⟩:=h;exact⟨elt',_,iter,ifs',isc,pos,[q.1],z,.inl ⟨rfl,q.1,q.2,Cf y,rfl⟩,h1,h2,h3,h4,h5⟩
  |true=>
   cases y:gT2 tg with
   |none=>rw[y] at h;cases h
   |some q=>
    rw[y] at h;simp only[Bool.and_eq_true,decide_eq_true_eq] at h;obtain⟨⟨⟨⟨h1,h2⟩,h3⟩,h4⟩,h5⟩:=h;exact⟨elt',_,iter,ifs',isc,pos,[q.1.1,q.2.1.1],z,.inr ⟨rfl,_,_,_,_,_,_,Qds y,rfl⟩,h1,h2,h3,h4,h5⟩
section
variable{X:Cx}{C:Str->List D->R D}{e:Expr}
theorem Oy{T:Tab}{n:Nat}{two:Bool}{elt:Ex}{it:It}{ifs:Exs}{elt' tg iter:Expr}{ifs':List Expr}{isc:Scope}{pos:Pos}{xs:List Str}{pins:List (Addr×Obj)}{σ:L2.St}{H:Hp}{s:Shared}{ρ:Env}{Fs:Nat->List Addr}{ys:List D}
  {use:Option (Value->Sem Unit)} {Q:Value->Shared->Prop} {fm:Bool} {DC:Prop} (hDC:DC->fm=true)
  (M:Md T n X) (ht:Qab two tg xs) (ok:Ew isc X.env.scope X.N xs=true) (nd:(Ar X.N xs).Nodup) (hi:isI it X.env.scope X.N tg iter=true)
  (hI:PI X tg iter (tI X.K C it))
  (hT:∀X',Md T n X'->X'.env.scope=Bh isc X.env.scope->X'.N=Ar X.N xs->PTs X' ifs' (tTs X'.K C ifs)) (hE:∀X',Md T n X'->X'.env.scope=Bh isc X.env.scope->X'.N=Ar X.N xs->PE X' elt' (tEm X'.K C fm elt))
  (I:Inv X pins σ H s) (S:VR X.K H σ ρ Fs) (he:ev C (.comp two elt it ifs) ρ=.ok (.lst ys))
  (fin:∀D B vs G H' s',Inv X pins σ H' s'->(∃m,s'.heap.Ns B m)->Gp X pins H' B->A6 H H'->H D=none->H' D=some (.lst vs)->A5 X.K H' ys vs G->Src ρ Fs H (Aj (.comp two elt it ifs)) G->(DC->ys.all Dd=true->(Au X.K H' ys vs G/\∀a∈G,H a=none)/\∀a∈G,a≠D)->compPost (model X.prog X.w) X.A X.xe use Q (.ref D) B (.ok .next) s') :
  wpAny (model X.prog X.w) X.A (comprehension (.ListComp elt' [⟨tg,iter,ifs',0⟩] isc pos) isc X.env pos' (newList []) false (eval iter X.env) use) Q X.xe s:=by
 obtain⟨k1,k2,k3,k4,k5,k6,k7⟩:=Ea ok;have hfree:∀y∈isc.names,y.2=.free->∃c,X.env.cells.lookup y.1=some c:=λy hy hf=>by
  obtain⟨v1,v2,_⟩:=k6 y hy hf;refine I.ok.has y.1 ?_;rcases Je.mpr v1 with z|z|z
  ·exact absurd z v2
  ·exact .inl z
  ·exact .inr z
 obtain⟨cl,hclos,hc,hf,hfr⟩:=Qn isc X.env hfree;rw[N8] at he;obtain⟨ds,g1,he⟩:=R.bind_eq_ok he;obtain⟨ys',g2,he⟩:=R.bind_eq_ok he;cases he;refine wpAny_comprehension_free (g:=⟨tg,iter,ifs',0⟩) (gs:=[]) rfl (λx=>Nk (Fp hi) _ x) hclos k1 (λy hy hl=>(k5 y hy hl).1) ?_
 refine thn (hI pins s σ H (λJ H1=>A6 H H1/\∃F,ItOk X.K J H1 ds F/\Src ρ Fs H (Ak it) F/\ds.length<=sizeLine) I ⟨ρ,Fs,ds,S,g1,λJ H1 F s1 io c1 hz=>⟨s1,F,io,c1,hz⟩⟩) λv s1 h1=>thn h1 λitv s2 h2=>?_
 obtain⟨ia,fp,tn,J,H2,rfl,I2,TT,st2,f2,sm,F,io,c1,hz⟩:=h2;refine U1 (ws:=Aj (.comp two elt it ifs)) (RR:=λacc B=>compPost (model X.prog X.w) X.A X.xe use Q acc B) (DC:=DC) hDC sm M ht ok nd hT hE hc hf hfr I2 TT st2 f2 io hz (S.more sm) (c1.mono (A6.refl _) (λi hi=>?_) λ_ z=>z) (λi hi=>?_) g2 λD B vs G H' s' I' nsB fB sm' hD hD' rr nG cG dG=>?_
 ·have:i∈Qbl it:=by cases it<;>first|exact hi|cases hi
  simp[Aj,this]
 ·simp[Aj,hi]
 ·exact fin D B vs G H' s' I' nsB fB (sm.trans sm') (sm.free hD) hD' rr cG λz1 z2=>⟨dG z1 z2,nG⟩
theorem Qea{T:Tab}{n:Nat}{two:Bool}{elt:Ex}{it:It}{ifs:Exs}(M:Md T n X)(h:isE (.comp two elt it ifs) X.env.scope X.N e=true)
  (hI:∀tg e,isI it X.env.scope X.N tg e=true->PI X tg e (tI X.K C it))
  (hT:∀X',Md T n X'->∀es,Nb ifs X'.env.scope X'.N es=true->PTs X' es (tTs X'.K C ifs)) (hE:∀X',Md T n X'->∀e,isE elt X'.env.scope X'.N e=true->PE X' e (tE X'.K C elt)):PE X e (tE X.K C (.comp two elt it ifs)):=by
 obtain⟨elt',tg,iter,ifs',isc,pos,xs,rfl,ht,ok,nd,h1,h2,h3⟩:=Jf h;intro pins s σ H Q I hw;obtain⟨ρ,Fs,d,S,he,k⟩:=hw;have hd:∃ys,d=.lst ys:=by
  have he':=he;rw[N8] at he';obtain⟨ds,g1,he'⟩:=R.bind_eq_ok he';obtain⟨ys,g2,he'⟩:=R.bind_eq_ok he';cases he';exact⟨ys,rfl⟩
 obtain⟨ys,rfl⟩:=hd;rw[eval_ListComp];refine Oy (use:=none) (fm:=Co elt) (DC:=False) (λz=>z.elim) M ht ok nd h1 (hI _ _ h1) (λX' M' e1 e2=>hT X' M' _ (by rw[e1,e2];exact h2)) (λX' M' e1 e2=>hE X' M' _ (by rw[e1,e2];exact h3)) I S he ?_
 intro D B vs G H' s' I' ⟨m,nsB⟩ fB sm hD hD' rr cG _;refine⟨m,nsB,λh' sb=>?_⟩
 obtain⟨b0,b1,b2,b3,b4,b5⟩:=fB;have I2:Inv X pins σ H' { s' with heap:=h' }:=I'.turned (t':=s'.toks) (λb o hb e=>sb.extBut b o hb e) b0 b1 b3 b4 b5
 exact⟨.ref D,H',I2,rfl,k _ _ _ sm ⟨D,vs,G,rfl,rr,.inl ⟨hD',rfl⟩⟩ (Src.new hD cG) (λ_ ds _=>⟨D,G,rfl,hD⟩)⟩
end
section
variable{X:Cx}{C:Str->List D->R D}{e:Expr}{p q r:Ex}
theorem Qjc{m:M1}(hu:X.A.units+40<cLine)(h:isE (.m1 m p q) X.env.scope X.N e=true)(hp:∀e,isE p X.env.scope X.N e=true->PE X e (tE X.K C p))(hq:∀e,isE q X.env.scope X.N e=true->PE X e (tE X.K C q)):PE X e (tE X.K C (.m1 m p q)):=by
 obtain⟨o',m',ap,x,cp,rfl,h'⟩:=Rm h;clear h;have h:=h'
 ·simp only[Bool.and_eq_true,beq_iff_eq] at h
  obtain⟨⟨⟨h1,rfl⟩,h3⟩,h4⟩:=h;have ho:=hp _ h3;have hx:=Ac h4;have ha:=Ay (hq _ h4) Bq (A9 hx _ _);have hbase:∀name,attributeBase o' name X.env (eval o' X.env)=eval o' X.env:=λname=>Jd (Ac h3) name _
  have hfew:((backTo cp (starEach [x] X.env)).all (λx=>!x.1)&&(backToKw cp (keywordEach [] X.env)).all (λx=>x.1.isSome)
   && decide ([x].length+([]:List Keyword).length+(if ([]:List Keyword).isEmpty then 0 else 1)<30))=true:=by rw[A9 hx];rfl
  have hline:(ap.endLine==cp.line)=true:=by rw[h1];exact beq_self_eq_true _
  intro pins s σ H Q I hw;obtain⟨ρ,Fs,d,S,he,k⟩:=hw;rw[Qg7] at he;obtain⟨d1,g1,he⟩:=R.bind_eq_ok he;obtain⟨d2,g2,he⟩:=R.bind_eq_ok he;obtain⟨hl,ds,e1,e2⟩:=Ez he;have fin:∀(tup:Bool) (T:String) (j:Int),d1=(if tup then .tup ds else .lst ds)->d=.int j->(∀v1 H1 F1,Rep X.K H1 d1 v1 F1->tyV X.K T v1 H1) ->
    tBM X.K T (rM X.K m tup) (tE X.K C p) (Jr (tE X.K C q) Q3) σ H Q:=λtup T j ed ed' hty=>
   ⟨ρ,Fs,d1,S,g1,λv1 H1 F1 s1 r1 c1 _=>⟨hty v1 H1 F1 r1,⟨ρ,Fs,d2,S.more s1,g2,λv2 H2 F2 s2 r2 c2 _=>⟨v2,d1,d2,F1,F2,ds,j,rfl,r1.same s2,r2,ed,by rw[he,ed'],by subst ed';exact k _ _ _ (s1.trans s2) Br Src.nil (λz=>by cases z)⟩⟩⟩⟩
  cases m with
  |index=>
   obtain⟨j,ej,rfl⟩:=e2
   cases d1 with
   |lst xs=>
    cases e1;refine Ip PySem.F.plainAttrs_list PySem.F.slot_list_index PySem.F.type_list_index (Tw hu) ho ha (hbase _) hfew hline (A9 hx _ _) rfl pins s σ H Q I (fin false "list" j rfl rfl λv1 H1 F1 r1=>?_)
    obtain⟨a,vs,F',rfl,_,hq',_⟩:=r1.lst_;exact .inl ⟨rfl,vs,hq'⟩
   |tup xs=>
    cases e1;refine Ip PySem.F.plainAttrs_tuple PySem.F.slot_tuple_index PySem.F.type_tuple_index (Tx hu) ho ha (hbase _) hfew hline (A9 hx _ _) rfl pins s σ H Q I (fin true "tuple" j rfl rfl λv1 H1 F1 r1=>?_)
    obtain⟨a,vs,rfl,hq',_⟩:=r1;exact .inr (.inl ⟨rfl,vs,hq'⟩)
   |_=>cases e1
  |count=>
   cases d1 with
   |lst xs=>
    cases e1;refine Ip PySem.F.plainAttrs_list PySem.F.slot_list_count PySem.F.type_list_count (Tu hu) ho ha (hbase _) hfew hline (A9 hx _ _) rfl pins s σ H Q I (fin false "list" _ rfl e2 λv1 H1 F1 r1=>?_)
    obtain⟨a,vs,F',rfl,_,hq',_⟩:=r1.lst_;exact .inl ⟨rfl,vs,hq'⟩
   |tup xs=>
    cases e1;refine Ip PySem.F.plainAttrs_tuple PySem.F.slot_tuple_count PySem.F.type_tuple_count (Tv hu) ho ha (hbase _) hfew hline (A9 hx _ _) rfl pins s σ H Q I (fin true "tuple" _ rfl e2 λv1 H1 F1 r1=>?_)
    obtain⟨a,vs,rfl,hq',_⟩:=r1;exact .inr (.inl ⟨rfl,vs,hq'⟩)
   |_=>cases e1
def Hc(X:Cx)(C:Str->List D->R D)(p:Ex)(e:Expr):Prop:=PE X e (tE X.K C p)/\(Cw p=true->PT X e (tT X.K C p)/\∀op vs pos,e=.BoolOp op vs pos->PW X e (tT X.K C p))
theorem Ad(hp:K3 p=true)(hx:Nl e=true)(h:PE X e (tE X.K C p)):Hc X C p e:=
 ⟨h,λ_=>⟨Qaa hp hx h,λop vs pos z=>by subst z;cases hx⟩⟩
theorem S5{σ:L2.St}{H:Hp}{Q:Bool->Hp->Prop}(h:tT X.K C (.and p q) σ H Q):Qfd (tT X.K C p) (tT X.K C q) σ H Q:=by
 obtain⟨ρ,Fs,b,S,he,k⟩:=h;rw[Zj] at he;obtain⟨c,g1,he⟩:=R.bind_eq_ok he;refine⟨ρ,Fs,c,S,g1,λH1 s1=>?_⟩
 cases c with
 |true=>rw[if_pos rfl] at he |-;exact⟨ρ,Fs,b,S.more s1,he,λH' s'=>k H' (s1.trans s')⟩
 |false=>rw[if_neg Bool.false_ne_true] at he |-;cases he;exact k H1 s1
theorem Wp{σ:L2.St}{H:Hp}{Q:Bool->Hp->Prop}(h:tT X.K C (.or p q) σ H Q):tOr (tT X.K C p) (tT X.K C q) σ H Q:=by
 obtain⟨ρ,Fs,b,S,he,k⟩:=h;rw[Qdn] at he;obtain⟨c,g1,he⟩:=R.bind_eq_ok he;refine⟨ρ,Fs,c,S,g1,λH1 s1=>?_⟩
 cases c with
 |false=>rw[if_neg Bool.false_ne_true] at he |-;exact⟨ρ,Fs,b,S.more s1,he,λH' s'=>k H' (s1.trans s')⟩
 |true=>rw[if_pos rfl] at he |-;cases he;exact k H1 s1
theorem Wq(h:isE (.and p q) X.env.scope X.N e=true)(hp:∀e,isE p X.env.scope X.N e=true->Hc X C p e)(hq:∀e,isE q X.env.scope X.N e=true->Hc X C q e):Hc X C (.and p q) e:=by
 refine⟨Qgv h (λe z=>(hp e z).1) (λe z=>(hq e z).1),λht=>?_⟩
 have ht':Cw p=true/\Cw q=true:=by simpa [Cw] using ht
 have key:PW X e (tT X.K C (.and p q)):=by
  unfold isE at h;split at h
  ·rw[Bool.and_eq_true] at h
   exact wm (Uk ((hp _ h.1).2 ht'.1).1 (Y8 ((hq _ h.2).2 ht'.2).1)) λσ H Q h=>S5 h
  ·rw[Bool.and_eq_true] at h
   exact wm (Uk ((hp _ h.1).2 ht'.1).1 (((hq _ h.2).2 ht'.2).2 _ _ _ rfl)) λσ H Q h=>S5 h
  ·cases h
 exact⟨key.pt,λ_ _ _ _=>key⟩
theorem Qae(h:isE (.or p q) X.env.scope X.N e=true)(hp:∀e,isE p X.env.scope X.N e=true->Hc X C p e)(hq:∀e,isE q X.env.scope X.N e=true->Hc X C q e):Hc X C (.or p q) e:=by
 refine⟨Qj8 h (λe z=>(hp e z).1) (λe z=>(hq e z).1),λht=>?_⟩
 have ht':Cw p=true/\Cw q=true:=by simpa [Cw] using ht
 have key:PW X e (tT X.K C (.or p q)):=by
  unfold isE at h;split at h
  ·rw[Bool.and_eq_true] at h
   exact wm (Qbd ((hp _ h.1).2 ht'.1).1 (Qc7 ((hq _ h.2).2 ht'.2).1)) λσ H Q h=>Wp h
  ·rw[Bool.and_eq_true] at h
   exact wm (Qbd ((hp _ h.1).2 ht'.1).1 (((hq _ h.2).2 ht'.2).2 _ _ _ rfl)) λσ H Q h=>Wp h
  ·cases h
 exact⟨key.pt,λ_ _ _ _=>key⟩
theorem Wr(h:isE (.not p) X.env.scope X.N e=true)(hp:∀e,isE p X.env.scope X.N e=true->Hc X C p e):Hc X C (.not p) e:=by
 refine⟨Qgw h (λe z=>(hp e z).1),λht=>?_⟩
 unfold isE at h;split at h
 ·refine⟨tm (Qc8 ((hp _ h).2 ht).1) λσ H Q h=>?_,λ_ _ _ z=>by cases z⟩
  obtain⟨ρ,Fs,b,S,he,k⟩:=h;rw[Zk] at he;obtain⟨c,g1,he⟩:=R.bind_eq_ok he;cases he;exact⟨ρ,Fs,c,S,g1,λH1 s1=>k H1 s1⟩
 ·cases h
theorem Oz{t:TE}(hp:K3 p=true)(hb:∀ρ d,ev C p ρ=.ok d->∃b,d=.bl b)(h:PE X e (tE X.K C p))(hin:∀σ H Q,tE X.K C p σ H Q->t σ H Q)(ht:PT X e (Uv t))(hx:∀op vs pos,e≠.BoolOp op vs pos):Hc X C p e:=
 ⟨h,λ_=>⟨tm ht λσ H Q h=>hin _ _ _ (Qjb hp hb h),λop vs pos z=>absurd z (hx op vs pos)⟩⟩
theorem Qaf{o:Op}(hu:X.A.units+40<cLine)(h:isE (.op o p q) X.env.scope X.N e=true)
  (hp:∀e,isE p X.env.scope X.N e=true->PE X e (tE X.K C p)) (hq:∀e,isE q X.env.scope X.N e=true->PE X e (tE X.K C q)):Hc X C (.op o p q) e:=by
 have hpe:=Qj7 hu h hp hq (λo e z=>Du (Ac z) o)
 unfold isE at h;split at h
 ·exact Ad rfl rfl hpe
 ·simp only[Bool.and_eq_true,beq_iff_eq] at h
  refine Oz rfl (λρ d he=>?_) hpe (λσ H Q h=>Wc h) (Ye (K7 hu h.1.1) (hp _ h.1.2) (hq _ h.2) (Du (Ac h.2) _)) (λ_ _ _ z=>by cases z)
  rw[Qbi] at he;obtain⟨d1,h1,he⟩:=R.bind_eq_ok he;obtain⟨d2,h2,he⟩:=R.bind_eq_ok he;exact Gb h.1.1 he
 ·cases h
end
section
variable{X:Cx}{C:Str->List D->R D}{e:Expr}{p q r:Ex}
theorem Qeb{o o':Op}{c1 c2:CmpOp}(h1:opC o=some c1)(h2:opC o'=some c2){σ:L2.St}{H:Hp}{Q:VK}(h:tE X.K C (.chn o o' p q r) σ H Q):Pz (rO X.K o) (rO X.K o') (tE X.K C p) (tE X.K C q) (tE X.K C r) σ H Q:=by
 obtain⟨ρ,Fs,d,S,he,k⟩:=h;rw[Qg] at he;obtain⟨d1,g1,he⟩:=R.bind_eq_ok he;obtain⟨d2,g2,he⟩:=R.bind_eq_ok he;obtain⟨d3,g3,he⟩:=R.bind_eq_ok he;refine Nj S g1 g2 λv1 v2 H2 F1 F2 s r1 r2 c1 c2=>⟨d1,d2,F1,F2,d3,r1,r2,g3,λv H' F s' r' c' f'=>?_⟩
 obtain⟨b,rfl⟩:=Gb h1 g3;obtain⟨rfl,_⟩:=r';refine⟨b,rfl,?_⟩
 cases b with
 |false=>
  cases he;rw[if_neg Bool.false_ne_true];exact k _ _ _ (s.trans s') C5 Src.nil (λz=>by cases z)
 |true=>
  rw[if_pos rfl];obtain⟨d4,g4,he⟩:=R.bind_eq_ok he;refine⟨ρ,Fs,d4,(S.more s).more s',g4,λv4 H4 F4 s4 r4 c4 _=>⟨d2,d4,F2,F4,d,(r2.same s').same s4,r4,he,λv5 H5 F5 s5 r5 c5 f5=>?_⟩⟩
  obtain⟨b',rfl⟩:=Gb h2 he;obtain⟨rfl,rfl⟩:=r5;exact k _ _ _ (s.trans (s'.trans (s4.trans s5))) C5 Src.nil (λz=>by cases z)
theorem Ws{o o':Op}(hu:X.A.units+40<cLine)(h:isE (.chn o o' p q r) X.env.scope X.N e=true)
  (hp:∀e,isE p X.env.scope X.N e=true->PE X e (tE X.K C p)) (hq:∀e,isE q X.env.scope X.N e=true->PE X e (tE X.K C q)) (hr:∀e,isE r X.env.scope X.N e=true->PE X e (tE X.K C r)):Hc X C (.chn o o' p q r) e:=by
 have hpe:=Qgs hu h hp hq hr (λo e z=>Du (Ac z) o)
 obtain⟨_,_,_,_,_,_,rfl,h'⟩:=Nf h;clear h;have h:=h'
 ·simp only[Bool.and_eq_true,beq_iff_eq] at h
  obtain⟨⟨⟨⟨h1,h2⟩,h3⟩,h4⟩,h5⟩:=h;refine Oz rfl (λρ d he=>?_) hpe (λσ H Q h=>Qeb h1 h2 h) (Ux (K7 hu h1) (K7 hu h2) (hp _ h3) (hq _ h4) (hr _ h5) (Du (Ac h5) _)) (λ_ _ _ z=>by cases z)
  rw[Qg] at he;obtain⟨d1,g1,he⟩:=R.bind_eq_ok he;obtain⟨d2,g2,he⟩:=R.bind_eq_ok he;obtain⟨d3,g3,he⟩:=R.bind_eq_ok he;obtain⟨b,rfl⟩:=Gb h1 g3
  cases b with
  |false=>cases he;exact⟨_,rfl⟩
  |true=>
   obtain⟨d4,g4,he⟩:=R.bind_eq_ok he;exact Gb h2 he
theorem Wt{neg:Bool}(h:isE (.isn neg p) X.env.scope X.N e=true)(hp:∀e,isE p X.env.scope X.N e=true->PE X e (tE X.K C p)):Hc X C (.isn neg p) e:=by
 have hpe:=Qgt h hp;have hb:∀ρ d,ev C (.isn neg p) ρ=.ok d->∃b,d=.bl b:=λρ d he=>by
  rw[K2] at he;obtain⟨d1,g1,he⟩:=R.bind_eq_ok he;cases he;exact⟨_,rfl⟩
 have key:∀{K:Frag} {H:Hp} {d:D} {v:V} {F:List Addr},Rep K H d v F->decide (v=.non)=Ds d:=λ{K H d v F} r=>by
  cases d with
  |non=>obtain⟨rfl,_⟩:=r;rfl
  |bl b=>obtain⟨rfl,_⟩:=r;rfl
  |int b=>obtain⟨rfl,_⟩:=r;rfl
  |str b=>obtain⟨rfl,_⟩:=r;rfl
  |tup xs=>obtain⟨_,_,rfl,_⟩:=r;rfl
  |lst xs=>obtain⟨_,_,_,rfl,_⟩:=r;rfl
 obtain⟨_,_,_,_,_,rfl,h'⟩:=Ng h;clear h;have h:=h'
 ·simp only[Bool.and_eq_true,beq_iff_eq] at h
  obtain⟨h1,h2⟩:=h
  cases neg with
  |false=>
   subst h1;refine⟨hpe,λ_=>⟨tm (Uj (Uh (hp _ h2))) λσ H Q h=>?_,λ_ _ _ z=>by cases z⟩⟩
   obtain⟨ρ,Fs,b,S,he,k⟩:=h;rw[C9 _ rfl] at he;obtain⟨d,g0,he⟩:=R.bind_eq_ok he;rw[K2] at g0;obtain⟨d1,g1,g0⟩:=R.bind_eq_ok g0;cases g0;cases he;refine⟨ρ,Fs,d1,S,g1,λv1 H1 F1 s1 r1 c1 _=>⟨decide (v1=.non),rfl,?_⟩⟩
   rw[key r1];have:=k H1 s1;cases h:Ds d1<;>rw[h] at this<;>exact this
  |true=>
   subst h1;refine⟨hpe,λ_=>⟨tm (Uj (R4 (hp _ h2))) λσ H Q h=>?_,λ_ _ _ z=>by cases z⟩⟩
   obtain⟨ρ,Fs,b,S,he,k⟩:=h;rw[C9 _ rfl] at he;obtain⟨d,g0,he⟩:=R.bind_eq_ok he;rw[K2] at g0;obtain⟨d1,g1,g0⟩:=R.bind_eq_ok g0;cases g0;cases he;refine⟨ρ,Fs,d1,S,g1,λv1 H1 F1 s1 r1 c1 _=>⟨!decide (v1=.non),rfl,?_⟩⟩
   rw[key r1];have:=k H1 s1;cases h:Ds d1<;>rw[h] at this<;>exact this
end
section
variable(T:Tab)(n:Nat)
mutual
theorem sB(hs:∀X,Md T n X->Be X (.builtin "sorted") (rB X.K .sorted)):∀(p:Ex) (X:Cx),Md T n X->∀e,isE p X.env.scope X.N e=true->Hc X (run T n) p e
 |.var i,X,M,e,h=>by
  refine Ad rfl ?_ (Qgn h);unfold isE at h;split at h<;>first|rfl|cases h
 |.int i,X,M,e,h=>by
  refine Ad rfl ?_ (Qgo h);unfold isE at h;split at h<;>first|rfl|cases h
 |.bl i,X,M,e,h=>by
  refine Ad rfl ?_ (Qgp h);unfold isE at h;split at h<;>first|rfl|cases h
 |.non,X,M,e,h=>by
  refine Ad rfl ?_ (Qgq h);unfold isE at h;split at h<;>first|rfl|cases h
 |.str i,X,M,e,h=>by
  refine Ad rfl ?_ (Rx h);unfold isE at h;split at h<;>first|rfl|cases h
 |.op o a b,X,M,e,h=>Qaf M.hu h (λe z=>(sB hs a X M e z).1) (λe z=>(sB hs b X M e z).1)
 |.chn o o' a b c,X,M,e,h=>Ws M.hu h (λe z=>(sB hs a X M e z).1) (λe z=>(sB hs b X M e z).1) (λe z=>(sB hs c X M e z).1)
 |.isn neg a,X,M,e,h=>Wt h (λe z=>(sB hs a X M e z).1)
 |.and a b,X,M,e,h=>Wq h (λe z=>sB hs a X M e z) (λe z=>sB hs b X M e z)
 |.or a b,X,M,e,h=>Qae h (λe z=>sB hs a X M e z) (λe z=>sB hs b X M e z)
 |.not a,X,M,e,h=>Wr h (λe z=>sB hs a X M e z)
 |.ife c a b,X,M,e,h=>⟨Qgx h (λe t z=>((sB hs c X M e z).2 t).1) (λe z=>(sB hs a X M e z).1) (λe z=>(sB hs b X M e z).1),λt=>by cases t⟩
 |.call f as,X,M,e,h=>by
  refine Ad rfl ?_ (Qdz M h (λes z=>sA hs as X M es z))
  obtain⟨_,_,_,_,_,rfl,_⟩:=H9 h;rfl
 |.b1 f a,X,M,e,h=>by
  refine Ad rfl ?_ (Qja M (hs X M) h (λe z=>(sB hs a X M e z).1))
  obtain⟨_,_,_,_,rfl,_⟩:=On h;rfl
 |.ins t a,X,M,e,h=>by
  refine Ad rfl ?_ (Qh9 M h (λe z=>(sB hs a X M e z).1))
  obtain⟨_,_,_,_,_,_,rfl,_⟩:=Nc h;rfl
 |.idx a b,X,M,e,h=>by
  refine Ad rfl ?_ (Qh1 h (λe z=>(sB hs a X M e z).1) (λe z=>(sB hs b X M e z).1))
  unfold isE at h;split at h<;>first|rfl|cases h
 |.slc a lo hi,X,M,e,h=>by
  refine Ad rfl ?_ (Qh2 h (λe z=>(sB hs a X M e z).1) (λo z=>Wf z λp e ep z=>?_) (λo z=>Wf z λp e ep z=>?_))
  ·unfold isE at h;split at h<;>first|rfl|cases h
  ·exact sO hs lo X M p e ep z
  ·exact sO hs hi X M p e ep z
 |.m1 m o a,X,M,e,h=>by
  refine Ad rfl ?_ (Qjc M.hu h (λe z=>(sB hs o X M e z).1) (λe z=>(sB hs a X M e z).1))
  obtain⟨_,_,_,_,_,rfl,_⟩:=Rm h;rfl
 |.tup as,X,M,e,h=>by
  refine Ad rfl ?_ (Qgz h (λes z=>sA hs as X M es z))
  unfold isE at h;split at h<;>first|rfl|cases h
 |.lst as,X,M,e,h=>by
  refine Ad rfl ?_ (Qh0 h (λes z=>sA hs as X M es z))
  unfold isE at h;split at h<;>first|rfl|cases h
 |.comp two elt it ifs,X,M,e,h=>by
  refine Ad rfl ?_ (Qea M h (λtg e z=>sI hs it X M tg e z) (λX' M' es z=>sTs hs ifs X' M' es z) (λX' M' e z=>(sB hs elt X' M' e z).1))
  obtain⟨_,_,_,_,_,_,_,rfl,_⟩:=Jf h;rfl
 |.cst i,X,M,e,h=>by
  refine Ad rfl ?_ (Qh7 M h);unfold isE at h;split at h<;>first|rfl|cases h
 |.jn x a,X,M,e,h=>by
  refine Ad rfl ?_ (Qj9 h (λe z=>(sB hs a X M e z).1))
  obtain⟨_,_,_,_,rfl,_⟩:=Rn h;rfl
 |.spl a c,X,M,e,h=>by
  refine Ad rfl ?_ (Qh6 h (λe z=>(sB hs a X M e z).1))
  obtain⟨_,_,_,_,rfl,_⟩:=Nd h;rfl
 |.endw a c,X,M,e,h=>by
  refine Ad rfl ?_ (Qe1 h (λe z=>(sB hs a X M e z).1))
  obtain⟨_,_,_,_,rfl,_⟩:=Ja h;rfl
 |.lset a,X,M,e,h=>by
  refine Ad rfl ?_ (Qe2 M h (λe z=>(sB hs a X M e z).1))
  obtain⟨_,_,_,_,_,_,_,rfl,_⟩:=J7 h;rfl
 |.maxd a,X,M,e,h=>by
  refine Ad rfl ?_ (Qe4 M h (λe z=>(sB hs a X M e z).1))
  obtain⟨_,_,_,_,_,_,_,rfl,_⟩:=J9 h;rfl
 |.revS a,X,M,e,h=>by
  refine Ad rfl ?_ (Qe5 M h (λe z=>(sB hs a X M e z).1))
  obtain⟨_,_,_,_,_,_,_,rfl,_⟩:=J8 h;rfl
 |.rep a b,X,M,e,h=>by
  refine Ad rfl ?_ (Qh3 h (λe z=>(sB hs a X M e z).1) (λe z=>(sB hs b X M e z).1))
  unfold isE at h;split at h<;>first|rfl|cases h
theorem sA(hs:∀X,Md T n X->Be X (.builtin "sorted") (rB X.K .sorted)):∀(ps:Exs) (X:Cx),Md T n X->∀es,D7 ps X.env.scope X.N es=true->PA X es (tA X.K (run T n) ps)
 |.nil,X,M,es,h=>by
  unfold D7 at h;split at h
  ·exact Qgy
  ·cases h
 |.cons a r,X,M,es,h=>by
  unfold D7 at h;split at h
  ·rw[Bool.and_eq_true] at h
   exact Qdy (Ac h.1) (sB hs a X M _ h.1).1 (sA hs r X M _ h.2)
  ·cases h
theorem sO(hs:∀X,Md T n X->Be X (.builtin "sorted") (rB X.K .sorted)):∀(ps:Exs) (X:Cx),Md T n X->∀(p:Ex) e,ps=.cons p .nil->isE p X.env.scope X.N e=true->PE X e (tE X.K (run T n) p)
 |.nil,X,M,p,e,ep,z=>by cases ep
 |.cons a r,X,M,p,e,ep,z=>by
  cases ep;exact(sB hs a X M e z).1
theorem sTs(hs:∀X,Md T n X->Be X (.builtin "sorted") (rB X.K .sorted)):∀(ps:Exs) (X:Cx),Md T n X->∀es,Nb ps X.env.scope X.N es=true->PTs X es (tTs X.K (run T n) ps)
 |.nil,X,M,es,h=>by
  unfold Nb at h;split at h
  ·exact Qe9
  ·cases h
 |.cons a r,X,M,es,h=>by
  unfold Nb at h;split at h
  ·simp only[Bool.and_eq_true] at h
   exact Qad ((sB hs a X M _ h.1.2).2 h.1.1).1 (sTs hs r X M _ h.2)
  ·cases h
theorem sI(hs:∀X,Md T n X->Be X (.builtin "sorted") (rB X.K .sorted)):∀(it:It) (X:Cx),Md T n X->∀tg e,isI it X.env.scope X.N tg e=true->PI X tg e (tI X.K (run T n) it)
 |.seq a,X,M,tg,e,h=>Qe7 M h λp e z h'=>by
  rcases z with z|z|z<;>cases z
  exact(sB hs a X M e h').1
 |.rng a,X,M,tg,e,h=>Qe7 M h λp e z h'=>by
  rcases z with z|z|z<;>cases z
  exact(sB hs a X M e h').1
 |.enu a,X,M,tg,e,h=>Qe7 M h λp e z h'=>by
  rcases z with z|z|z<;>cases z
  exact(sB hs a X M e h').1
end
end
section
variable{K:Frag}{B:Hp}{Al:Addr->Prop}{H H1:Hp}{σ:L2.St}{ρ:Env}{Fs:Nat->List Addr}
theorem SR.tracked(S:SR K B Al H σ ρ Fs){i:Nat}{d:D}{o:Bool}(h:ρ[i]?=some (some (d,o))){a:Addr}(ha:a∈Fs i):H a≠none:=λz=>by
 obtain⟨v,_,r⟩:=S.val i d o h;obtain⟨xs,e⟩:=r.lists a ha;rw[z] at e;cases e
theorem Wu{ds:List D}(h:Bw ds=true)(z:ds.all Dd=true):ds=[]:=by
 cases ds with
 |nil=>rfl
 |cons d ds=>
  have h1:(noL d&&Bw ds)=true:=h;rw[Bool.and_eq_true] at h1;rw[List.all_cons,Bool.and_eq_true] at z
  cases d with
  |lst es=>cases h1.1
  |_=>cases z.1
theorem Cb{vs:List Nat}{ρ:Env}{i:Nat}{d:D}{o:Bool}(h:(unown vs ρ)[i]?=some (some (d,o))):∃o',ρ[i]?=some (some (d,o'))/\(o=true->o'=true/\i∉vs):=by
 unfold unown at h;rw[List.getElem?_mapIdx] at h
 cases e:ρ[i]? with
 |none=>rw[e] at h;cases h
 |some sl=>
  rw[e] at h;have h':(if vs.contains i then sl.map λp=>(p.1,false) else sl)=some (d,o):=Option.some.inj h
  split at h'
  ·cases sl with
   |none=>cases h'
   |some p=>
    obtain⟨d',o'⟩:=p;cases h';exact⟨o',rfl,λz=>by cases z⟩
  ·rename_i hc
   subst h';exact⟨o,rfl,λz=>⟨z,by simpa using hc⟩⟩
theorem Fq{vs:List Nat}{ρ:Env}:(unown vs ρ).length=ρ.length:=by simp[unown]
theorem SR.unown(S:SR K B Al H σ ρ Fs)(vs:List Nat):SR K B Al H σ (Lf.unown vs ρ) Fs where
 len:=by rw[Fq];exact S.len
 val:=λi d o h=>by
  obtain⟨o',h',_⟩:=Cb h;exact S.val i d o' h'
 al:=λi d o h=>by
  obtain⟨o',h',_⟩:=Cb h;exact S.al i d o' h'
 own:=λi d h=>by
  obtain⟨o',h',z⟩:=Cb h;obtain⟨rfl,_⟩:=z rfl;obtain⟨p1,p2,p3,p4⟩:=S.own i d h';refine⟨p1,p2,λj d' o' hj h2=>?_,p4⟩
  obtain⟨o2,h2',_⟩:=Cb h2;exact p3 j d' o2 hj h2'
 same:=S.same
 fr:=S.fr
 deep:=λi ds h z=>by
  obtain⟨o',h',w⟩:=Cb h;obtain⟨rfl,_⟩:=w rfl;exact S.deep i ds h' z
theorem SR.view(S:SR K B Al H σ ρ Fs){i:Nat}{d:D}{v:V}{F:List Addr}(hi:i < σ.length)(r:Rep K H d v F)(hal:∀a∈F,Al a)(hap:∀j d',j≠i->ρ[j]?=some (some (d',true))->∀a∈Fs j,a∉F) :
  SR K B Al H (σ.set i (some v)) (ρ.set i (some (d,false))) (λj=>if j=i then F else Fs j) where
 len:=by rw[List.length_set,List.length_set];exact S.len
 val:=λj d' o h=>by
  by_cases hj:j=i
  ·subst hj
   rw[List.getElem?_set_self (by rw[<-S.len];exact hi)] at h
   cases h;exact⟨v,List.getElem?_set_self hi,by rw[if_pos rfl];exact r⟩
  ·rw[List.getElem?_set_ne (Ne.symm hj)] at h
   obtain⟨w,h1,h2⟩:=S.val j d' o h;exact⟨w,by rw[List.getElem?_set_ne (Ne.symm hj)];exact h1,by rw[if_neg hj];exact h2⟩
 al:=λj d' o h=>by
  by_cases hj:j=i
  ·subst hj
   simp only[if_pos];exact hal
  ·rw[List.getElem?_set_ne (Ne.symm hj)] at h
   simp only[if_neg hj];exact S.al j d' o h
 own:=λj d' h=>by
  by_cases hj:j=i
  ·subst hj
   rw[List.getElem?_set_self (by rw[<-S.len];exact hi)] at h
   cases h
  ·rw[List.getElem?_set_ne (Ne.symm hj)] at h
   obtain⟨p1,p2,p3,a,F',vs,q1,q2,q3⟩:=S.own j d' h;simp only[if_neg hj];refine⟨p1,p2,λk d2 o2 hk h2=>?_,a,F',vs,q1,by rw[List.getElem?_set_ne (Ne.symm hj)];exact q2,q3⟩
   by_cases hki:k=i
   ·simp only[if_pos hki]
    exact hap j d' hj h
   ·simp only[if_neg hki]
    rw[List.getElem?_set_ne (Ne.symm hki)] at h2;exact p3 k d2 o2 hk h2
 same:=S.same
 fr:=S.fr
 deep:=λj ds h z=>by
  by_cases hj:j=i
  ·subst hj
   rw[List.getElem?_set_self (by rw[<-S.len];exact hi)] at h
   cases h
  ·rw[List.getElem?_set_ne (Ne.symm hj)] at h
   obtain⟨a,F',vs,q1,q2,q3,q4⟩:=S.deep j ds h z;simp only[if_neg hj];exact⟨a,F',vs,q1,by rw[List.getElem?_set_ne (Ne.symm hj)];exact q2,q3,q4⟩
theorem SR.mine(S:SR K B Al H σ ρ Fs){i:Nat}{d:D}{v:V}{F:List Addr}(hi:i < σ.length)(r:Rep K H d v F)(hn:F.Nodup)(hB:∀a∈F,B a=none)(hm:∃a F0 vs,F=a::F0/\v=.ref a/\H a=some (.lst vs))(hd:∀ds,d=.lst ds->ds.all Dd=true->∃a F0 vs,F=a::F0/\v=.ref a/\H a=some (.lst vs)/\Au K H ds vs F0)(hap:∀j d' o',j≠i->ρ[j]?=some (some (d',o'))->∀a∈Fs j,a∉F) :
  SR K B Al H (σ.set i (some v)) (ρ.set i (some (d,true))) (λj=>if j=i then F else Fs j) where
 len:=by rw[List.length_set,List.length_set];exact S.len
 val:=λj d' o h=>by
  by_cases hj:j=i
  ·subst hj
   rw[List.getElem?_set_self (by rw[<-S.len];exact hi)] at h
   cases h;exact⟨v,List.getElem?_set_self hi,by rw[if_pos rfl];exact r⟩
  ·rw[List.getElem?_set_ne (Ne.symm hj)] at h
   obtain⟨w,h1,h2⟩:=S.val j d' o h;exact⟨w,by rw[List.getElem?_set_ne (Ne.symm hj)];exact h1,by rw[if_neg hj];exact h2⟩
 al:=λj d' o h=>by
  by_cases hj:j=i
  ·subst hj
   simp only[if_pos];exact λa ha=>S.fr a (hB a ha)
  ·rw[List.getElem?_set_ne (Ne.symm hj)] at h
   simp only[if_neg hj];exact S.al j d' o h
 own:=λj d' h=>by
  by_cases hj:j=i
  ·subst hj
   simp only[if_pos];obtain⟨a,F0,vs,q1,q2,q3⟩:=hm;refine⟨hn,hB,λk d2 o2 hk h2=>?_,a,F0,vs,q1,by rw[List.getElem?_set_self hi,q2],q3⟩
   simp only[if_neg hk];rw[List.getElem?_set_ne (Ne.symm hk)] at h2;exact λa ha hb=>hap k d2 o2 hk h2 a hb ha
  ·rw[List.getElem?_set_ne (Ne.symm hj)] at h
   obtain⟨p1,p2,p3,a,F',vs,q1,q2,q3⟩:=S.own j d' h;simp only[if_neg hj];refine⟨p1,p2,λk d2 o2 hk h2=>?_,a,F',vs,q1,by rw[List.getElem?_set_ne (Ne.symm hj)];exact q2,q3⟩
   by_cases hki:k=i
   ·simp only[if_pos hki]
    exact hap j d' true hj h
   ·simp only[if_neg hki]
    rw[List.getElem?_set_ne (Ne.symm hki)] at h2;exact p3 k d2 o2 hk h2
 same:=S.same
 fr:=S.fr
 deep:=λj ds h z=>by
  by_cases hj:j=i
  ·subst hj
   rw[List.getElem?_set_self (by rw[<-S.len];exact hi)] at h
   cases h;simp only[if_pos];obtain⟨a,F0,vs,q1,q2,q3,q4⟩:=hd ds rfl z;exact⟨a,F0,vs,q1,by rw[List.getElem?_set_self hi,q2],q3,q4⟩
  ·rw[List.getElem?_set_ne (Ne.symm hj)] at h
   obtain⟨a,F',vs,q1,q2,q3,q4⟩:=S.deep j ds h z;simp only[if_neg hj];exact⟨a,F',vs,q1,by rw[List.getElem?_set_ne (Ne.symm hj)];exact q2,q3,q4⟩
theorem SR.give(S:SR K B Al H σ ρ Fs){i:Nat}{e:Ex}{d:D}{v:V}{F:List Addr}(hi:i < σ.length)(s1:A6 H H1)(r:Rep K H1 d v F)(c:Src ρ Fs H (Aj e) F)
  (f:Co e=true->∀ds,d=.lst ds->∃a F',F=a::F'/\H a=none):SR K B Al H1 (σ.set i (some v)) (give e ρ i d) (λj=>if j=i then F else Fs j):=by
 have S1:=S.more s1;have hal:∀a∈F,Al a:=λa ha=>by
  rcases c a ha with z|⟨k,_,⟨d',o',hk⟩,z⟩
  ·exact S.fr a (S.same.free z)
  ·exact S.al k d' o' hk a z
 unfold Lf.give;split
 ·rename_i hnl
  have hF:=r.noL hnl;subst hF;exact S1.view hi r hal (λ_ _ _ _ _ _ z=>nomatch z)
 ·split
  ·rename_i hnl how
   unfold Tq at how;rw[Bool.and_eq_true] at how
   cases d with
   |lst ds=>
    have hfl:Bw ds=true:=how.2;obtain⟨a,F',e1,e2⟩:=f how.1 ds rfl;obtain⟨b,vs,F2,hv,rr,q⟩:=id r;have hF2:=rr.noL hfl;subst hF2;have hFa:F=[a]/\v=.ref a/\H1 a=some (.lst vs):=by
     rcases q with⟨z0,z⟩|⟨_,z⟩
     ·rw[z] at e1 |-;cases e1;exact⟨rfl,hv,z0⟩
     ·rw[z] at e1;cases e1
    obtain⟨hFa,hva,hHa⟩:=hFa;subst hFa;refine S1.mine hi r (by simp) (λb hb=>?_) ⟨a,[],vs,rfl,hva,hHa⟩ (λes ee hz=>?_) (λj d' o' _ hj b hb hb'=>?_)
    ·have:b=a:=by simpa using hb
     subst this;exact S.same.free e2
    ·cases ee
     have hnil:=Wu hfl hz;subst hnil;obtain⟨rfl,_⟩:=rr;exact⟨a,[],[],rfl,hva,hHa,rfl,rfl⟩
    ·have:b=a:=by simpa using hb'
     subst this;exact S.tracked hj hb e2
   |_=>cases how.2
  ·refine(S1.unown (Aj e)).view hi r hal λj d' hj h a ha ha'=>?_
   obtain⟨o',h',z⟩:=Cb h;obtain⟨rfl,hv⟩:=z rfl;rcases c a ha' with q|⟨k,hk,⟨d2,o2,hk2⟩,q⟩
   ·exact S.tracked h' ha q
   ·have hjk:k≠j:=λz=>hv (by rw[<-z];exact hk)
    exact(S.own j d' h').2.2.1 k d2 o2 hjk hk2 a ha q
end
def FQ(K:Frag)(B:Hp)(Al:Addr->Prop)(fm:Nat->Bool)(fl:Fl)(D:Ends):Prop:=
 match fl with
 |.nx ρ'=>∀σ' H' Fs',SR K B Al H' σ' ρ' Fs'->D.nx σ' H'
 |.rt d=>∀v H' F,A6 B H'->Rep K H' d v F->(∀a∈F,Al a)->(∀k,fm k=true->ShP k B d F)->D.rt v H'
theorem FQ.of{K:Frag}{B:Hp}{Al:Addr->Prop}{fm fm':Nat->Bool}{fl:Fl}{D:Ends}(k:FQ K B Al fm' fl D)(h:∀k,fm' k=true->fm k=true):FQ K B Al fm fl D:=by
 cases fl with
 |nx ρ'=>exact k
 |rt d=>exact λv H' F s r al f=>k v H' F s r al λm z=>f m (h m z)
def tS(K:Frag)(C:Str->List D->R D)(st:Sm):TS:=λD σ H=>∃B Al ρ Fs fl,SR K B Al H σ ρ Fs/\exm C st ρ=.ok fl/\FQ K B Al (Qgb st) fl D
def tSs(K:Frag)(C:Str->List D->R D)(st:Sms):TS:=λD σ H=>∃B Al ρ Fs fl,SR K B Al H σ ρ Fs/\exs C st ρ=.ok fl/\FQ K B Al (Cv st) fl D
section
variable{X:Cx}{C:Str->List D->R D}{st:Stmt}
theorem sm'{st:Stmt}{t t':TS}(h:PS X st t)(k:∀D σ H,t' D σ H->t D σ H):PS X st t':=λpins s σ H D I q=>h pins s σ H D I (k D σ H q)
theorem ssm{st:List Stmt}{t t':TS}(h:PSs X st t)(k:∀D σ H,t' D σ H->t D σ H):PSs X st t':=λpins s σ H D I q=>h pins s σ H D I (k D σ H q)
theorem F8{i:Nat}{x:Str}(h:Hy X.env.scope X.N i x=true):X.N[i]?=some x/\Loc X.env.scope x:=by
 unfold Hy at h;simp only[Bool.and_eq_true,beq_iff_eq] at h;refine⟨h.1,?_⟩;have h2:=h.2;unfold Zl at h2;split at h2
 ·rename_i z;exact .inl z
 ·rename_i z;exact .inr z
 ·cases h2
theorem Qec:PSs X [] (tSs X.K C .nil):=ssm R5 λD σ H h=>by
 obtain⟨B,Al,ρ,Fs,fl,S,he,k⟩:=h;cases he;exact k _ _ _ S
theorem Qag{a:Sm}{r:Sms}{sts:List Stmt}(ha:PS X st (tS X.K C a))(hr:PSs X sts (tSs X.K C r)):PSs X (st::sts) (tSs X.K C (.cons a r)):=ssm (Go ha hr) λD σ H h=>by
 obtain⟨B,Al,ρ,Fs,fl,S,he,k⟩:=h;have he':(exm C a ρ >>= λk=>match k with|.nx ρ'=>exs C r ρ'|.rt d=>.ok (.rt d))=.ok fl:=he
 obtain⟨f1,g1,he'⟩:=R.bind_eq_ok he';refine⟨B,Al,ρ,Fs,f1,S,g1,?_⟩
 cases f1 with
 |nx ρ'=>exact λσ' H' Fs' S'=>⟨B,Al,ρ',Fs',fl,S',he',k.of λ_ z=>(Bool.and_eq_true_iff.mp z).2⟩
 |rt d=>cases he';exact k.of λ_ z=>(Bool.and_eq_true_iff.mp z).1
theorem Qed{p:Ex}{e:Expr}{pos:Pos}(h:PE X e (tE X.K C p)):PS X (.Return (some e) pos) (tS X.K C (.ret p)):=sm' (Mp h) λD σ H h=>by
 obtain⟨B,Al,ρ,Fs,fl,S,he,k⟩:=h;have he':(ev C p ρ >>= λd=>R.ok (Fl.rt d))=.ok fl:=he
 obtain⟨d,g1,he'⟩:=R.bind_eq_ok he';cases he';refine⟨ρ,Fs,d,S.toVR,g1,λv H' F s r c f=>k v H' F (S.same.trans s) r (λa ha=>?_) λm z=>?_⟩
 rotate_left
 ·have z':(m==1&&Co p)=true:=z
  rw[Bool.and_eq_true,beq_iff_eq] at z';obtain⟨rfl,z'⟩:=z';unfold ShP;rw[if_pos rfl];intro ds e;obtain⟨a,F',e1,e2⟩:=f z' ds e;exact⟨a,F',e1,S.same.free e2⟩
 rcases c a ha with z|⟨i,_,⟨d',o',hi⟩,z⟩
 ·exact S.fr a (S.same.free z)
 ·exact S.al i d' o' hi a z
theorem Qhb{p:Ex}{a b:Sms}{c:Expr}{as bs:List Stmt}{pos:Pos}(hc:PT X c (tT X.K C p))(ha:PSs X as (tSs X.K C a))(hb:PSs X bs (tSs X.K C b)):PS X (.If c as bs pos) (tS X.K C (.ife p a b)):=sm' (Qbg hc ha hb) λD σ H h=>by
 obtain⟨B,Al,ρ,Fs,fl,S,he,k⟩:=h;have he':(tst C p ρ >>= λk=>if k then exs C a ρ else exs C b ρ)=.ok fl:=he
 obtain⟨b',g1,he'⟩:=R.bind_eq_ok he';refine⟨ρ,Fs,b',S.toVR,g1,λH1 s1=>?_⟩
 cases b' with
 |true=>rw[if_pos rfl] at he' |-;exact⟨B,Al,ρ,Fs,fl,S.more s1,he',k.of λ_ z=>(Bool.and_eq_true_iff.mp z).1⟩
 |false=>rw[if_neg Bool.false_ne_true] at he' |-;exact⟨B,Al,ρ,Fs,fl,S.more s1,he',k.of λ_ z=>(Bool.and_eq_true_iff.mp z).2⟩
def Hd:Expr->Bool
 |.ListComp _ _ _ _=>false
 |.SetComp _ _ _ _=>false
 |.DictComp _ _ _ _ _=>false
 |_=>true
theorem Kb{e:Expr}(h:Hd e=true)(t:Option Expr)(l:Nat)(env:PySem.Env):swapsWith e t l env=pure false:=by
 cases e<;>first|rfl|cases h
theorem D1{p:Ex}{sc:Scope}{N:List Str}{e:Expr}(h:isE p sc N e=true)(hp:Ro p=true):Hd e=true:=by
 cases p<;>first|(exact absurd hp Bool.false_ne_true)|(obtain⟨_,_,_,_,_,rfl,_⟩:=H9 h;rfl)|(obtain⟨_,_,_,_,rfl,_⟩:=On h;rfl)|(obtain⟨_,_,_,_,_,_,rfl,_⟩:=Nc h;rfl)|(obtain⟨_,_,_,_,_,rfl,_⟩:=Rm h;rfl)|(obtain⟨_,_,_,_,_,_,_,rfl,_⟩:=iv_rngL h;rfl)|(obtain⟨_,_,_,_,_,_,_,_,_,_,rfl,_⟩:=iv_revL h;rfl)|(obtain⟨_,_,_,_,rfl,_⟩:=Rn h;rfl)|(obtain⟨_,_,_,_,rfl,_⟩:=Nd h;rfl)|(obtain⟨_,_,_,_,rfl,_⟩:=Ja h;rfl)|(obtain⟨_,_,_,_,_,_,_,rfl,_⟩:=J7 h;rfl)|(obtain⟨_,_,_,_,_,_,_,rfl,_⟩:=J9 h;rfl)|(obtain⟨_,_,_,_,_,_,_,rfl,_⟩:=J8 h;rfl)|(obtain⟨_,_,_,_,_,_,rfl,_⟩:=Nf h;rfl)|(obtain⟨_,_,_,_,_,rfl,_⟩:=Ng h;rfl)|(obtain⟨_,_,_,_,rfl,_⟩:=iv_ist h;rfl)|(unfold isE at h;split at h<;>first|rfl|cases h)
theorem Qee{p:Ex}{e:Expr}{pos:Pos}(hn:Hd e=true)(h:PE X e (tE X.K C p)):PS X (.Expr e pos) (tS X.K C (.exp p)):=sm' (Mo h (Kb hn _ _ _)) λD σ H h=>by
 obtain⟨B,Al,ρ,Fs,fl,S,he,k⟩:=h;have he':(ev C p ρ >>= λ_=>R.ok (Fl.nx ρ))=.ok fl:=he
 obtain⟨d,g1,he'⟩:=R.bind_eq_ok he';cases he';exact⟨ρ,Fs,d,S.toVR,g1,λv H' F s r c _=>k _ _ _ (S.more s)⟩
theorem Qef{i:Nat}{p:Ex}(hi:i<X.N.length){D:Ends}{σ:L2.St}{H:Hp}(hσ:σ.length=X.N.length)(h:tS X.K C (.asg i p) D σ H):Qcd (tE X.K C p) (Up i) D σ H:=by
 obtain⟨B,Al,ρ,Fs,fl,S,he,k⟩:=h;have he':(ev C p ρ >>= λd=>R.ok (Fl.nx (give p ρ i d)))=.ok fl:=he
 obtain⟨d,g1,he'⟩:=R.bind_eq_ok he';cases he';exact⟨ρ,Fs,d,S.toVR,g1,λv H' F s r c f=>k _ _ _ (S.give (by omega) s r c f)⟩
theorem Wv{i:Nat}{x:Str}{p:Ex}{e:Expr}{pos pos':Pos}(nd:X.N.Nodup)(hfn:X.fn x=true)(hp:Hy X.env.scope X.N i x=true)(hs:swapsWith e (some (.Name x pos')) pos.line X.env=pure false)(h:PE X e (tE X.K C p)):PS X (.Assign [.Name x pos'] e pos) (tS X.K C (.asg i p)):=by
 obtain⟨h1,h2⟩:=F8 hp;intro pins s σ H D I q;exact Uq nd h1 h2 h hs (.inl hfn) pins s σ H D I (Qef (List.getElem?_eq_some_iff.mp h1).1 I.len q)
theorem SR.wrote{K:Frag}{B:Hp}{Al:Addr->Prop}{H:Hp}{σ:L2.St}{ρ:Env}{Fs:Nat->List Addr}(S:SR K B Al H σ ρ Fs){i:Nat}{xs ys:List D}{a:Addr}{vs ws:List V}{F:List Addr}(hi:ρ[i]?=some (some (.lst xs,true)))(hv:σ[i]?=some (some (.ref a)))(hF:Fs i=a::F)(ha:H a=some (.lst vs))
  (r:A5 K H ys ws F) (hn:a∉F) (hd:ys.all Dd=true->Au K (upd H a (.lst ws)) ys ws F):SR K B Al (upd H a (.lst ws)) σ (ρ.set i (some (.lst ys,true))) Fs:=by
 obtain⟨p1,p2,p3,_⟩:=S.own i _ hi;have hil:i < ρ.length:=(List.getElem?_eq_some_iff.mp hi).1;have kp:Kp (λb=>b=a) H (upd H a (.lst ws)):=⟨λb o e n=>by rw[A7 n];exact e,λb z=>by rw[z];exact⟨vs,ha⟩⟩
 have get:∀{j d o},(ρ.set i (some (D.lst ys,true)))[j]?=some (some (d,o))->j≠i->ρ[j]?=some (some (d,o)):=λh hj=>by
  rw[List.getElem?_set_ne (Ne.symm hj)] at h;exact h
 have anyb:∀{j d o},(ρ.set i (some (D.lst ys,true)))[j]?=some (some (d,o))->∃d',ρ[j]?=some (some (d',o)):=λ{j d o} h=>by
  by_cases hj:j=i
  ·subst hj
   rw[List.getElem?_set_self hil] at h;cases h;exact⟨_,hi⟩
  ·exact⟨d,get h hj⟩
 refine⟨⟨by rw[List.length_set];exact S.len,λj d o h=>?_⟩,λj d o h=>?_,λj d h=>?_,λb o e=>?_,S.fr,λj ds h z=>?_⟩
 ·by_cases hj:j=i
  ·subst hj
   rw[List.getElem?_set_self hil] at h;cases h;exact⟨.ref a,hv,a,ws,F,rfl,r.keep kp λb hb z=>hn (by rw[<-z];exact hb),.inl ⟨Az,hF⟩⟩
  ·have h':=get h hj
   obtain⟨v,q1,q2⟩:=S.val j d o h';refine⟨v,q1,q2.keep kp λb hb z=>?_⟩
   have:a∈Fs i:=by rw[hF];exact List.mem_cons_self
   exact p3 j d o hj h' a this (by rw[<-z];exact hb)
 ·obtain⟨d',h'⟩:=anyb h
  exact S.al j d' o h'
 ·obtain⟨d',h'⟩:=anyb h
  obtain⟨q1,q2,q3,b,F',us,w1,w2,w3⟩:=S.own j d' h';refine⟨q1,q2,λk d2 o2 hk h2=>?_,?_⟩
  ·obtain⟨d3,h3⟩:=anyb h2
   exact q3 k d3 o2 hk h3
  ·by_cases hb:b=a
   ·exact⟨b,F',ws,w1,w2,by rw[hb];exact Az⟩
   ·exact⟨b,F',us,w1,w2,by rw[A7 hb];exact w3⟩
 ·have hba:b≠a:=λz=>by
   subst z;rw[p2 b (by rw[hF];exact List.mem_cons_self)] at e
   cases e
  rw[A7 hba];exact S.same b o e
 ·by_cases hj:j=i
  ·subst hj
   rw[List.getElem?_set_self hil] at h;cases h;exact⟨a,F,ws,hF,hv,Az,hd z⟩
  ·have h':=get h hj
   obtain⟨b,F',us,w1,w2,w3,w4⟩:=S.deep j ds h' z;have hai:a∈Fs i:=by rw[hF];exact List.mem_cons_self
   have hnj:a∉Fs j:=p3 j _ _ hj h' a hai;have hba:b≠a:=λy=>hnj (by rw[w1,y];exact List.mem_cons_self)
   exact⟨b,F',us,w1,w2,by rw[A7 hba];exact w3,w4.upd ha λc hc y=>hnj (by rw[w1,<-y];exact List.mem_cons_of_mem _ hc)⟩
end
def Ctx(K:Frag)(i:Nat)(a:Addr)(l:Xl)(oe:Obj)(σ:L2.St)(H:Hp):Prop:=σ[i]?=some (some (.ref a))/\XD K H l.2 oe.dict
section
variable{K:Frag}{i j:Nat}{a:Addr}{l:Xl}{oe:Obj}{σ:L2.St}{H H':Hp}
theorem SR.unk{B:Hp}{Al:Addr->Prop}{ρ:Env}{Fs:Nat->List Addr}(S:SR K B Al H σ ρ Fs)(hi:∀p,ρ[i]?≠some (some p)):SR K B Al H (σ.set i none) ρ Fs:=by
 have ne:∀{j p},ρ[j]?=some (some p)->(σ.set i none)[j]?=σ[j]?:=λ{j p} e=>by
  rw[List.getElem?_set_ne];intro z;subst z;exact hi _ e
 refine⟨⟨by rw[List.length_set];exact S.len,λj d o e=>?_⟩,S.al,λj d e=>?_,S.same,S.fr,λj ds e z=>?_⟩
 ·rw[ne e];exact S.val j d o e
 ·obtain⟨p1,p2,p3,b,F,vs,q1,q2,q3⟩:=S.own j d e
  exact⟨p1,p2,p3,b,F,vs,q1,by rw[ne e];exact q2,q3⟩
 ·obtain⟨b,F,vs,q1,q2,q3⟩:=S.deep j ds e z
  exact⟨b,F,vs,q1,by rw[ne e];exact q2,q3⟩
theorem SR.lost{B:Hp}{Al:Addr->Prop}{n:Nat}(hl:σ.length=n)(s:A6 B H)(fr:∀a,B a=none->Al a):SR K B Al H σ (List.replicate n none) (λ_=>[]):=by
 have no:∀{j:Nat} {p:D×Bool},(List.replicate n (none:Option (D×Bool)))[j]?≠some (some p):=λ{j p} e=>by
  rw[List.getElem?_replicate] at e;split at e<;>cases e
 exact⟨⟨by rw[List.length_replicate];exact hl,λj d o e=>absurd e no⟩,λj d o e=>absurd e no,λj d e=>absurd e no,s,fr,λj ds e=>absurd e no⟩
theorem Qhc:∀{hs:List Hm} {ρ ρ':Env},hs.all (Hj i)=true->(∀p,ρ[i]?≠some (some p))->exH l hs ρ=.ok (.nx ρ')->∀p,ρ'[i]?≠some (some p)
 |[],ρ,ρ',_,h,e=>by cases e;exact h
 |.ret1 c::r,ρ,ρ',_,h,e=>by cases e
end
section
variable{X:Cx}{pins:List (Addr×Obj)}{a Ca:Addr}{oe:Obj}{va:Array Value}{i:Nat}{n xF:Str}{CF:Addr}{l:Xl}{xe:Value->Shared->Prop}
def KBs(X:Cx)(Ca:Addr)(l:Xl)(cs:List Str):Prop:=∀k∈cs,Ax X.env.scope k=true->(k==("__debug__" : Str))=false->KB X Ca k (Qi l.1 k)
theorem Qeg(Z:Hn X i n xF CF)(hc:oe.cls=.ref Ca)(hd:oe.data=.fields va)(Y:ClX X.K Ca){c:Str}{e:Expr}(h:W7 n X.env.scope [c] [e]=true)(kb:KBs (hcx X pins a oe xe) Ca l [c]) :
  PE (hcx X pins a oe xe) e (λσ H Q=>Ctx X.K i a l oe σ H/\Q (V.bl (Qi l.1 c)) H):=by
 unfold W7 at h;rw[Bool.and_eq_true] at h;obtain⟨h1,h2⟩:=h
 cases hq:Ts e with
 |none=>rw[hq] at h1;cases h1
 |some q=>
  rw[hq] at h1;simp only[Bool.and_eq_true,beq_iff_eq] at h1;obtain⟨⟨⟨⟨g1,g2⟩,g3⟩,g4⟩,g5⟩:=h1
  cases hy:gNm q.2.2.1 with
  |none=>rw[hy] at g5;cases g5
  |some y=>
   rw[hy] at g5;have g5':y.1=n:=by simpa using g5
   rw[Rj hq,Cf hy,g1,g2,g5'];have e1:=Qd4 (X:=X) (pins:=pins) (a:=a) (xe:=xe) (p1:=q.2.1) (p2:=y.2) (p3:=q.2.2.2.2.1) (p4:=q.2.2.2.2.2) Z hc hd Y (kb c List.mem_cons_self g3 g4);intro pins' s σ H Q I q;exact e1 pins' s σ H Q I ⟨⟨q.1.1,q.1.2.xd⟩,q.2⟩
def tH(K:Frag)(i:Nat)(a:Addr)(l:Xl)(oe:Obj)(hs:List Hm):TS:=λD σ H=>∃B Al ρ Fs fl,SR K B Al H σ ρ Fs/\Ctx K i a l oe σ H/\exH l hs ρ=.ok fl/\FQ K B Al (λ_=>false) fl D
def hmC:Hm->List Str
 |.ret1 c=>[c]
theorem hsS(Z:Hn X i n xF CF)(hfn:∀x,X.fn x=true)(hc:oe.cls=.ref Ca)(hd:oe.data=.fields va)(Y:ClX X.K Ca):∀{hs:List Hm} {hb:List Stmt},Os n X.env.scope X.N hs hb=true->hs.all (Hj i)=true->(∀h∈hs,KBs (hcx X pins a oe xe) Ca l (hmC h)) ->
  PSs (hcx X pins a oe xe) hb (tH X.K i a l oe hs)
 |[],[],_,_,_=>ssm R5 λD σ H h=>by
  obtain⟨B,Al,ρ,Fs,fl,S,cx,he,k⟩:=h;cases he;exact k _ _ _ S
 |[],_::_,h,_,_=>by simp[Os] at h
 |_::_,[],h,_,_=>by simp[Os] at h
 |.ret1 c::r,st::sts,h,hj,kb=>by
  unfold Os at h;rw[Bool.and_eq_true] at h;have h1:(match Tr st with|some q=>W7 n X.env.scope [c] [q.1]|none=>false)=true:=h.1
  cases hq:Tr st with
  |none=>rw[hq] at h1;cases h1
  |some q=>
   rw[hq] at h1;have pe:=Qeg (pins:=pins) (a:=a) (xe:=xe) (l:=l) Z hc hd Y h1 (kb _ List.mem_cons_self);rw[Ri hq];refine ssm (Go (Mp pe) Lc) λD σ H q=>?_
   obtain⟨B,Al,ρ,Fs,fl,S,cx,he,k⟩:=q;cases he;exact⟨cx,k (.bl _) _ [] S.same ⟨rfl,rfl⟩ (λb hb=>nomatch hb) λm z=>by cases z⟩
theorem Qhd{K:Frag}{c:Str}(hK:(hcx X pins a oe xe).K=K)(hV:X.mg "ValueError" = none)(sv:PySem.W.subIn K (.ref Ca) (.type "ValueError")=some true)(pr:∀k∈Tl,∃Ck,X.mg k=some (.ref Ck)/\PySem.W.kitOne K (.ref Ca) (.ref Ck)=some (k==l.1)){cs:List Str}(h:cs.all (λk=>Tl.contains k||k==("ValueError" : Str))=true):KBs (hcx X pins a oe xe) Ca l cs:=λk hk gk dk=>by
 subst hK;have z:=List.all_eq_true.mp h k hk;rcases Bool.or_eq_true_iff.mp z with z|z
 ·obtain⟨Ck,mk,ko⟩:=pr k (by simpa using z)
  have ne:(k==("ValueError" : Str))=false:=beq_false_of_ne λq=>by rw[q,hV] at mk;cases mk
  refine⟨.ref Ck,.ref Ck,λw r=>by cases r;rfl,?_,λpos=>R0 (X:=hcx X pins a oe xe) (Bz (X:=hcx X pins a oe xe) gk) mk rfl dk⟩
  unfold Qi;rw[ne,Bool.or_false];exact ko
 ·obtain rfl:=beq_iff_eq.mp z
  refine⟨.ty "ValueError",.type "ValueError",λw r=>by cases r;rfl,?_,λpos=>R3 (X:=hcx X pins a oe xe) (Bz (X:=hcx X pins a oe xe) gk) hV (u:=.type "ValueError") (by decide +kernel) rfl⟩
  unfold Qi;rw[beq_self_eq_true,Bool.or_true];exact Qd3 sv
end
theorem Qhe{n j:Nat}{i:Int}(h:Lf.ixN n i=some j):j<n:=by
 unfold Lf.ixN at h;split at h
 ·split at h
  ·cases h;omega
  ·cases h
 ·split at h
  ·cases h;omega
  ·cases h
theorem P0{d:D}(h:noL d=true):¬Dd d=true:=λz=>by
 cases d with
 |lst es=>cases h
 |_=>cases z
section
variable{X:Cx}{C:Str->List D->R D}{st:Stmt}
theorem P1{pins:List (Addr×Obj)}{σ0:L2.St}{H:Hp}{s:Shared}(I:Inv X pins σ0 H s){B:Hp}{Al:Addr->Prop}{σ:L2.St}{ρ:Env}{Fs:Nat->List Addr}(S:SR X.K B Al H σ ρ Fs){i:Nat}{xs:List D}(hi:ρ[i]?=some (some (.lst xs,true))) :
  ∃a F vs,Fs i=a::F/\σ[i]?=some (some (.ref a))/\H a=some (.lst vs)/\A5 X.K H xs vs F/\a∉F:=by
 obtain⟨p1,p2,p3,a,F,vs,q1,q2,q3⟩:=S.own i _ hi;obtain⟨v,h1,r⟩:=S.val i _ _ hi;rw[q2] at h1;cases h1;rw[q1] at r p1;obtain⟨b,ws,F',e,rr,q⟩:=r;cases e;rcases q with⟨z0,z⟩|⟨z0,z⟩
 ·rw[q3] at z0
  cases z0;cases z;exact⟨a,F,vs,q1,q2,q3,rr,(List.nodup_cons.mp p1).1⟩
 ·exfalso
  rcases z0 with⟨o,z0⟩|⟨o,its,n,hk,_⟩
  ·rw[q3] at z0;cases z0
  ·have:=(I.bs a o (I.ok.mod.kin a o hk)).2
   rw[q3] at this;cases this
theorem Ww{i:Nat}{x:Str}{p:Pos}(h:isE (.var i) X.env.scope X.N (.Name x p)=true):PE X (.Name x p) (Uf i)/\X.N[i]?=some x:=by
 unfold isE at h;simp only[Bool.and_eq_true,beq_iff_eq] at h;obtain⟨⟨⟨h1,h2⟩,h3⟩,h4⟩:=h;exact⟨Jp h1 (Je.mpr h2) h3 h4,h1⟩
theorem Qeh{i:Nat}{x:Str}{e:Ex}{v:Expr}{p ap cp pos:Pos}(hx:isE (.var i) X.env.scope X.N (.Name x p)=true)(hline:(ap.endLine==cp.line)=true)(hv:Bx v=true)(he:PE X v (tE X.K C e)) :
  PS X (.Expr (.Call (.Attribute (.Name x p) "append" ap) [v] [] cp) pos) (tS X.K C (.app i e)):=by
 obtain⟨hvar,_⟩:=Ww hx;have ha:=Ay he Bq (A9 hv _ _);have hfew:((backTo cp (starEach [v] X.env)).all (λx=>!x.1)&&(backToKw cp (keywordEach [] X.env)).all (λx=>x.1.isSome)
   && decide ([v].length+([]:List Keyword).length+(if ([]:List Keyword).isEmpty then 0 else 1)<30))=true:=by rw[A9 hv];rfl
 have bm:=Ip PySem.F.plainAttrs_list PySem.F.slot_list_append PySem.F.type_list_append Ln hvar ha rfl hfew hline (A9 hv _ _) rfl;intro pins s σ H D I q;refine Mo bm rfl pins s σ H D I ?_;obtain⟨B,Al,ρ,Fs,fl,S,hx',k⟩:=q
 have hx'':(match ρ[i]? with
  |some (some (.lst xs,true))=>ev C e ρ >>= λd=>if noL d&&Av (xs.length+1) then R.ok (Fl.nx (ρ.set i (some (.lst (xs++[d]),true)))) else .un
  | _=>.un)=.ok fl:=hx'
 split at hx''
 ·rename_i xs hi
  obtain⟨d,g1,hx''⟩:=R.bind_eq_ok hx'';split at hx''
  ·rename_i hl
   rw[Bool.and_eq_true] at hl;cases hx'';obtain⟨a,F,vs,q1,q2,q3,rr,q4⟩:=P1 I S hi;refine⟨.ref a,q2,.inl ⟨rfl,vs,.of q3⟩,⟨ρ,Fs,d,S.toVR,g1,λw H' G s' r c _=>?_⟩⟩
   have lenv:=rr.length;have hz:=Bn hl.2;have eG:=r.noL hl.1;subst eG;refine⟨a,vs,w,rfl,rfl,s' _ _ q3,by omega,k _ _ _ ((S.more s').wrote hi q2 q1 (s' _ _ q3) (ws:=vs++[w]) ?_ q4 (λz=>by rw[List.all_append,Bool.and_eq_true] at z;exact absurd (show Dd d=true by simpa using z.2) (P0 hl.1)))⟩
   have z:=(rr.same s').append (A5.one r);rw[List.append_nil] at z;exact z
  ·cases hx''
 ·cases hx''
theorem Qei{i:Nat}{x:Str}{kx vx:Ex}{k v:Expr}{p sp pos:Pos}(hx:isE (.var i) X.env.scope X.N (.Name x p)=true)(hn:Hd v=true)(hkx:Bx k=true)(hk:PE X k (tE X.K C kx))(hv:PE X v (tE X.K C vx)) :
  PS X (.Assign [.Subscript (.Name x p) k sp] v pos) (tS X.K C (.set i kx vx)):=by
 obtain⟨hvar,_⟩:=Ww hx;have pg:=Qcc (pos:=sp) hvar hk V2 (by intro w;cases k<;>first|rfl|cases hkx)
 intro pins s σ H D I q;refine Qce (pos:=pos) hv pg (by unfold swapsWithSole;exact Kb hn _ _ _) (by cases v<;>rfl) rfl pins s σ H D I ?_
 obtain⟨B,Al,ρ,Fs,fl,S,hx',kk⟩:=q
 have hx'':(ev C vx ρ >>= λd=>match ρ[i]? with
  |some (some (.lst xs,true))=>ev C kx ρ >>= λq=>match q with
   |.int n=>match Lf.ixN xs.length n with
    |some j=>if noL d&&Bw xs then R.ok (Fl.nx (ρ.set i (some (.lst (xs.set j d),true)))) else .un
    |none=>.un
   |_=>.un
  | _=>.un)=.ok fl:=hx'
 obtain⟨d,g1,hx''⟩:=R.bind_eq_ok hx'';split at hx''
 ·rename_i xs hi
  obtain⟨q,g2,hx''⟩:=R.bind_eq_ok hx'';split at hx''
  ·rename_i n
   split at hx''
   ·rename_i j hj
    split at hx''
    ·rename_i hl
     cases hx'';obtain⟨a,F,vs,q1,q2,q3,rr,q4⟩:=P1 I S hi;refine⟨ρ,Fs,d,S.toVR,g1,λw H' G s' r c _=>⟨.ref a,q2,⟨ρ,Fs,_,(S.more s').toVR,g2,λw2 H2 G2 s2 r2 c2 _=>?_⟩⟩⟩
     obtain⟨rfl,_⟩:=r2;rw[Bool.and_eq_true] at hl;have eG:=r.noL hl.1;subst eG;have eF:=rr.noL hl.2;subst eF;have lenv:=rr.length;obtain⟨F',rr',sub⟩:=((rr.same s').same s2).set j (r.same s2);have q3':=s2 _ _ (s' _ _ q3);refine⟨a,vs,n,j,rfl,rfl,q3',by rw[<-lenv];exact hj,?_⟩
     have hF:F'=[]:=by
      cases F' with
      |nil=>rfl
      |cons b _=>rcases sub b List.mem_cons_self with z|z<;>cases z
     subst hF;exact kk _ _ _ (((S.more s').more s2).wrote hi q2 q1 q3' rr' q4 (λz=>absurd (List.all_eq_true.mp z d (List.mem_set (Qhe hj) d)) (P0 hl.1)))
    ·cases hx''
   ·cases hx''
  ·cases hx''
 ·cases hx''
end
section
variable{K:Frag}{B:Hp}{Al:Addr->Prop}{H:Hp}{σ:L2.St}{ρ:Env}{Fs:Nat->List Addr}{i:Nat}
end
section
variable{X:Cx}{e:Expr}
variable{i:Nat}{x:Str}{kx:Ex}{k v:Expr}{p sp pos:Pos}
end
section
variable{K:Frag}{B:Hp}{Al:Addr->Prop}{H H1:Hp}{σ:L2.St}{ρ:Env}{Fs:Nat->List Addr}
def F9(B H1:Hp)(F:List Addr):Hp:=λa=>if a∈F then H1 a else match H1 a with
 |some (.lst _)=>B a
 |o=>o
theorem Ft{F:List Addr}{a:Addr}(h:a∈F):F9 B H1 F a=H1 a:=if_pos h
theorem He{F:List Addr}{a:Addr}{xs:List V}(h:a∉F)(e:H1 a=some (.lst xs)):F9 B H1 F a=B a:=by
 unfold F9;rw[if_neg h,e]
theorem Hf{F:List Addr}{a:Addr}(e:∀xs,H1 a≠some (.lst xs)):F9 B H1 F a=H1 a:=by
 unfold F9;split
 ·rfl
 ·split
  ·rename_i xs z;exact absurd z (e xs)
  ·rfl
theorem U2{F:List Addr}(s:A6 B H1):A6 (F9 B H1 F) H1:=λa o e=>by
 by_cases h:a∈F
 ·rw[Ft h] at e;exact e
 ·by_cases hl:∃xs,H1 a=some (.lst xs)
  ·obtain⟨xs,z⟩:=hl
   rw[He h z] at e;exact s a o e
  ·rw[Hf λxs z=>hl ⟨xs,z⟩] at e
   exact e
theorem M5{F:List Addr}(s:A6 B H1):A6 B (F9 B H1 F):=λa o e=>by
 by_cases h:a∈F
 ·rw[Ft h];exact s a o e
 ·by_cases hl:∃xs,H1 a=some (.lst xs)
  ·obtain⟨xs,z⟩:=hl
   rw[He h z];exact e
  ·rw[Hf λxs z=>hl ⟨xs,z⟩]
   exact s a o e
theorem S6{F:List Addr}{H':Hp}(s:A6 (F9 B H1 F) H'):Kp (λa=>a∉F/\∃xs,H1 a=some (.lst xs)) H1 H':=
 ⟨λb o e n=>by
  refine s b o ?_;by_cases h:b∈F
  ·rw[Ft h];exact e
  ·rw[Hf λxs z=>n ⟨h,xs,z⟩];exact e,λb z=>z.2⟩
theorem SR.held(S:SR K B Al H1 σ ρ Fs){F:List Addr}(hl:∀a∈F,∃xs,H1 a=some (.lst xs))(hap:∀j d',ρ[j]?=some (some (d',true))->∀a∈Fs j,a∉F):SR K (F9 B H1 F) Al H1 σ ρ Fs where
 toVR:=S.toVR
 al:=S.al
 own:=λi d h=>by
  obtain⟨p1,p2,p3,p4⟩:=S.own i d h;refine⟨p1,λa ha=>?_,p3,p4⟩
  obtain⟨v,_,r⟩:=S.val i d true h;obtain⟨xs,e⟩:=r.lists a ha;rw[He (hap i d h a ha) e];exact p2 a ha
 same:=U2 S.same
 deep:=S.deep
 fr:=λa e=>by
  by_cases h:a∈F
  ·rw[Ft h] at e
   obtain⟨xs,z⟩:=hl a h;rw[z] at e;cases e
  ·by_cases hx:∃xs,H1 a=some (.lst xs)
   ·obtain⟨xs,z⟩:=hx
    rw[He h z] at e;exact S.fr a e
   ·rw[Hf λxs z=>hx ⟨xs,z⟩] at e
    exact S.fr a (S.same.free e)
theorem SR.unheld{B':Hp}(S:SR K B' Al H1 σ ρ Fs)(s:A6 B B')(hf:∀a,B a=none->Al a):SR K B Al H1 σ ρ Fs where
 toVR:=S.toVR
 deep:=S.deep
 al:=S.al
 own:=λi d h=>by
  obtain⟨p1,p2,p3,p4⟩:=S.own i d h;exact⟨p1,λa ha=>s.free (p2 a ha),p3,p4⟩
 same:=s.trans S.same
 fr:=hf
end
theorem Wx{e:Ex}{ρ:Env}{i:Nat}{d:D}:(give e ρ i d).length=ρ.length:=by
 unfold give;split
 ·simp
 ·split
  ·simp
  ·simp[Fq]
theorem Kc{f:D->Env->R Fl}(hf:∀d ρ ρ',f d ρ=.ok (.nx ρ')->ρ'.length=ρ.length):∀{xs:List D} {ρ ρ':Env},C4 f xs ρ=.ok (.nx ρ')->ρ'.length=ρ.length
 |[],ρ,ρ',h=>by cases h;rfl
 |x::r,ρ,ρ',h=>by
  have h':(f x ρ >>= λk=>match k with|.nx ρ'=>C4 f r ρ'|.rt d=>.ok (.rt d))=.ok (.nx ρ'):=h
  obtain⟨k,h1,h'⟩:=R.bind_eq_ok h'
  cases k with
  |nx ρ1=>rw[Kc hf h',hf _ _ _ h1]
  |rt d=>cases h'
theorem Qah{l:Xl}:∀{hs:List Hm} {ρ ρ':Env},exH l hs ρ=.ok (.nx ρ')->ρ'.length=ρ.length
 |[],ρ,ρ',e=>by cases e;rfl
 |.ret1 c::r,ρ,ρ',e=>by cases e
mutual
theorem Qai{C:Str->List D->R D}:∀{st:Sm} {ρ ρ':Env},exm C st ρ=.ok (.nx ρ')->ρ'.length=ρ.length
 |.asg i e,ρ,ρ',h=>by
  have h':(ev C e ρ >>= λd=>R.ok (Fl.nx (give e ρ i d)))=.ok (.nx ρ'):=h
  obtain⟨d,_,h'⟩:=R.bind_eq_ok h';cases h';exact Wx
 |.app i e,ρ,ρ',h=>by
  simp only[exm] at h;split at h
  ·obtain⟨d,_,h⟩:=R.bind_eq_ok h
   split at h
   ·cases h;simp
   ·cases h
  ·cases h
 |.set i k v,ρ,ρ',h=>by
  simp only[exm] at h;obtain⟨d,_,h⟩:=R.bind_eq_ok h;split at h
  ·obtain⟨q,_,h⟩:=R.bind_eq_ok h
   split at h
   ·split at h
    ·split at h
     ·cases h;simp
     ·cases h
    ·cases h
   ·cases h
  ·cases h
 |.exp e,ρ,ρ',h=>by
  simp only[exm] at h;obtain⟨d,_,h⟩:=R.bind_eq_ok h;cases h;rfl
 |.ret e,ρ,ρ',h=>by
  simp only[exm] at h;obtain⟨d,_,h⟩:=R.bind_eq_ok h;cases h
 |.ife c a b,ρ,ρ',h=>by
  simp only[exm] at h;obtain⟨k,_,h⟩:=R.bind_eq_ok h;split at h
  ·exact Cg h
  ·exact Cg h
 |.for1 i it b,ρ,ρ',h=>by
  simp only[exm] at h;obtain⟨xs,_,h⟩:=R.bind_eq_ok h;rw[Kc (λd ρ ρ' h=>by rw[Cg h];simp) h,Fq]
 |.for2 i j it b,ρ,ρ',h=>by
  simp only[exm] at h;obtain⟨xs,_,h⟩:=R.bind_eq_ok h;rw[Kc (λd ρ ρ' h=>?_) h,Fq]
  split at h
  ·rw[Cg h];simp
  ·cases h
 |.retK mx a b,ρ,ρ',h=>by
  simp only[exm] at h;obtain⟨d,_,h⟩:=R.bind_eq_ok h
  cases d with
  |lst ds=>
   obtain⟨ks,_,h⟩:=R.bind_eq_ok h;obtain⟨r,_,h⟩:=R.bind_eq_ok h;cases h
  |_=>cases h
 |.rse _,ρ,ρ',h=>by simp only[exm] at h;cases h
 |.rsI _ _,ρ,ρ',h=>by simp only[exm] at h;cases h
 |.tryN b _ _,ρ,ρ',h=>by
  simp only[exm] at h;exact Cg h
 |.tryB b _,ρ,ρ',h=>by
  simp only[exm] at h;split at h
  ·rename_i e
   cases h;exact Cg e
  ·split at h
   ·split at h
    ·cases h
    ·cases h
   ·cases h
 |.tryH b _ _ _ us hs,ρ,ρ',h=>by
  simp only[exm] at h;split at h
  ·rename_i e
   cases h;exact Cg e
  ·split at h
   ·split at h
    ·rw[Qah h,List.length_replicate]
    ·cases h
   ·cases h
 |.bad,ρ,ρ',h=>by simp only[exm] at h;cases h
theorem Cg{C:Str->List D->R D}:∀{st:Sms} {ρ ρ':Env},exs C st ρ=.ok (.nx ρ')->ρ'.length=ρ.length
 |.nil,ρ,ρ',h=>by simp only[exs] at h;cases h;rfl
 |.cons a r,ρ,ρ',h=>by
  simp only[exs] at h;obtain⟨k,h1,h⟩:=R.bind_eq_ok h
  cases k with
  |nx ρ1=>rw[Cg h,Qai h1]
  |rt d=>cases h
end
section
variable{X:Cx}{C:Str->List D->R D}
theorem P2{tg iter:Expr}{body:List Stmt}{it:It}{b:Sms}{g:TG}{pos:Pos}(f:D->Env->R Fl)(hlen:∀d ρ ρ',f d ρ=.ok (.nx ρ')->ρ'.length=ρ.length)(hpo:PassesOwn (model X.prog X.w) X.A X.env X.xe)(hc:X.calm=true)(hx:Bx iter=true)
  (hi:PI X tg iter (tI X.K C it)) (hg:PG X tg g) (hb:PSs X body (tSs X.K C b))
  (turn:∀{B:Hp} {Al:Addr->Prop} {H:Hp} {σ:L2.St} {ρ:Env} {Fs:Nat->List Addr} {d:D} {x:V} {G:List Addr} {fl:Fl} {Dn:Ends},σ.length=X.N.length->SR X.K B Al H σ ρ Fs->Rep X.K H d x G->(∀a∈G,Al a)->(∀j d',ρ[j]?=some (some (d',true))->∀a∈Fs j,a∉G)->f d ρ=.ok fl->FQ X.K B Al (Cv b) fl Dn->g x σ H λσ2 H2=>tSs X.K C b Dn σ2 H2) :
  ∀(pins:List (Addr×Obj)) (s:Shared) (σ:L2.St) (H:Hp) (Dn:Ends),Inv X pins σ H s->(∃B Al ρ Fs fl ds,SR X.K B Al H σ ρ Fs/\evI C it ρ=.ok ds/\C4 f ds (unown (Ak it) ρ)=.ok fl/\FQ X.K B Al (Cv b) fl Dn) ->
   wpAny (model X.prog X.w) X.A (exec (.For tg iter body [] pos) X.env) (SP X pins Dn) X.xe s:=by
 intro pins s σ H Dn I h;refine Ut hpo hc hi hg hb (λx=>Nk hx _ x) pins s σ H Dn I ?_
 obtain⟨B,Al,ρ,Fs,fl,ds,S,g1,g2,k⟩:=h;refine⟨ρ,Fs,ds,S.toVR,g1,λJ H1 F s1 io c1 hz=>?_⟩
 have hal:∀a∈F,Al a:=λa ha=>by
  rcases c1 a ha with z|⟨i,_,⟨d',o',hi⟩,z⟩
  ·exact S.fr a (S.same.free z)
  ·exact S.al i d' o' hi a z
 have hap:∀j d',(unown (Ak it) ρ)[j]?=some (some (d',true))->∀a∈Fs j,a∉F:=λj d' h a ha ha'=>by
  obtain⟨o',h',z⟩:=Cb h;obtain⟨rfl,hv⟩:=z rfl;rcases c1 a ha' with q|⟨i,hi,⟨d2,o2,hi2⟩,q⟩
  ·exact S.tracked h' ha q
  ·have:i≠j:=λz=>hv (by rw[<-z];exact hi)
   exact(S.own j d' h').2.2.1 i d2 o2 this hi2 a ha q
 have S0:SR X.K (F9 B H1 F) Al H1 σ (unown (Ak it) ρ) Fs:=((S.more s1).unown (Ak it)).held io.lists hap;have sB:A6 B (F9 B H1 F):=M5 (S.same.trans s1);refine⟨λi m σ' H'=>m=ds.length-i/\i<=ds.length/\σ'.length=X.N.length/\∃ρ' Fs',SR X.K (F9 B H1 F) Al H' σ' ρ' Fs'/\C4 f (ds.drop i) ρ'=.ok fl,⟨ds.length,rfl,Nat.zero_le _,I.len,_,_,S0,g2⟩,?_⟩
 rintro i m σ' H' ⟨rfl,hi',hl,ρ',Fs',S',hf⟩
 have kp:=S6 S'.same;by_cases hlt:i<ds.length
 ·refine .inr ⟨io.go i H' _ kp (λa ha z=>z.1 ha) hlt,λσ2 H2=>σ2.length=X.N.length/\∃ρ2 Fs2,SR X.K (F9 B H1 F) Al H2 σ2 ρ2 Fs2/\C4 f (ds.drop (i+1)) ρ2=.ok fl,λσ2 H2 ⟨l2,ρ2,Fs2,S2,h2⟩=>⟨ds.length-(i+1),by omega,rfl,hlt,l2,ρ2,Fs2,S2,h2⟩,λx H2 y=>?_⟩
  obtain⟨sm,G,rep,sub⟩:=io.yld i H' x H2 _ kp (λa ha z=>z.1 ha) y ds[i] (List.getElem?_eq_getElem hlt)
  rw[List.drop_eq_getElem_cons hlt] at hf;have hf':(f ds[i] ρ' >>= λk=>match k with|.nx ρ''=>C4 f (ds.drop (i+1)) ρ''|.rt d=>.ok (.rt d))=.ok fl:=hf
  obtain⟨f1,h1,hf'⟩:=R.bind_eq_ok hf';refine turn hl (S'.more sm) rep (λa ha=>hal a (sub a ha)) (λj d' h a ha ha'=>?_) h1 ?_
  ·have e1:=(S'.own j d' h).2.1 a ha
   rw[Ft (sub a ha')] at e1;obtain⟨xs,z⟩:=io.lists a (sub a ha');rw[z] at e1;cases e1
  ·cases f1 with
   |nx ρ2=>exact λσ2 H3 Fs2 S2=>⟨by rw[S2.len,hlen _ _ _ h1,<-S'.len];exact hl,ρ2,Fs2,S2,hf'⟩
   |rt d=>
    cases hf';exact λv H3 F3 sB' r3 a3 f3=>k v H3 F3 (sB.trans sB') r3 a3 λm z=>(f3 m z).mono sB
 ·have hie:i=ds.length:=by omega
  subst hie;rw[List.drop_length] at hf;cases hf;exact .inl ⟨io.stop _ H' _ kp (λa ha z=>z.1 ha) (Nat.le_refl _),k _ _ _ (S'.unheld sB S.fr)⟩
theorem Qaj{i:Nat}{x:Str}{it:It}{b:Sms}{iter:Expr}{body:List Stmt}{p pos:Pos}(hpo:PassesOwn (model X.prog X.w) X.A X.env X.xe)(hc:X.calm=true)(nd:X.N.Nodup)(hfn:X.fn x=true)(hp:Hy X.env.scope X.N i x=true)(hx:Bx iter=true)
  (hi:PI X (.Name x p) iter (tI X.K C it)) (hb:PSs X body (tSs X.K C b)):PS X (.For (.Name x p) iter body [] pos) (tS X.K C (.for1 i it b)):=by
 obtain⟨h1,h2⟩:=F8 hp;intro pins s σ H Dn I h;refine P2 (λx ρ=>exs C b (ρ.set i (some (x,false)))) (λd ρ ρ' h=>by rw[Cg h];simp) hpo hc hx hi (D9 nd h1 h2 (.inl hfn)) hb ?_ pins s σ H Dn I ?_
 ·intro B Al H σ ρ Fs d x G fl Dn hl S r hal hap hf k
  exact⟨B,Al,_,_,fl,S.view (by rw[hl];exact(List.getElem?_eq_some_iff.mp h1).1) r hal (λj d' hj h=>hap j d' h),hf,k⟩
 ·obtain⟨B,Al,ρ,Fs,fl,S,he,k⟩:=h
  simp only[exm] at he;obtain⟨ds,g1,g2⟩:=R.bind_eq_ok he;exact⟨B,Al,ρ,Fs,fl,ds,S,g1,g2,k⟩
theorem Qak{i j:Nat}{x y:Str}{it:It}{b:Sms}{iter:Expr}{body:List Stmt}{p q pt pos:Pos}{kt:Nat}(hpo:PassesOwn (model X.prog X.w) X.A X.env X.xe)(hc:X.calm=true)(nd:X.N.Nodup)(hfx:X.fn x=true)(hfy:X.fn y=true)(hxp:Hy X.env.scope X.N i x=true)(hyp:Hy X.env.scope X.N j y=true)(hx:Bx iter=true)
  (hi:PI X (.Tuple [.Name x p,.Name y q] kt pt) iter (tI X.K C it)) (hb:PSs X body (tSs X.K C b)):PS X (.For (.Tuple [.Name x p,.Name y q] kt pt) iter body [] pos) (tS X.K C (.for2 i j it b)):=by
 obtain⟨h1,h2⟩:=F8 hxp;obtain⟨h3,h4⟩:=F8 hyp;have pg:=Pv (k:=kt) (pos:=pt) hc (Dm (D9 (pos:=p) nd h1 h2 (.inl hfx)) (Dm (D9 (pos:=q) nd h3 h4 (.inl hfy)) Mq));intro pins s σ H Dn I h;refine P2 (λx ρ=>match x with|.tup [u,v]=>exs C b ((ρ.set i (some (u,false))).set j (some (v,false)))|_=>.un) (λd ρ ρ' h=>?_) hpo hc hx hi pg hb ?_ pins s σ H Dn I ?_
 ·split at h
  ·rw[Cg h];simp
  ·cases h
 ·intro B Al H σ ρ Fs d w G fl Dn hl S r hal hap hf k
  split at hf
  ·rename_i da db
   obtain⟨ad,vs,rfl,hq,rr⟩:=r;obtain⟨v1,w1,F1,F2,rfl,rfl,r1,rr⟩:=rr;obtain⟨v2,w2,F3,F4,rfl,rfl,r2,rr⟩:=rr;obtain⟨rfl,rfl⟩:=rr;have li:i < σ.length:=by rw[hl];exact(List.getElem?_eq_some_iff.mp h1).1
   have lj:j < σ.length:=by rw[hl];exact(List.getElem?_eq_some_iff.mp h3).1
   have S1:=S.view li r1 (λa ha=>hal a (List.mem_append_left _ ha)) (λj d' hj h a ha ha'=>hap j d' h a ha (List.mem_append_left _ ha'))
   refine⟨ad,_,rfl,hq,rfl,v1,_,rfl,v2,_,rfl,rfl,B,Al,_,_,fl,S1.view (by rw[List.length_set];exact lj) r2 (λa ha=>hal a (List.mem_append_right _ (List.mem_append_left _ ha))) (λm d' hm h a ha ha'=>?_),hf,k⟩
   by_cases hmi:m=i
   ·subst hmi
    rw[List.getElem?_set_self (by rw[<-S.len];exact li)] at h
    cases h
   ·rw[List.getElem?_set_ne (Ne.symm hmi)] at h
    simp only[if_neg hmi] at ha;exact hap m d' h a ha (List.mem_append_right _ (List.mem_append_left _ ha'))
  ·cases hf
 ·obtain⟨B,Al,ρ,Fs,fl,S,he,k⟩:=h
  simp only[exm] at he;obtain⟨ds,g1,g2⟩:=R.bind_eq_ok he;exact⟨B,Al,ρ,Fs,fl,ds,S,g1,g2,k⟩
end
section
variable{X:Cx}{T:Tab}{n:Nat}
end
theorem Au.reps{K:Frag}{H:Hp}:∀{ds:List D} {vs:List V} {G:List Addr},Au K H ds vs G->A5 K H ds vs G
 |[],_,_,h=>h
 |d::ds,_,_,hD=>by
  obtain⟨es,a,ws,r,G',e1,e2,e3,e4,e5,e6,e7⟩:=hD;subst e1;subst e2;subst e3;exact⟨.ref a,r,[a],G',rfl,rfl,⟨a,ws,[],rfl,e5,.inl ⟨e4,rfl⟩⟩,e7.reps⟩
theorem Au.at{K:Frag}{H:Hp}:∀{ds:List D} {vs:List V} {G:List Addr} {m:Nat} {d:D},Au K H ds vs G->ds[m]?=some d->∃es b ws,d=.lst es/\vs[m]?=some (.ref b)/\b∈G/\H b=some (.lst ws)/\A5 K H es ws []
 |[],_,_,m,d,_,e=>by simp at e
 |d0::ds,_,_,0,d,hD,e=>by
  obtain⟨es,a,ws,r,G',e1,e2,e3,e4,e5,e6,e7⟩:=hD;subst e2;subst e3;have:d0=d:=by simpa using e
  subst this;exact⟨es,a,ws,e1,rfl,List.mem_cons_self,e4,e5⟩
 |d0::ds,_,_,m+1,d,hD,e=>by
  obtain⟨es,a,ws,r,G',e1,e2,e3,e4,e5,e6,e7⟩:=hD;subst e2;subst e3;obtain⟨es',b,ws',h1,h2,h3,h4,h5⟩:=e7.at (m:=m) (d:=d) (by simpa using e)
  exact⟨es',b,ws',h1,by simpa using h2,List.mem_cons_of_mem _ h3,h4,h5⟩
theorem Au.set{K:Frag}{H:Hp}:∀{ds:List D} {vs:List V} {G:List Addr} {m:Nat} {b:Addr} {xs ws':List V} {es':List D},Au K H ds vs G->vs[m]?=some (.ref b)->H b=some (.lst xs)->A5 K H es' ws' []->Au K (L2.upd H b (.lst ws')) (ds.set m (.lst es')) vs G
 |[],_,_,m,b,xs,ws',es',⟨h1,h2⟩,e,_,_=>by subst h1;simp at e
 |d0::ds,_,_,0,b,xs,ws',es',hD,e,hb,rr=>by
  obtain⟨es,a,ws,r,G',e1,e2,e3,e4,e5,e6,e7⟩:=hD;subst e2;subst e3;have:a=b:=by simpa using e
  subst this;exact⟨es',a,ws',r,G',rfl,rfl,rfl,Az,Fm hb rr,e6,e7.upd hb λc hc z=>e6 (z ▸ hc)⟩
 |d0::ds,_,_,m+1,b,xs,ws',es',hD,e,hb,rr=>by
  obtain⟨es,a,ws,r,G',e1,e2,e3,e4,e5,e6,e7⟩:=hD;subst e2;subst e3;have hm:r[m]?=some (.ref b):=by simpa using e
  have hbG:b∈G':=by
   have hl:∃d,ds[m]?=some d:=by
    have l1:=e7.reps.length;have:=(List.getElem?_eq_some_iff.mp hm).1;exact⟨_,List.getElem?_eq_getElem (by omega)⟩
   obtain⟨d,hd⟩:=hl;obtain⟨_,b',_,_,h2,h3,_⟩:=e7.at hd;rw[hm] at h2;cases h2;exact h3
  have hab:a≠b:=λz=>e6 (z ▸ hbG)
  exact⟨es,a,ws,r,G',e1,rfl,rfl,by rw[A7 hab];exact e4,Fm hb e5,e6,e7.set hm hb rr⟩
section
variable{X:Cx}{C:Str->List D->R D}
end
section
variable{X:Cx}{C:Str->List D->R D}
theorem Qal{T:Tab}{n:Nat}{i:Nat}{x:Str}{two:Bool}{elt:Ex}{it:It}{ifs:Exs}{e:Expr}{pos pos':Pos}(M:Md T n X)(hfn:X.fn x=true)(hp:Hy X.env.scope X.N i x=true)(h:isE (.comp two elt it ifs) X.env.scope X.N e=true)(hsw:swapsWith e (some (.Name x pos')) pos.line X.env=pure true)
  (hI:∀tg e,isI it X.env.scope X.N tg e=true->PI X tg e (tI X.K C it))
  (hT:∀X',Md T n X'->∀es,Nb ifs X'.env.scope X'.N es=true->PTs X' es (tTs X'.K C ifs)) (hE:∀X',Md T n X'->∀e,isE elt X'.env.scope X'.N e=true->PE X' e (tE X'.K C elt)):PS X (.Assign [.Name x pos'] e pos) (tS X.K C (.asg i (.comp two elt it ifs))):=by
 obtain⟨h1,h2⟩:=F8 hp;obtain⟨elt',tg,iter,ifs',isc,cpos,xs,rfl,ht,ok,nd,k1,k2,k3⟩:=Jf h;intro pins s σ H Dn I q;obtain⟨B,Al,ρ,Fs,fl,S,hx,k⟩:=q;simp only[exm] at hx;obtain⟨d,g1,hx⟩:=R.bind_eq_ok hx;cases hx;have hd:∃ys,d=.lst ys:=by
  have he':=g1;rw[N8] at he';obtain⟨ds,_,he'⟩:=R.bind_eq_ok he';obtain⟨ys,_,he'⟩:=R.bind_eq_ok he';cases he';exact⟨ys,rfl⟩
 obtain⟨ys,rfl⟩:=hd;rw[exec_Assign_Name_used _ _ _ _ hsw];refine wpAny_bind (wpAny_standAt (wpAny_bind ?_))
 show wpAny (model X.prog X.w) X.A (comprehension (.ListComp elt' [⟨tg,iter,ifs',0⟩] isc cpos) isc X.env _ (newList []) false (eval iter X.env) (some (assign (.Name x pos') X.env)) >>= λ_=>pure ()) _ X.xe s
 refine wpAny_bind (wpAny_mono (Oy (use:=some (assign (.Name x pos') X.env)) (Q:=λ_ s'=>SP X pins Dn .next s') (fm:=Co elt) (DC:=False) (λz=>z.elim) M ht ok nd k1 (hI _ _ k1) (λX' M' e1 e2=>hT X' M' _ (by rw[e1,e2];exact k2)) (λX' M' e1 e2=>hE X' M' _ (by rw[e1,e2];exact k3)) I S.toVR g1 ?_) (λ_ s' hq=>wpAny_pure (wpAny_pure hq)) λ_ _ z=>z)
 intro D' Bf vs G H' s' I' ⟨m,nsB⟩ fB sm hD hD' rr cG _;obtain⟨b0,b1,b2,b3,b4,b5⟩:=fB
 show wpAny (model X.prog X.w) X.A (assign (.Name x pos') X.env (.ref D')) _ X.xe s'
 refine wpAny_assign_Name (Lb I' M.nd h1 h2 (v:=.ref D') rfl (λs'' I'' ⟨a,sb,ha⟩=>⟨m,?_,λh' sb'=>?_⟩) (.inl hfn))
 ·refine nsB.sameBut sb ?_
  rintro rfl
  rcases ha with z|z
  ·exact b1 z
  ·exact b4 _ _ z rfl
 ·have I2:Inv X pins (σ.set i (some (.ref D'))) H' { s'' with heap:=h' }:=I''.turned (t':=s''.toks) (λb o hb e=>sb'.extBut b o hb e) b0 b1 b3 b4 b5
  refine⟨_,H',I2,k _ _ _ (S.give (F:=D'::G) (by rw[I.len];exact(List.getElem?_eq_some_iff.mp h1).1) sm ⟨D',vs,G,rfl,rr,.inl ⟨hD',rfl⟩⟩ (Src.new hD cG) (λ_ ds _=>⟨D',G,rfl,hD⟩))⟩
end
section
variable(T:Tab)(n:Nat)
structure LamAt(X:Cx)(c P:Addr):Prop where
 code:X.env.code=.ref c
 hd:PySem.W.codeHdIn X.K c P=true
 ne:mainGlobals≠P
 bt:X.base.BuiltinsAt X.mg P
def Qhf(n:Nat)(X:Cx):Prop:=Room (2*n+4+1) X.A/\∃c P,LamAt X c P/\∃more,X.H₀ P=some (.tbl (#[.str (X.env.qual++("<lambda>" : Str)) 0]++more))
def KS(T:Tab)(n:Nat)(X:Cx):Prop:=∀mx e b st,isS (.retK mx e b) X.env.scope X.N st=true->PS X st (tS X.K (run T n) (.retK mx e b))
structure Df(X:Cx):Prop where
 fn:∀x,X.fn x=true
 stk:X.stack=X.env::X.outer
 frm:X.env.frame=some X.env.locals
structure RaiseOk(X:Cx)(W:Xl->Hp->Prop):Prop where
 mr:∀pins σ H s h' e Ca c oe vs,X.mg c=some (.ref Ca)->Inv X pins σ H s->(∀b o,s.heap.get? b=some o->h'.get? b=some o)->s.heap.get? e=none->h'.get? e=some oe->oe.cls=.ref Ca->oe.dict=none->oe.data=.fields vs->vs[1]?=some .none->W (c,none) H->X.xe (.ref e) { s with heap:=h' }
 mkI:∀pins σ H s s' e t dx Ca c v u d,X.mg c=some (.ref Ca)->Inv X pins σ H s->s'.os=s.os->AllBare s'.gens->Un (frs X.stack) [] H H s.heap s'.heap->HOk X.prog X.w H s'.heap->s.heap.get? e=none->s'.heap.get? e=some { cls:=.ref Ca,dict:=some dx,data:=.fields #[.ref t,.none,.none,.none,.bool false,.none] }->An v u ->
  s'.heap.Ns1 dx (λy=>if y = "at" then some u else none)->s.heap.get? dx=none->Rep X.K H d v []->(∀H',A6 H H'->W (c,some d) H')->X.xe (.ref e) s'
 po:∀hd,PassesOwnAt (model X.prog X.w) (X.A.mark hd) X.A X.env X.xe
 pw:PassesOwn (model X.prog X.w) X.A X.env X.xe
def tX(K:Frag)(C:Str->List D->R D)(a:Sm)(W:Xl->Hp->Prop):TS:=λ_ σ H=>∃B Al ρ Fs c,SR K B Al H σ ρ Fs/\xm C a ρ=some c/\∀H',A6 B H'->W c H'
def tXs(K:Frag)(C:Str->List D->R D)(a:Sms)(W:Xl->Hp->Prop):TS:=λ_ σ H=>∃B Al ρ Fs c,SR K B Al H σ ρ Fs/\xs C a ρ=some c/\∀H',A6 B H'->W c H'
theorem U3{f:D->Env->R Fl}{g:D->Env->Option Xl}{d:D}{ds:List D}{ρ:Env}{l:Xl}(h:E7 f g (d::ds) ρ=some l):g d ρ=some l\/∃ρ',f d ρ=.ok (.nx ρ')/\E7 f g ds ρ'=some l:=by
 have h':(match g d ρ with|some l=>some l|none=>(match f d ρ with|.ok (.nx ρ')=>E7 f g ds ρ'|_=>none))=some l:=h
 cases e1:g d ρ with
 |some l'=>rw[e1] at h';exact .inl h'
 |none=>
  rw[e1] at h';simp only at h'
  cases e2:f d ρ with
  |ok fl=>
   rw[e2] at h'
   cases fl with
   |nx ρ'=>exact .inr ⟨ρ',rfl,h'⟩
   |rt d=>cases h'
  |xn _ _=>rw[e2] at h';cases h'
  |un=>rw[e2] at h';cases h'
theorem Qej{X:Cx}{sts:List Stmt}{t u:TS}(h1:PSs X sts t)(h2:PSs X sts u):PSs X sts (λD σ H=>t D σ H\/u D σ H):=λpins s σ H D I h=>h.elim (h1 pins s σ H D I) (h2 pins s σ H D I)
theorem U4{X:Cx}{C:Str->List D->R D}{tg iter:Expr}{body:List Stmt}{it:It}{b:Sms}{gg:TG}{pos:Pos}{W:Xl->Hp->Prop}(f:D->Env->R Fl)(g:D->Env->Option Xl)(hlen:∀d ρ ρ',f d ρ=.ok (.nx ρ')->ρ'.length=ρ.length)(hpo:PassesOwn (model X.prog X.w) X.A X.env X.xe)(hc:X.calm=true)(hx:Bx iter=true)
  (hi:PI X tg iter (tI X.K C it)) (hg:PG X tg gg) (hb:PSs X body (tSs X.K C b)) (hbx:PSs X body (tXs X.K C b W))
  (turn:∀{B:Hp} {Al:Addr->Prop} {H:Hp} {σ:L2.St} {ρ:Env} {Fs:Nat->List Addr} {d:D} {x:V} {G:List Addr} {fl:Fl} {Dn:Ends},σ.length=X.N.length->SR X.K B Al H σ ρ Fs->Rep X.K H d x G->(∀a∈G,Al a)->(∀j d',ρ[j]?=some (some (d',true))->∀a∈Fs j,a∉G)->f d ρ=.ok fl->FQ X.K B Al (Cv b) fl Dn->gg x σ H λσ2 H2=>tSs X.K C b Dn σ2 H2\/tXs X.K C b W Dn σ2 H2)
  (turnX:∀{B:Hp} {Al:Addr->Prop} {H:Hp} {σ:L2.St} {ρ:Env} {Fs:Nat->List Addr} {d:D} {x:V} {G:List Addr} {l:Xl} {Dn:Ends},σ.length=X.N.length->SR X.K B Al H σ ρ Fs->Rep X.K H d x G->(∀a∈G,Al a)->(∀j d',ρ[j]?=some (some (d',true))->∀a∈Fs j,a∉G)->g d ρ=some l->(∀H',A6 B H'->W l H')->gg x σ H λσ2 H2=>tSs X.K C b Dn σ2 H2\/tXs X.K C b W Dn σ2 H2) :
  ∀(pins:List (Addr×Obj)) (s:Shared) (σ:L2.St) (H:Hp) (Dn:Ends),Inv X pins σ H s->(∃B Al ρ Fs l ds,SR X.K B Al H σ ρ Fs/\evI C it ρ=.ok ds/\E7 f g ds (unown (Ak it) ρ)=some l/\∀H',A6 B H'->W l H') ->
   wpAny (model X.prog X.w) X.A (exec (.For tg iter body [] pos) X.env) (SP X pins Dn) X.xe s:=by
 intro pins s σ H Dn I h;refine Ut hpo hc hi hg (Qej hb hbx) (λx=>Nk hx _ x) pins s σ H Dn I ?_
 obtain⟨B,Al,ρ,Fs,l,ds,S,g1,g2,k⟩:=h;refine⟨ρ,Fs,ds,S.toVR,g1,λJ H1 F s1 io c1 hz=>?_⟩
 have hal:∀a∈F,Al a:=λa ha=>by
  rcases c1 a ha with z|⟨i,_,⟨d',o',hi⟩,z⟩
  ·exact S.fr a (S.same.free z)
  ·exact S.al i d' o' hi a z
 have hap:∀j d',(unown (Ak it) ρ)[j]?=some (some (d',true))->∀a∈Fs j,a∉F:=λj d' h a ha ha'=>by
  obtain⟨o',h',z⟩:=Cb h;obtain⟨rfl,hv⟩:=z rfl;rcases c1 a ha' with q|⟨i,hi,⟨d2,o2,hi2⟩,q⟩
  ·exact S.tracked h' ha q
  ·have:i≠j:=λz=>hv (by rw[<-z];exact hi)
   exact(S.own j d' h').2.2.1 i d2 o2 this hi2 a ha q
 have S0:SR X.K (F9 B H1 F) Al H1 σ (unown (Ak it) ρ) Fs:=((S.more s1).unown (Ak it)).held io.lists hap;have sB:A6 B (F9 B H1 F):=M5 (S.same.trans s1);refine⟨λi m σ' H'=>m=ds.length-i/\i<=ds.length/\σ'.length=X.N.length/\∃ρ' Fs',SR X.K (F9 B H1 F) Al H' σ' ρ' Fs'/\E7 f g (ds.drop i) ρ'=some l,⟨ds.length,rfl,Nat.zero_le _,I.len,_,_,S0,g2⟩,?_⟩
 rintro i m σ' H' ⟨rfl,hi',hl,ρ',Fs',S',hf⟩
 have kp:=S6 S'.same;by_cases hlt:i<ds.length
 ·refine .inr ⟨io.go i H' _ kp (λa ha z=>z.1 ha) hlt,λσ2 H2=>σ2.length=X.N.length/\∃ρ2 Fs2,SR X.K (F9 B H1 F) Al H2 σ2 ρ2 Fs2/\E7 f g (ds.drop (i+1)) ρ2=some l,λσ2 H2 ⟨l2,ρ2,Fs2,S2,h2⟩=>⟨ds.length-(i+1),by omega,rfl,hlt,l2,ρ2,Fs2,S2,h2⟩,λx H2 y=>?_⟩
  obtain⟨sm,G,rep,sub⟩:=io.yld i H' x H2 _ kp (λa ha z=>z.1 ha) y ds[i] (List.getElem?_eq_getElem hlt)
  rw[List.drop_eq_getElem_cons hlt] at hf;have apart:∀j d',ρ'[j]?=some (some (d',true))->∀a∈Fs' j,a∉G:=λj d' h a ha ha'=>by
   have e1:=(S'.own j d' h).2.1 a ha;rw[Ft (sub a ha')] at e1;obtain⟨xs,z⟩:=io.lists a (sub a ha');rw[z] at e1;cases e1
  rcases U3 hf with hg'|⟨ρ2,h1,hf'⟩
  ·exact turnX hl (S'.more sm) rep (λa ha=>hal a (sub a ha)) apart hg' λH3 s3=>k H3 (sB.trans s3)
  ·exact turn hl (S'.more sm) rep (λa ha=>hal a (sub a ha)) apart h1 λσ2 H3 Fs2 S2=>⟨by rw[S2.len,hlen _ _ _ h1,<-S'.len];exact hl,ρ2,Fs2,S2,hf'⟩
 ·have hie:i=ds.length:=by omega
  subst hie;rw[List.drop_length] at hf;cases hf
theorem Wy{X:Cx}{C:Str->List D->R D}{i j:Nat}{x y:Str}{it:It}{b:Sms}{iter:Expr}{body:List Stmt}{p q pt pos:Pos}{kt:Nat}{W:Xl->Hp->Prop}(hpo:PassesOwn (model X.prog X.w) X.A X.env X.xe)(hc:X.calm=true)(nd:X.N.Nodup)(hfx:X.fn x=true)(hfy:X.fn y=true)(hxp:Hy X.env.scope X.N i x=true)(hyp:Hy X.env.scope X.N j y=true)(hx:Bx iter=true)
  (hi:PI X (.Tuple [.Name x p,.Name y q] kt pt) iter (tI X.K C it)) (hb:PSs X body (tSs X.K C b)) (hbx:PSs X body (tXs X.K C b W)):PS X (.For (.Tuple [.Name x p,.Name y q] kt pt) iter body [] pos) (tX X.K C (.for2 i j it b) W):=by
 obtain⟨h1,h2⟩:=F8 hxp;obtain⟨h3,h4⟩:=F8 hyp;intro pins s σ H Dn I h;have pg:=Pv (k:=kt) (pos:=pt) hc (Dm (D9 (pos:=p) nd h1 h2 (.inl hfx)) (Dm (D9 (pos:=q) nd h3 h4 (.inl hfy)) Mq));obtain⟨B0,Al0,ρ0,Fs0,l0,S0,hx0,k0⟩:=h
 have hx0':(match evI C it ρ0 with
  | .ok ds=>E7 (λx ρ=>match x with
    |.tup [u,v]=>exs C b ((ρ.set i (some (u,false))).set j (some (v,false)))
    |_=>.un) (λx ρ=>match x with
    |.tup [u,v]=>xs C b ((ρ.set i (some (u,false))).set j (some (v,false)))
    | _=>none) ds (unown (Ak it) ρ0)
  | _=>none)=some l0:=hx0
 refine U4 (λx ρ=>match x with
    |.tup [u,v]=>exs C b ((ρ.set i (some (u,false))).set j (some (v,false)))
    |_=>.un) (λx ρ=>match x with
    |.tup [u,v]=>xs C b ((ρ.set i (some (u,false))).set j (some (v,false)))
    | _=>none) (λd ρ ρ' h=>?_) hpo hc hx hi pg hb hbx ?_ ?_ pins s σ H Dn I ?_
 ·split at h
  ·rw[Cg h];simp
  ·cases h
 ·intro B Al H σ ρ Fs d x G fl Dn hl S r hal hap hf k
  split at hf
  ·rename_i u v
   obtain⟨ad,vs,rfl,hq,rr⟩:=r;obtain⟨v1,w1,F1,F2,rfl,rfl,r1,rr⟩:=rr;obtain⟨v2,w2,F3,F4,rfl,rfl,r2,rr⟩:=rr;obtain⟨rfl,rfl⟩:=rr;have li:i < σ.length:=by rw[hl];exact(List.getElem?_eq_some_iff.mp h1).1
   have lj:j < σ.length:=by rw[hl];exact(List.getElem?_eq_some_iff.mp h3).1
   refine⟨ad,_,rfl,hq,rfl,v1,_,rfl,v2,_,rfl,rfl,.inl ⟨B,Al,_,_,fl,(S.view li r1 (λa ha=>hal a (List.mem_append_left _ ha)) (λm d' _ h a ha ha'=>hap m d' h a ha (List.mem_append_left _ ha'))).view (by rw[List.length_set];exact lj) r2 (λa ha=>hal a (List.mem_append_right _ (List.mem_append_left _ ha))) (λm d' _ h a ha ha'=>?_),hf,k⟩⟩
   by_cases hm:m=i
   ·subst hm
    rw[List.getElem?_set_self (by rw[<-S.len];exact li)] at h
    cases h
   ·rw[List.getElem?_set_ne (Ne.symm hm)] at h
    simp only[if_neg hm] at ha;exact hap m d' h a ha (List.mem_append_right _ (List.mem_append_left _ ha'))
  ·cases hf
 ·intro B Al H σ ρ Fs d x G l Dn hl S r hal hap hf k
  split at hf
  ·rename_i u v
   obtain⟨ad,vs,rfl,hq,rr⟩:=r;obtain⟨v1,w1,F1,F2,rfl,rfl,r1,rr⟩:=rr;obtain⟨v2,w2,F3,F4,rfl,rfl,r2,rr⟩:=rr;obtain⟨rfl,rfl⟩:=rr;have li:i < σ.length:=by rw[hl];exact(List.getElem?_eq_some_iff.mp h1).1
   have lj:j < σ.length:=by rw[hl];exact(List.getElem?_eq_some_iff.mp h3).1
   refine⟨ad,_,rfl,hq,rfl,v1,_,rfl,v2,_,rfl,rfl,.inr ⟨B,Al,_,_,l,(S.view li r1 (λa ha=>hal a (List.mem_append_left _ ha)) (λm d' _ h a ha ha'=>hap m d' h a ha (List.mem_append_left _ ha'))).view (by rw[List.length_set];exact lj) r2 (λa ha=>hal a (List.mem_append_right _ (List.mem_append_left _ ha))) (λm d' _ h a ha ha'=>?_),hf,k⟩⟩
   by_cases hm:m=i
   ·subst hm
    rw[List.getElem?_set_self (by rw[<-S.len];exact li)] at h
    cases h
   ·rw[List.getElem?_set_ne (Ne.symm hm)] at h
    simp only[if_neg hm] at ha;exact hap m d' h a ha (List.mem_append_right _ (List.mem_append_left _ ha'))
  ·cases hf
 ·cases e1:evI C it ρ0 with
  |ok ds=>rw[e1] at hx0';exact⟨B0,Al0,ρ0,Fs0,l0,ds,S0,e1,hx0',k0⟩
  |xn _ _=>rw[e1] at hx0';cases hx0'
  |un=>rw[e1] at hx0';cases hx0'
theorem Qek{X:Cx}{st:Stmt}{t:TS}(h:PS X.nox st t):PS X st t:=λpins s σ H D I hw=>
 wpAny_mono (h pins s σ H D (I.wish _) hw) (λ_ _ q=>q.unwish) λ_ _ z=>False.elim z
mutual
theorem Qel:∀{a:Sm},tryB a=true->L8 a=false
 |.exp _,_=>rfl
 |.ife _ a b,h=>by
  have h':(Cj a&&Cj b)=true:=h;rw[Bool.and_eq_true] at h'
  show (At a||At b)=false
  rw[Jg h'.1,Jg h'.2];rfl
 |.asg _ _,_=>rfl
 |.app _ _,h=>by cases h
 |.set _ _ _,h=>by cases h
 |.ret _,h=>by cases h
 |.for1 _ _ _,h=>by cases h
 |.for2 _ _ _ _,h=>by cases h
 |.retK _ _ _,h=>by cases h
 |.rse _,h=>by cases h
 |.rsI _ _,h=>by cases h
 |.tryN _ _ _,h=>by cases h
 |.tryB _ _,h=>by cases h
 |.tryH _ _ _ _ _ _,h=>by cases h
 |.bad,h=>by cases h
theorem Jg:∀{a:Sms},Cj a=true->At a=false
 |.nil,_=>rfl
 |.cons a r,h=>by
  have h':(tryB a&&Cj r)=true:=h;rw[Bool.and_eq_true] at h'
  show (L8 a||At r)=false
  rw[Qel h'.1,Jg h'.2];rfl
end
theorem sXE(hs:∀X,Md T n X->Be X (.builtin "sorted") (rB X.K .sorted)){W:Xl->Hp->Prop}:∀(p:Ex) (X:Cx),Md T n X->Ct (CXx X.prog X.w) X (EW X.K X.mg W)->∀e,isE p X.env.scope X.N e=true->PE X e (tEX X.K (run T n) p W)
 |.call f as,X,M,hP,e,h=>Qa6 M hP h λes z=>sA T n hs as X M es z
 |.b1 .len a,X,M,hP,e,h=>by
  obtain⟨_,_,_,_,rfl,h'⟩:=On h;simp only[Bool.and_eq_true,beq_iff_eq] at h';obtain⟨⟨rfl,h2⟩,h3⟩:=h';have hx:=Ac h3;have hd:b1N .len∈Qm:=by decide +kernel
  exact pm (El Wg (Bz h2) (M.blt _ hd) PySem.boot_len (Ay (sXE hs a X M hP _ h3) Bq (A9 hx _ _)) (by decide +kernel) (by decide +kernel) (A9 hx _ _) rfl) λσ H Q h=>h
 |.op o a b,X,M,hP,e,h=>by
  unfold isE at h;split at h
  ·simp only[Bool.and_eq_true,beq_iff_eq] at h
   exact pm (Uu (Qbp h.1.1) (sXE hs a X M hP _ h.1.2) (sB T n hs b X M _ h.2).1) λσ H Q h=>h
  ·simp only[Bool.and_eq_true,beq_iff_eq] at h
   exact pm (R7 (K7 M.hu h.1.1) (sXE hs a X M hP _ h.1.2) (sB T n hs b X M _ h.2).1 (Du (Ac h.2) _)) λσ H Q h=>h
  ·cases h
 |.var _,X,M,hP,e,h=>λ_ _ _ _ _ _ ⟨_,_,_,_,z,_⟩=>by cases z
 |.int _,X,M,hP,e,h=>λ_ _ _ _ _ _ ⟨_,_,_,_,z,_⟩=>by cases z
 |.bl _,X,M,hP,e,h=>λ_ _ _ _ _ _ ⟨_,_,_,_,z,_⟩=>by cases z
 |.non,X,M,hP,e,h=>λ_ _ _ _ _ _ ⟨_,_,_,_,z,_⟩=>by cases z
 |.str _,X,M,hP,e,h=>λ_ _ _ _ _ _ ⟨_,_,_,_,z,_⟩=>by cases z
 |.chn _ _ _ _ _,X,M,hP,e,h=>λ_ _ _ _ _ _ ⟨_,_,_,_,z,_⟩=>by cases z
 |.isn _ _,X,M,hP,e,h=>λ_ _ _ _ _ _ ⟨_,_,_,_,z,_⟩=>by cases z
 |.and _ _,X,M,hP,e,h=>λ_ _ _ _ _ _ ⟨_,_,_,_,z,_⟩=>by cases z
 |.or _ _,X,M,hP,e,h=>λ_ _ _ _ _ _ ⟨_,_,_,_,z,_⟩=>by cases z
 |.not _,X,M,hP,e,h=>λ_ _ _ _ _ _ ⟨_,_,_,_,z,_⟩=>by cases z
 |.ife _ _ _,X,M,hP,e,h=>λ_ _ _ _ _ _ ⟨_,_,_,_,z,_⟩=>by cases z
 |.b1 .tuple _,X,M,hP,e,h=>λ_ _ _ _ _ _ ⟨_,_,_,_,z,_⟩=>by cases z
 |.b1 .list _,X,M,hP,e,h=>λ_ _ _ _ _ _ ⟨_,_,_,_,z,_⟩=>by cases z
 |.b1 .sorted _,X,M,hP,e,h=>λ_ _ _ _ _ _ ⟨_,_,_,_,z,_⟩=>by cases z
 |.b1 .int _,X,M,hP,e,h=>λ_ _ _ _ _ _ ⟨_,_,_,_,z,_⟩=>by cases z
 |.b1 .str _,X,M,hP,e,h=>λ_ _ _ _ _ _ ⟨_,_,_,_,z,_⟩=>by cases z
 |.ins _ _,X,M,hP,e,h=>λ_ _ _ _ _ _ ⟨_,_,_,_,z,_⟩=>by cases z
 |.idx _ _,X,M,hP,e,h=>λ_ _ _ _ _ _ ⟨_,_,_,_,z,_⟩=>by cases z
 |.slc _ _ _,X,M,hP,e,h=>λ_ _ _ _ _ _ ⟨_,_,_,_,z,_⟩=>by cases z
 |.m1 _ _ _,X,M,hP,e,h=>λ_ _ _ _ _ _ ⟨_,_,_,_,z,_⟩=>by cases z
 |.tup _,X,M,hP,e,h=>λ_ _ _ _ _ _ ⟨_,_,_,_,z,_⟩=>by cases z
 |.lst _,X,M,hP,e,h=>λ_ _ _ _ _ _ ⟨_,_,_,_,z,_⟩=>by cases z
 |.comp _ _ _ _,X,M,hP,e,h=>λ_ _ _ _ _ _ ⟨_,_,_,_,z,_⟩=>by cases z
 |.rep _ _,X,M,hP,e,h=>λ_ _ _ _ _ _ ⟨_,_,_,_,z,_⟩=>by cases z
 |.cst _,X,M,hP,e,h=>λ_ _ _ _ _ _ ⟨_,_,_,_,z,_⟩=>by cases z
 |.jn _ _,X,M,hP,e,h=>λ_ _ _ _ _ _ ⟨_,_,_,_,z,_⟩=>by cases z
 |.spl _ _,X,M,hP,e,h=>λ_ _ _ _ _ _ ⟨_,_,_,_,z,_⟩=>by cases z
 |.endw _ _,X,M,hP,e,h=>λ_ _ _ _ _ _ ⟨_,_,_,_,z,_⟩=>by cases z
 |.lset _,X,M,hP,e,h=>λ_ _ _ _ _ _ ⟨_,_,_,_,z,_⟩=>by cases z
 |.maxd _,X,M,hP,e,h=>λ_ _ _ _ _ _ ⟨_,_,_,_,z,_⟩=>by cases z
 |.revS _,X,M,hP,e,h=>λ_ _ _ _ _ _ ⟨_,_,_,_,z,_⟩=>by cases z
theorem Qem{C:Str->List D->R D}{p:Ex}{ρ:Env}{c:Xl}(h:xE C p ρ=some c):Ro p=true:=by
 cases p<;>first|rfl|cases h
theorem Qhg{X:Cx}(hfn:Df X){i:Nat}{n' xF:Str}{CF:Addr}(Z:Hn X i n' xF CF)(M:Md T n X){pins:List (Addr×Obj)}{σ:L2.St}{H:Hp}{s:Shared}(I:Inv X pins σ H s)
  {B:Hp} {Al:Addr->Prop} {ρ:Env} {Fs:Nat->List Addr} (S:SR X.K B Al H σ ρ Fs) {Dn:Ends} {fl:Fl} (k:FQ X.K B Al (λ_=>false) fl Dn) {b:Sms} {body:List Stmt} {l:Xl} {us:List Str} {hs:List Hm} {b₀:Stmt} {hb:List Stmt} (eF:xF = "FairError") (hl:l.1∈us) (hu:∀c∈us,c∈xnT T)
  (hk1:hs.all okH=true) (hk2:hs.all (Hj i)=true) (hk3:Os n' X.env.scope X.N hs (b₀::hb)=true) (hx:exH l hs (List.replicate ρ.length none)=.ok fl)
  (hbd:∀(pn:List (Addr×Obj)) (xe:Value->Shared->Prop),Ct (CXx X.prog X.w) { X with pn:=pn,xe:=xe } (EW X.K X.mg λc H'=>c=l/\A6 B H')->PSs { X with pn:=pn,xe:=xe } body (tXs X.K (run T n) b λc H'=>c=l/\A6 B H'))
  (e:xs (run T n) b ρ=some l) {p0 hp tp:Pos} :
  wpAny (model X.prog X.w) X.A (exec (.Try body [.ExceptHandler (some (.Name xF p0)) (some n') (b₀::hb) hp] [] [] tp) X.env) (SP X pins Dn) X.xe s:=by
 refine Hw I (E:=EW X.K X.mg λc H'=>c=l/\A6 B H') (λσ2 H2 s2 e s' I2 h2=>Yv Z I2 h2 λv dx H1 hE=>?_) hbd ⟨B,Al,ρ,Fs,l,S,e,λH' sm=>⟨rfl,sm⟩⟩
 obtain⟨c',mc,xd,rfl,sm⟩:=hE;obtain⟨CK,CF',c1,c2,c3,c4,c5,c6,c7,c8⟩:=(M.xc _ (hu _ hl)).ex;have hv:v=.ref CK:=Option.some.inj (mc.symm.trans c1);subst eF;have hCF:CF'=CF:=by
  have z:=c2.symm.trans Z.mF;cases z;rfl
 subst hCF;refine⟨CK,hv,c4,λa oe va hc hdx hda=>⟨tH X.K i a c' oe hs,hsS Z hfn.fn hc hda c7 hk3 hk2 (λh hh=>?_),?_⟩⟩
 ·have hok:=List.all_eq_true.mp hk1 h hh
  cases h with
  |ret1 c=>exact Qhd (c:=c'.1) (cs:=[c]) rfl c6 c5 c8 (by simp only[List.all_cons,List.all_nil,Bool.and_true];exact hok)
 ·have li:i < σ2.length:=by
   rw[I2.len];exact(List.getElem?_eq_some_iff.mp Z.at').1
  have ls:σ2.length=ρ.length:=by rw[I2.len,<-I.len];exact S.len
  have no:∀p:D×Bool,(List.replicate ρ.length (none:Option (D×Bool)))[i]?≠some (some p):=λp z=>by
   rw[List.getElem?_replicate] at z;split at z<;>cases z
  refine⟨B,Al,_,_,fl,SR.lost (by rw[List.length_set];exact ls) sm S.fr,⟨by simp[li],by rw[hdx];exact xd⟩,hx,?_⟩
  cases fl with
  |nx ρ'=>exact λσ' H' Fs' S'=>k _ _ _ (S'.unk (Qhc hk2 no hx))
  |rt d=>exact k
theorem Qhh{X:Cx}(hfn:Df X){xF:Str}(M:Md T n X){pins:List (Addr×Obj)}{σ:L2.St}{H:Hp}{s:Shared}(I:Inv X pins σ H s)
  {B:Hp} {Al:Addr->Prop} {ρ:Env} {Fs:Nat->List Addr} (S:SR X.K B Al H σ ρ Fs) {Dn:Ends} (k:FQ X.K B Al (λ_=>false) (.rt (.bl true)) Dn) {b:Sms} {body:List Stmt} {l:Xl} {ve:Expr} {rp p0 hp tp:Pos} (hl:l.1=xF) (hx:xF∈xnT T) (h2:Ax X.env.scope xF=true) (h3:(xF==("__debug__" : Str))=false)
  (hv:isE (.bl true) X.env.scope X.N ve=true)
  (hbd:∀(pn:List (Addr×Obj)) (xe:Value->Shared->Prop),Ct (CXx X.prog X.w) { X with pn:=pn,xe:=xe } (EW X.K X.mg λc H'=>c=l/\A6 B H')->PSs { X with pn:=pn,xe:=xe } body (tXs X.K (run T n) b λc H'=>c=l/\A6 B H'))
  (e:xs (run T n) b ρ=some l) :
  wpAny (model X.prog X.w) X.A (exec (.Try body [.ExceptHandler (some (.Name xF p0)) none [.Return (some ve) rp] hp] [] [] tp) X.env) (SP X pins Dn) X.xe s:=by
 have xc:=M.xc _ hx;obtain⟨CK,CF',c1,_⟩:=xc.ex;refine Hw I (E:=EW X.K X.mg λc H'=>c=l/\A6 B H') (λσ2 H2 s2 e s' I2 h2'=>Yx hfn.stk hfn.frm (Bz h2) h3 c1 I2 h2' λv dx H1 hE=>?_) hbd ⟨B,Al,ρ,Fs,l,S,e,λH' sm=>⟨rfl,sm⟩⟩
 obtain⟨c',mc,xd,rfl,sm⟩:=hE;rw[hl] at mc;have hv':v=.ref CK:=Option.some.inj (mc.symm.trans c1);have ls:σ2.length=ρ.length:=by rw[I2.len,<-I.len];exact S.len
 refine⟨CK,hv',xc.xx _ c1,tE X.K (λ_ _=>R.un) (.bl true),λa oe=>Qgp (X:=hcx X pins a oe (λ_ _=>False)) hv,?_⟩
 exact⟨_,_,.bl true,(SR.lost ls sm S.fr).toVR,rfl,λv H' F s1 r1 _ _=>k v H' [] (sm.trans s1) (by obtain⟨rfl,rfl⟩:=r1;exact⟨rfl,rfl⟩) (λ_ z=>nomatch z) λ_ z=>by cases z⟩
mutual
theorem sS(hs:∀X,Md T n X->Be X (.builtin "sorted") (rB X.K .sorted)):∀(a:Sm) (X:Cx),Md T n X->Df X->PassesOwn (model X.prog X.w) X.A X.env X.xe->(L8 a=true->KS T n X)->okD T a=true->∀st,isS a X.env.scope X.N st=true->PS X st (tS X.K (run T n) a)
 |.asg i e,X,M,hfn,hpo,hk,hd,st,h=>by
  unfold isS at h;split at h
  ·rename_i x px v pos
   rw[Bool.and_eq_true] at h;obtain⟨h1,h2⟩:=h;by_cases hc:Hd v=true
   ·exact Wv M.nd (hfn.fn x) h1 (Kb hc _ _ _) (sB T n hs e X M v h2).1
   ·have he:∃two elt it ifs,e=.comp two elt it ifs:=by
     cases e with
     |comp two elt it ifs=>exact⟨two,elt,it,ifs,rfl⟩
     |_=>exact absurd (D1 h2 rfl) hc
    obtain⟨two,elt,it,ifs,rfl⟩:=he;obtain⟨elt',tg,iter,ifs',isc,cpos,xs,rfl,_⟩:=Jf h2;have hsw:∃b,swapsWith (.ListComp elt' [⟨tg,iter,ifs',0⟩] isc cpos) (some (.Name x px)) pos.line X.env=pure b:=⟨_,rfl⟩;obtain⟨b,hsw⟩:=hsw
    cases b with
    |false=>exact Wv M.nd (hfn.fn x) h1 hsw (sB T n hs _ X M _ h2).1
    |true=>exact Qal M (hfn.fn x) h1 h2 hsw (λtg e z=>sI T n hs it X M tg e z) (λX' M' es z=>sTs T n hs ifs X' M' es z) (λX' M' e z=>(sB T n hs elt X' M' e z).1)
  ·cases h
 |.app i e,X,M,hfn,hpo,hk,hd,st,h=>by
  unfold isS at h
  cases hq:Zp st with
  |some q=>
   rw[hq] at h;simp only[Bool.and_eq_true,beq_iff_eq] at h;obtain⟨⟨⟨h1,h2⟩,h3⟩,h4⟩:=h;rw[Zq hq,h2];exact Qeh h3 (by rw[h1];exact beq_self_eq_true _) (Ac h4) (sB T n hs e X M _ h4).1
  |none=>rw[hq] at h;cases h
 |.set i k v,X,M,hfn,hpo,hk,hd,st,h=>by
  unfold isS at h
  cases hq:Zr st with
  |some q=>
   rw[hq] at h;simp only[Bool.and_eq_true] at h;obtain⟨⟨⟨h1,h2⟩,h3⟩,h4⟩:=h;rw[Zs hq];exact Qei h1 (D1 h3 h4) (Ac h2) (sB T n hs k X M _ h2).1 (sB T n hs v X M _ h3).1
  |none=>rw[hq] at h;cases h
 |.exp e,X,M,hfn,hpo,hk,hd,st,h=>by
  unfold isS at h;split at h
  ·rw[Bool.and_eq_true] at h
   exact Qee (D1 h.1 h.2) (sB T n hs e X M _ h.1).1
  ·cases h
 |.ret e,X,M,hfn,hpo,hk,hd,st,h=>by
  unfold isS at h;split at h
  ·exact Qed (sB T n hs e X M _ h).1
  ·cases h
 |.ife c a b,X,M,hfn,hpo,hk,hd,st,h=>by
  unfold isS at h;split at h
  ·simp only[Bool.and_eq_true] at h
   obtain⟨⟨⟨h1,h2⟩,h3⟩,h4⟩:=h;exact Qhb ((sB T n hs c X M _ h2).2 h1).1 (sSs hs a X M hfn hpo (λz=>hk (by show (At a||At b)=true;rw[z];rfl)) (Bool.and_eq_true_iff.mp hd).1 _ h3) (sSs hs b X M hfn hpo (λz=>hk (by show (At a||At b)=true;rw[z,Bool.or_true])) (Bool.and_eq_true_iff.mp hd).2 _ h4)
  ·cases h
 |.for1 i it b,X,M,hfn,hpo,hk,hd,st,h=>by
  unfold isS at h;split at h
  ·simp only[Bool.and_eq_true] at h
   obtain⟨⟨h1,h2⟩,h3⟩:=h;exact Qaj hpo M.calm M.nd (hfn.fn _) h1 (Fp h2) (sI T n hs it X M _ _ h2) (sSs hs b X M hfn hpo (λz=>hk z) hd _ h3)
  ·cases h
 |.for2 i j it b,X,M,hfn,hpo,hk,hd,st,h=>by
  unfold isS at h
  cases hq:Oi st with
  |some q=>
   rw[hq] at h;simp only[Bool.and_eq_true] at h;obtain⟨⟨⟨h1,h2⟩,h3⟩,h4⟩:=h;rw[Oj hq];exact Qak hpo M.calm M.nd (hfn.fn _) (hfn.fn _) h1 h2 (Fp h3) (sI T n hs it X M _ _ h3) (sSs hs b X M hfn hpo (λz=>hk z) hd _ h4)
  |none=>rw[hq] at h;cases h
 |.retK mx e b,X,M,hfn,hpo,hk,hd,st,h=>hk rfl mx e b st h
 |.rse _,X,M,hfn,hpo,hk,hd,st,h=>by
  intro pins s σ H Dn I q;obtain⟨B,Al,ρ,Fs,fl,S,hx,k⟩:=q;simp only[exm] at hx;cases hx
 |.rsI _ _,X,M,hfn,hpo,hk,hd,st,h=>by
  intro pins s σ H Dn I q;obtain⟨B,Al,ρ,Fs,fl,S,hx,k⟩:=q;simp only[exm] at hx;cases hx
 |.tryN b kk cc,X,M,hfn,hpo,hk,hd,st,h=>by
  unfold isS at h
  cases hq:Oo st with
  |none=>rw[hq] at h;cases h
  |some q=>
   rw[hq] at h;simp only[Bool.and_eq_true,beq_iff_eq] at h;have hd':(kk==("BadFair" : Str)&&(xnT T).contains kk&&(xnT T).contains cc&&!(cc==("BadFair" : Str))&&E8 T b&&Cj b&&!At b)=true:=hd;simp only[Bool.and_eq_true,Bool.not_eq_true'] at hd';rw[Oq hq];intro pins s σ H Dn I qq;obtain⟨B,Al,ρ,Fs,fl,S,hx,k⟩:=qq;simp only[exm] at hx;exact Q9 (sSs hs b X.nox { M with } { hfn with } PassesOwn.never (λz=>by rw[hd'.2] at z;cases z) hd'.1.1.2 _ h.2) pins s σ H Dn I ⟨B,Al,ρ,Fs,fl,S,hx,k.of λ_ z=>by cases z⟩
 |.tryB b cc,X,M,hfn,hpo,hk,hd,st,h=>by
  unfold isS at h
  cases hq:Rs st with
  |none=>rw[hq] at h;cases h
  |some q=>
   rw[hq] at h;simp only[Bool.and_eq_true,beq_iff_eq] at h;obtain⟨⟨⟨⟨h1,h2⟩,h3⟩,h4⟩,h5⟩:=h;have hd':(!(cc==("BadFair" : Str))&&(xnT T).contains cc&&E8 T b&&Cj b&&!At b)=true:=hd;simp only[Bool.and_eq_true,Bool.not_eq_true'] at hd';obtain⟨⟨⟨⟨d1,d2⟩,d3⟩,d4⟩,d5⟩:=hd';rw[W5 hq,<-h1];intro pins s σ H Dn I qq;obtain⟨B,Al,ρ,Fs,fl,S,hx,k⟩:=qq;simp only[exm] at hx;have k':FQ X.K B Al (λ_=>false) fl Dn:=k.of λ_ z=>by cases z
   have go:∀l,xs (run T n) b ρ=some l->(if l.1=cc then R.ok (Fl.rt (.bl true)) else .un)=.ok fl->wpAny (model X.prog X.w) X.A (exec (.Try q.b [.ExceptHandler (some (.Name cc q.p0)) none [.Return (some q.v) q.rp] q.hp] [] [] q.tp) X.env) (SP X pins Dn) X.xe s:=λl e2 el=>by
    split at el
    ·rename_i hl
     cases el;exact Qhh T n hfn M I S k' hl (by simpa using d2) h2 h3 h4 (λpn xe hP=>xSs hs b { X with pn:=pn,xe:=xe } { M with } { hfn with } (λz=>by rw[d5] at z;cases z) d3 _ hP (.inl d4) _ h5) e2
    ·cases el
   cases e1:exs (run T n) b ρ with
   |ok fl'=>
    rw[e1] at hx;cases hx;exact Q9 (sSs hs b X.nox { M with } { hfn with } PassesOwn.never (λz=>by rw[d5] at z;cases z) d3 _ h5) pins s σ H Dn I ⟨B,Al,ρ,Fs,fl,S,e1,k.of λ_ z=>by cases z⟩
   |xn _ _=>
    rw[e1] at hx;simp only at hx
    cases e2:xs (run T n) b ρ with
    |none=>rw[e2] at hx;cases hx
    |some l=>
     rw[e2] at hx;exact go l e2 hx
   |un=>
    rw[e1] at hx;simp only at hx
    cases e2:xs (run T n) b ρ with
    |none=>rw[e2] at hx;cases hx
    |some l=>
     rw[e2] at hx;exact go l e2 hx
 |.tryH b i n' xF us hms,X,M,hfn,hpo,hk,hd,st,h=>by
  unfold isS at h
  cases hq:Rt st with
  |none=>rw[hq] at h;cases h
  |some q=>
   rw[hq] at h;simp only[Bool.and_eq_true,beq_iff_eq] at h;obtain⟨⟨⟨⟨⟨⟨⟨⟨⟨⟨⟨⟨h1,h2⟩,h3⟩,h4⟩,h5⟩,h6⟩,h7⟩,h8⟩,h9⟩,h10⟩,h11⟩,h12⟩,h13⟩:=h;have hd':(xF==("FairError" : Str)&&us.all (λc=>(xnT T).contains c)&&E8 T b&&Cj b&&hms.all okH)=true:=hd
   simp only[Bool.and_eq_true,beq_iff_eq] at hd';obtain⟨⟨⟨⟨d1,d2⟩,d3⟩,d4⟩,d5⟩:=hd';have hu:∀c∈us,c∈xnT T:=λc hc=>by simpa using List.all_eq_true.mp d2 c hc
   have nK:=Jg d4;have hne:∃b₀ hb,q.hb=b₀::hb:=by
    cases e:q.hb with
    |cons b₀ hb=>exact⟨b₀,hb,rfl⟩
    |nil=>
     rw[e] at h12
     cases hms with
     |nil=>cases h10
     |cons h hs=>simp[Os] at h12
   obtain⟨b₀,hb,ehb⟩:=hne;rw[ehb] at h12;rw[W6 hq,ehb,<-h1,<-h6];intro pins s σ H Dn I qq;obtain⟨B,Al,ρ,Fs,fl,S,hx,k⟩:=qq;simp only[exm] at hx;have k':FQ X.K B Al (λ_=>false) fl Dn:=k.of λ_ z=>by cases z
   have go:∀l,xs (run T n) b ρ=some l->us.contains l.1=true->exH l hms (List.replicate ρ.length none)=.ok fl->wpAny (model X.prog X.w) X.A (exec (.Try q.b [.ExceptHandler (some (.Name xF q.p0)) (some n') (b₀::hb) q.hp] [] [] q.tp) X.env) (SP X pins Dn) X.xe s:=λl e2 el ex=>by
    have hl:l.1∈us:=by simpa using el
    obtain⟨CK,CF,c1,c2,_⟩:=(M.xc _ (hu _ hl)).ex;have Z:Hn X i n' xF CF:=⟨M.nd,h2,h3,h4,h5,Bz h7,h8,by rw[d1];exact c2,Bz h9,M.blt _ (by decide +kernel),hfn.stk,hfn.frm⟩
    exact Qhg T n hfn Z M I S k' d1 hl hu d5 h11 h12 ex (λpn xe hP=>xSs hs b { X with pn:=pn,xe:=xe } { M with } { hfn with } (λz=>by rw[nK] at z;cases z) d3 _ hP (.inl d4) _ h13) e2
   cases e1:exs (run T n) b ρ with
   |ok fl'=>
    rw[e1] at hx;cases hx;exact Q9 (sSs hs b X.nox { M with } { hfn with } PassesOwn.never (λz=>by rw[nK] at z;cases z) d3 _ h13) pins s σ H Dn I ⟨B,Al,ρ,Fs,fl,S,e1,k.of λ_ z=>by cases z⟩
   |xn _ _=>
    rw[e1] at hx;simp only at hx
    cases e2:xs (run T n) b ρ with
    |none=>rw[e2] at hx;cases hx
    |some l=>
     rw[e2] at hx;simp only at hx;split at hx
     ·rename_i el
      exact go l e2 el hx
     ·cases hx
   |un=>
    rw[e1] at hx;simp only at hx
    cases e2:xs (run T n) b ρ with
    |none=>rw[e2] at hx;cases hx
    |some l=>
     rw[e2] at hx;simp only at hx;split at hx
     ·rename_i el
      exact go l e2 el hx
     ·cases hx
 |.bad,X,M,hfn,hpo,hk,hd,st,h=>by
  intro pins s σ H Dn I q;obtain⟨B,Al,ρ,Fs,fl,S,hx,k⟩:=q;simp only[exm] at hx;cases hx
theorem sSs(hs:∀X,Md T n X->Be X (.builtin "sorted") (rB X.K .sorted)):∀(a:Sms) (X:Cx),Md T n X->Df X->PassesOwn (model X.prog X.w) X.A X.env X.xe->(At a=true->KS T n X)->E8 T a=true->∀sts,G3 a X.env.scope X.N sts=true->PSs X sts (tSs X.K (run T n) a)
 |.nil,X,M,hfn,hpo,hk,hd,sts,h=>by
  unfold G3 at h;split at h
  ·exact Qec
  ·cases h
 |.cons a r,X,M,hfn,hpo,hk,hd,sts,h=>by
  unfold G3 at h;split at h
  ·rw[Bool.and_eq_true] at h
   exact Qag (sS hs a X M hfn hpo (λz=>hk (by show (L8 a||At r)=true;rw[z];rfl)) (Bool.and_eq_true_iff.mp hd).1 _ h.1) (sSs hs r X M hfn hpo (λz=>hk (by show (L8 a||At r)=true;rw[z,Bool.or_true])) (Bool.and_eq_true_iff.mp hd).2 _ h.2)
  ·cases h
theorem xS(hs:∀X,Md T n X->Be X (.builtin "sorted") (rB X.K .sorted)):∀(a:Sm) (X:Cx),Md T n X->Df X->(L8 a=true->KS T n X.nox)->okD T a=true->∀W,Ct (CXx X.prog X.w) X (EW X.K X.mg W)->(tryB a=true\/RaiseOk X W)->∀st,isS a X.env.scope X.N st=true->PS X st (tX X.K (run T n) a W)
 |.rse c,X,M,hfn,hk,hd,W,hP,hR,st,h=>by
  unfold isS at h
  cases hq:W4 st with
  |none=>rw[hq] at h;cases h
  |some q=>
   rw[hq] at h;simp only[Bool.and_eq_true,beq_iff_eq] at h;obtain⟨⟨h1,h2⟩,h3⟩:=h;have hd':((xnT T).contains c&&!(c==("BadFair" : Str)))=true:=hd;rw[Bool.and_eq_true,Bool.not_eq_true',beq_eq_false_iff_ne] at hd';obtain⟨C,CF,c1,c2,c3,_⟩:=(M.xc c (by simpa using hd'.1)).ex
   have hR':RaiseOk X W:=hR.elim (λz=>by cases z) id
   rw[Rp hq];rw[<-h1] at h2 h3 |-;exact sm' (Vf (W:=λH=>W (c,none) H) (c3.1 hd'.2) (Bz h2) h3 M.calm λpins σ H s h' e vs I mk hw=>by
    obtain⟨t,he,_,_⟩:=mk.there;exact hR'.mr pins σ H s h' e C c _ _ c1 I mk.keeps mk.new he rfl rfl rfl rfl hw) λD σ H h=>by
    obtain⟨B,Al,ρ,Fs,c',S,hx,k⟩:=h;cases hx;exact k H S.same
 |.rsI c e,X,M,hfn,hk,hd,W,hP,hR,st,h=>by
  unfold isS at h
  cases hq:Qdu st with
  |none=>rw[hq] at h;cases h
  |some q=>
   rw[hq] at h;simp only[Bool.and_eq_true,beq_iff_eq] at h;obtain⟨⟨⟨h1,h2⟩,h3⟩,h4⟩:=h;have hd':(c==("BadFair" : Str)&&(xnT T).contains c)=true:=hd;rw[Bool.and_eq_true,beq_iff_eq] at hd';obtain⟨C,CF,c1,c2,c3,_⟩:=(M.xc c (by simpa using hd'.2)).ex
   have hR':RaiseOk X W:=hR.elim (λz=>by cases z) id
   rw[Zz hq];rw[<-h1] at h2 h3 |-;exact sm' (Tf (W:=λv H=>∃d,Rep X.K H d v []/\∀H',A6 H H'->W (c,some d) H') (c3.2 hd'.1).1 (Bz h2) h3 M.calm (M.room.mono (by omega)) (sB T n hs e X M _ h4).1 (A9 (Ac h4) _ _) λpins σ H s s' e t dx v u I os bare un ok ne he ru ns nx ⟨d,rp,hw⟩=>hR'.mkI pins σ H s s' e t dx C c v u d c1 I os bare un ok ne he ru ns nx rp hw) λD σ H h=>by
    obtain⟨B,Al,ρ,Fs,l,S,hx,k⟩:=h;have hx':(match ev (run T n) e ρ with|.ok d=>(if noL d then some (c,some d) else none)|_=>none)=some l:=hx
    cases e1:ev (run T n) e ρ with
    |ok d=>
     rw[e1] at hx';simp only at hx';split at hx'
     ·rename_i hn
      cases hx';refine⟨ρ,Fs,d,S.toVR,e1,λv H' F s1 r1 c1 _=>⟨v,rfl,d,?_,λH2 s2=>k H2 (S.same.trans (s1.trans s2))⟩⟩
      have:=r1.noL hn;subst this;exact r1
     ·cases hx'
    |xn _ _=>rw[e1] at hx';cases hx'
    |un=>rw[e1] at hx';cases hx'
 |.tryN b kk cc,X,M,hfn,hk,hd,W,hP,hR,st,h=>by
  unfold isS at h
  cases hq:Oo st with
  |none=>rw[hq] at h;cases h
  |some q=>
   rw[hq] at h;simp only[Bool.and_eq_true,beq_iff_eq] at h;obtain⟨⟨⟨⟨⟨⟨h1,h2⟩,h3⟩,h4⟩,h5⟩,h6⟩,h7⟩:=h;have hd':(kk==("BadFair" : Str)&&(xnT T).contains kk&&(xnT T).contains cc&&!(cc==("BadFair" : Str))&&E8 T b&&Cj b&&!At b)=true:=hd;simp only[Bool.and_eq_true,Bool.not_eq_true',beq_iff_eq,beq_eq_false_iff_ne] at hd';obtain⟨⟨⟨⟨⟨⟨d1,d2⟩,d3⟩,d4⟩,d5⟩,d6⟩,d7⟩:=hd';have hR':RaiseOk X W:=hR.elim (λz=>by cases z) id
   obtain⟨CK,CF,c1,c2,c3,_⟩:=(M.xc kk (by simpa using d2)).ex
   obtain⟨CC,_,e1,_,e3,_⟩:=(M.xc cc (by simpa using d3)).ex
   rw[Oq hq,<-h1,<-h4];intro pins s σ H D I qq;obtain⟨B,Al,ρ,Fs,l,S,hx,k⟩:=qq;have hx':(match xs (run T n) b ρ with|some (x,some _)=>(if x=kk then some (cc,none) else none)|_=>none)=some l:=hx
   split at hx'
   ·rename_i x dd e2
    split at hx'
    ·rename_i ek
     cases hx';subst ek;refine Hw I (E:=EW X.K X.mg λc H'=>c=(x,some dd)/\A6 B H') (t:=tXs X.K (run T n) b λc H'=>c=(x,some dd)/\A6 B H') (λσ2 H2 s2 e s' I2 h2'=>Yw hfn.stk hfn.frm (Bz h2) h3 c1 I2 h2' hR'.po λv dx H1 hE=>?_) (λpn xe hP=>xSs hs b { X with pn:=pn,xe:=xe } { M with } { hfn with } (λz=>by rw[d7] at z;cases z) d5 _ hP (.inl d6) _ h7) ⟨B,Al,ρ,Fs,_,S,e2,λH' sm=>⟨rfl,sm⟩⟩
     obtain⟨c',mc,xd,rfl,sm⟩:=hE;have hv:v=.ref CK:=Option.some.inj (mc.symm.trans c1);obtain⟨y,u,z1,z2,z3⟩:=xd;refine⟨CK,hv,by rw[z1];simp,(c3.2 d1).2,λa oe va s4 hda hv2 I4=>?_⟩
     exact Qa (e3.1 d4) (Bz h5) h6 I4 hda hv2 λs5 h' e t I5 kp nw he=>hR'.mr pins σ2 H1 s5 h' e CC cc _ _ e1 (I5.unh I.ok) kp nw he rfl rfl rfl rfl (k H1 sm)
    ·cases hx'
   ·cases hx'
 |.asg i e,X,M,hfn,hk,hd,W,hP,hR,st,h=>by
  unfold isS at h;split at h
  ·rename_i x px v pos
   rw[Bool.and_eq_true] at h;obtain⟨p1,p2⟩:=F8 h.1;intro pins s σ H D I q;obtain⟨B,Al,ρ,Fs,c,S,hx,k⟩:=q;exact Uq M.nd p1 p2 (sXE T n hs e X M hP _ h.2) (Kb (D1 h.2 (Qem hx)) _ _ _) (.inl (hfn.fn _)) pins s σ H D I (show tEX X.K (run T n) e W σ H (λ_ _=>True) from ⟨ρ,Fs,c,S.toVR,hx,λH' s=>k H' (S.same.trans s)⟩)
  ·cases h
 |.exp e,X,M,hfn,hk,hd,W,hP,hR,st,h=>by
  unfold isS at h;split at h
  ·rw[Bool.and_eq_true] at h
   exact sm' (Mo (sXE T n hs e X M hP _ h.1) (Kb (D1 h.1 h.2) _ _ _)) λD σ H h=>by
    obtain⟨B,Al,ρ,Fs,c,S,hx,k⟩:=h;exact⟨ρ,Fs,c,S.toVR,hx,λH' s=>k H' (S.same.trans s)⟩
  ·cases h
 |.ret e,X,M,hfn,hk,hd,W,hP,hR,st,h=>by
  unfold isS at h;split at h
  ·exact sm' (Mp (sXE T n hs e X M hP _ h)) λD σ H h=>by
    obtain⟨B,Al,ρ,Fs,c,S,hx,k⟩:=h;exact⟨ρ,Fs,c,S.toVR,hx,λH' s=>k H' (S.same.trans s)⟩
  ·cases h
 |.ife c a b,X,M,hfn,hk,hd,W,hP,hR,st,h=>by
  unfold isS at h;split at h
  ·simp only[Bool.and_eq_true] at h
   obtain⟨⟨⟨h1,h2⟩,h3⟩,h4⟩:=h;have hRa:Cj a=true\/RaiseOk X W:=hR.imp (λz=>(Bool.and_eq_true_iff.mp z).1) id
   have hRb:Cj b=true\/RaiseOk X W:=hR.imp (λz=>(Bool.and_eq_true_iff.mp z).2) id
   exact sm' (Qbg ((sB T n hs c X M _ h2).2 h1).1 (xSs hs a X M hfn (λz=>hk (by show (At a||At b)=true;rw[z];rfl)) (Bool.and_eq_true_iff.mp hd).1 W hP hRa _ h3) (xSs hs b X M hfn (λz=>hk (by show (At a||At b)=true;rw[z,Bool.or_true])) (Bool.and_eq_true_iff.mp hd).2 W hP hRb _ h4)) λD σ H h=>by
    obtain⟨B,Al,ρ,Fs,cc,S,hx,k⟩:=h;have hx':(match tst (run T n) c ρ with|.ok k=>(if k then xs (run T n) a ρ else xs (run T n) b ρ)|_=>none)=some cc:=hx
    cases e1:tst (run T n) c ρ with
    |ok kk=>
     rw[e1] at hx';simp only at hx';refine⟨ρ,Fs,kk,S.toVR,e1,λH1 s1=>?_⟩
     cases kk with
     |true=>rw[if_pos rfl] at hx' |-;exact⟨B,Al,ρ,Fs,cc,S.more s1,hx',k⟩
     |false=>rw[if_neg Bool.false_ne_true] at hx' |-;exact⟨B,Al,ρ,Fs,cc,S.more s1,hx',k⟩
    |xn _ _=>rw[e1] at hx';cases hx'
    |un=>rw[e1] at hx';cases hx'
  ·cases h
 |.app _ _,X,M,hfn,hk,hd,W,hP,hR,st,h=>λ_ _ _ _ _ _ ⟨_,_,_,_,_,_,z,_⟩=>by cases z
 |.set _ _ _,X,M,hfn,hk,hd,W,hP,hR,st,h=>λ_ _ _ _ _ _ ⟨_,_,_,_,_,_,z,_⟩=>by cases z
 |.for1 _ _ _,X,M,hfn,hk,hd,W,hP,hR,st,h=>λ_ _ _ _ _ _ ⟨_,_,_,_,_,_,z,_⟩=>by cases z
 |.for2 i j it b,X,M,hfn,hk,hd,W,hP,hR,st,h=>by
  unfold isS at h
  cases hq:Oi st with
  |some q=>
   rw[hq] at h;simp only[Bool.and_eq_true] at h;obtain⟨⟨⟨h1,h2⟩,h3⟩,h4⟩:=h;rw[Oj hq];have hR':RaiseOk X W:=hR.elim (λz=>by cases z) id
   exact Wy hR'.pw M.calm M.nd (hfn.fn _) (hfn.fn _) h1 h2 (Fp h3) (sI T n hs it X M _ _ h3) (sSs hs b X.nox { M with } { hfn with } PassesOwn.never (λz=>hk z) hd _ h4).nox (xSs hs b X M hfn (λz=>hk z) hd W hP (.inr hR') _ h4)
  |none=>rw[hq] at h;cases h
 |.retK _ _ _,X,M,hfn,hk,hd,W,hP,hR,st,h=>λ_ _ _ _ _ _ ⟨_,_,_,_,_,_,z,_⟩=>by cases z
 |.tryH _ _ _ _ _ _,X,M,hfn,hk,hd,W,hP,hR,st,h=>λ_ _ _ _ _ _ ⟨_,_,_,_,_,_,z,_⟩=>by cases z
 |.tryB _ _,X,M,hfn,hk,hd,W,hP,hR,st,h=>λ_ _ _ _ _ _ ⟨_,_,_,_,_,_,z,_⟩=>by cases z
 |.bad,X,M,hfn,hk,hd,W,hP,hR,st,h=>λ_ _ _ _ _ _ ⟨_,_,_,_,_,_,z,_⟩=>by cases z
theorem xSs(hs:∀X,Md T n X->Be X (.builtin "sorted") (rB X.K .sorted)):∀(a:Sms) (X:Cx),Md T n X->Df X->(At a=true->KS T n X.nox)->E8 T a=true->∀W,Ct (CXx X.prog X.w) X (EW X.K X.mg W)->(Cj a=true\/RaiseOk X W)->∀sts,G3 a X.env.scope X.N sts=true->PSs X sts (tXs X.K (run T n) a W)
 |.nil,X,M,hfn,hk,hd,W,hP,hR,sts,h=>λ_ _ _ _ _ _ ⟨_,_,_,_,_,_,z,_⟩=>by cases z
 |.cons a r,X,M,hfn,hk,hd,W,hP,hR,sts,h=>by
  unfold G3 at h;split at h
  ·rw[Bool.and_eq_true] at h
   have ka:L8 a=true->KS T n X.nox:=λz=>hk (by show (L8 a||At r)=true;rw[z];rfl)
   have kr:At r=true->KS T n X.nox:=λz=>hk (by show (L8 a||At r)=true;rw[z,Bool.or_true])
   have da:=(Bool.and_eq_true_iff.mp hd).1;have dr:=(Bool.and_eq_true_iff.mp hd).2;have hRa:tryB a=true\/RaiseOk X W:=hR.imp (λz=>(Bool.and_eq_true_iff.mp z).1) id
   have hRr:Cj r=true\/RaiseOk X W:=hR.imp (λz=>(Bool.and_eq_true_iff.mp z).2) id
   have xa:=xS hs a X M hfn ka da W hP hRa _ h.1;have oa:=Qek (sS hs a X.nox { M with } { hfn with } PassesOwn.never ka da _ h.1)
   have xr:=xSs hs r X M hfn kr dr W hP hRr _ h.2;intro pins s σ H D I q;obtain⟨B,Al,ρ,Fs,c,S,hx,k⟩:=q;have hx':(match xm (run T n) a ρ with|some c=>some c|none=>(match exm (run T n) a ρ with|.ok (.nx ρ')=>xs (run T n) r ρ'|_=>none))=some c:=hx
   cases e1:xm (run T n) a ρ with
   |some c'=>
    rw[e1] at hx';cases hx';exact Go xa (Lc (X:=X)) pins s σ H D I ⟨B,Al,ρ,Fs,c,S,e1,k⟩
   |none=>
    rw[e1] at hx';simp only at hx'
    cases e2:exm (run T n) a ρ with
    |ok fl=>
     rw[e2] at hx'
     cases fl with
     |nx ρ'=>exact Go oa xr pins s σ H D I ⟨B,Al,ρ,Fs,.nx ρ',S,e2,λσ' H' Fs' S'=>⟨B,Al,ρ',Fs',c,S',hx',k⟩⟩
     |rt d=>cases hx'
    |xn _ _=>rw[e2] at hx';cases hx'
    |un=>rw[e2] at hx';cases hx'
  ·cases h
end
end
theorem Kd{K:Frag}{H:Hp}:∀{ds:List D} {vs:List V} {F:List Addr},A5 K H ds vs F->∃Fs:Nat->List Addr,∀i d,ds[i]?=some d->∃v,vs[i]?=some v/\Rep K H d v (Fs i)/\∀a∈Fs i,a∈F
 |[],vs,F,h=>⟨λ_=>[],λi d e=>by simp at e⟩
 |d::ds,vs,F,h=>by
  obtain⟨v,r,F1,F2,rfl,rfl,h1,h2⟩:=h;obtain⟨Fs,hF⟩:=Kd h2;refine⟨λi=>match i with|0=>F1|i+1=>Fs i,λi d' e=>?_⟩
  cases i with
  |zero=>simp at e;subst e;exact⟨v,rfl,h1,λa ha=>List.mem_append_left _ ha⟩
  |succ i=>
   obtain⟨w,q1,q2,q3⟩:=hF i d' (by simpa using e)
   exact⟨w,by simpa using q1,q2,λa ha=>List.mem_append_right _ (q3 a ha)⟩
def Qhi(P:Program)(w:World)(K:Frag)(mg:Str->Option Value)(base:Heap)(T:Tab)(n:Nat):Prop:=
 ∀f fn,T.lookup f=some fn->∃a fd ps,mg f=some (.ref a)/\PySem.W.keepIn K (.ref a)=true/\Js K fd ps []/\FnOk P w K mg base (CXx P w) (2*n+4) a fd ps (spF mg (Tb T K mg) (Cv fn.body) K (run T n) f)
def Qhj(K:Frag)(mg:Str->Option Value)(base:Heap)(fd:FuncData):Prop:=∃c P,fd.code=.ref c/\PySem.W.codeHdIn K c P=true/\mainGlobals≠P/\base.BuiltinsAt mg P
section
variable{P:Program}{w:World}{K:Frag}{mg:Str->Option Value}{base:Heap}{T:Tab}
theorem S7{n:Nat}{f:Str}{fn:Fn}{st:Stmt}{a:Addr}{fd:FuncData}{N ps:List Str}(hs:∀X,Md T n X->Be X (.builtin "sorted") (rB X.K .sorted))(hb:∀x∈Qm,mg x=none)(hxc:∀c∈xnT T,XCok K mg base c)(hcs:∀p∈K0,CstOk K mg p.1 p.2)(kept:Qhi P w K mg base T n)(hm:mg f=some (.ref a))(hK:At fn.body=true->(∀X,Md T n X->Qhf n X->KS T n X)/\Qhj K mg base fd)(hD:E8 T fn.body=true)(e:T.lookup f=some fn)
  (F:Fun K f f st a fd) (S:FnScope N ps (Ba st)) (h1:ps.length=fn.ps) (h2:N.length=fn.n) (h3:G3 fn.body (Ba st) N (Da st)=true):FnOk P w K mg base (CXx P w) (2*(n+1)+4) a fd ps (spF mg (Tb T K mg) (Cv fn.body) K (run T (n+1)) f):=by
 have runs:∀{ds d},run T (n+1) f ds=.ok d->ds.length=fn.ps/\∃fl,exs (run T n) fn.body (A2 fn ds)=.ok fl/\d=(match fl with|.nx _=>.non|.rt d=>d):=λ{ds d} h=>by
  unfold run at h;rw[e] at h;simp only at h;split at h
  ·rename_i hl
   cases g:exs (run T n) fn.body (A2 fn ds) with
   |ok fl=>
    rw[g] at h;refine⟨hl,fl,rfl,?_⟩;cases fl<;>(cases h;rfl)
   |xn _ _=>
    rw[g] at h;simp only at h;cases q:xs (run T n) fn.body (A2 fn ds)<;>(rw[q] at h;cases h)
   |un=>
    rw[g] at h;simp only at h;cases q:xs (run T n) fn.body (A2 fn ds)<;>(rw[q] at h;cases h)
  ·cases h
 have runx:∀{ds c dd},run T (n+1) f ds=.xn c dd->ds.length=fn.ps/\xs (run T n) fn.body (A2 fn ds)=some (c,dd):=λ{ds c dd} h=>by
  unfold run at h;rw[e] at h;simp only at h;split at h
  ·rename_i hl
   refine⟨hl,?_⟩
   cases g:exs (run T n) fn.body (A2 fn ds) with
   |ok fl=>rw[g] at h;cases fl<;>cases h
   |xn _ _=>
    rw[g] at h;simp only at h
    cases q:xs (run T n) fn.body (A2 fn ds) with
    |none=>rw[q] at h;cases h
    |some c'=>rw[q] at h;cases h;rfl
   |un=>
    rw[g] at h;simp only at h
    cases q:xs (run T n) fn.body (A2 fn ds) with
    |none=>rw[q] at h;cases h
    |some c'=>rw[q] at h;cases h;rfl
  ·cases h
 obtain⟨oc,od,kV,doc,pm,an,cdv,ct,osl,rfl,lk,hcd⟩:=F.ex
 show FnOk P w K mg base (CXx P w) (2*n+4+1+1) a _ ps _
 refine Qfs lk hcd S (λvs H Q E h=>?_) λA outer s H vs Q E hr h=>?_
 ·rcases h.2 with⟨ds,F',d,r,hr,_⟩|⟨ds,F',c,dd,r,hr,_⟩
  ·rw[<-r.length,(runs hr).1,h1]
  ·rw[<-r.length,(runx hr).1,h1]
 ·obtain⟨htb,h⟩:=h
  have st0:∀{ds:List D} {F':List Addr},A5 K H ds vs F'->ds.length=fn.ps->∃Fs,SR K H (λa=>H a=none\/a∈F') H (L2.start N vs) (A2 fn ds) Fs:=λ{ds F'} r hl=>by
   obtain⟨Fs,hF⟩:=Kd r;have lv:=r.length;have get:∀i d o,(A2 fn ds)[i]?=some (some (d,o))->ds[i]?=some d/\o=false:=λi d o e=>by
    unfold A2 at e;by_cases hi:i<ds.length
    ·rw[List.getElem?_append_left (by simpa using hi),List.getElem?_map] at e
     cases q:ds[i]? with
     |none=>rw[q] at e;cases e
     |some d'=>rw[q] at e;cases e;exact⟨rfl,rfl⟩
    ·rw[List.getElem?_append_right (by simpa using hi),List.getElem?_replicate] at e
     split at e<;>cases e
   refine⟨Fs,⟨⟨?_,λi d o e=>?_⟩,λi d o e a ha=>?_,λi d e=>?_,A6.refl _,λa z=>.inl z,λi ds e _=>?_⟩⟩
   ·show (L2.start N vs).length=(A2 fn ds).length
    unfold L2.start A2;simp only[List.length_append,List.length_map,List.length_replicate];omega
   ·obtain⟨q,_⟩:=get i d o e
    obtain⟨v,q1,q2,_⟩:=hF i d q;refine⟨v,?_,q2⟩;unfold L2.start;rw[List.getElem?_append_left (by rw[List.length_map];exact(List.getElem?_eq_some_iff.mp q1).1),List.getElem?_map,q1]
    rfl
   ·obtain⟨q,_⟩:=get i d o e
    obtain⟨v,_,_,q3⟩:=hF i d q;exact .inr (q3 a ha)
   ·obtain⟨_,q⟩:=get i d true e
    cases q
   ·obtain⟨_,q⟩:=get i _ true e
    cases q
  have M0:Md T n (Ej (CXx P w) P w K mg base N f (Ba st) a cdv A outer s H E).nox:=⟨rfl,S.nd,hr.mono (Nat.le_succ _),kept,htb,hb,hxc,hcs⟩;have ks:At fn.body=true->KS T n (Ej (CXx P w) P w K mg base N f (Ba st) a cdv A outer s H E).nox:=λhk=>by
   obtain⟨k1,c,Pt,k2,k3,k4,k5⟩:=hK hk;exact k1 _ M0 ⟨hr,c,Pt,⟨k2,k3,k4,k5⟩,htb f fn a _ _ _ _ c Pt e hk hm lk k2 k3⟩
  rcases h with⟨ds,F',d,r,hrun,k⟩|⟨ds,F',c,dd,r,hrun,k⟩
  ·obtain⟨hl,fl,g,rfl⟩:=runs hrun
   obtain⟨Fs,SS⟩:=st0 r hl;refine⟨tSs K (run T n) fn.body,(sSs T n hs fn.body (Ej (CXx P w) P w K mg base N f (Ba st) a cdv A outer s H E).nox M0 ⟨λ_=>rfl,rfl,rfl⟩ PassesOwn.never ks hD _ h3).nox,?_⟩
   refine⟨H,λa=>H a=none\/a∈F',A2 fn ds,Fs,fl,SS,g,?_⟩
   cases fl with
   |nx ρ'=>exact λσ' H' Fs' S'=>k .non H' [] S'.same ⟨rfl,rfl⟩ (λ_ z=>nomatch z) (λ_ _=>ShP.non)
   |rt d=>exact λv H' F2 sm rr al fr=>k v H' F2 sm rr al fr
  ·obtain⟨hl,hx⟩:=runx hrun
   obtain⟨Fs,SS⟩:=st0 r hl;refine⟨tXs K (run T n) fn.body (λl H'=>∀v dx,mg l.1=some v->XD K H' l.2 dx->E v dx H'),xSs T n hs fn.body (Ej (CXx P w) P w K mg base N f (Ba st) a cdv A outer s H E) { M0 with } ⟨λ_=>rfl,rfl,rfl⟩ ks hD _ (λpins σ H s e s' I h=>?_) (.inr ?_) _ h3,?_⟩
   ·obtain⟨a,C,a0,Tb,H',x1,x2,x3,x4,x5,x6,x7,x8,⟨l,mc,xd,q⟩⟩:=h
    exact V9 pins σ H s e s' I ⟨a,C,a0,Tb,H',x1,x2,x3,x4,x5,x6,x7,x8,q _ _ mc xd⟩
   ·refine { mr:=λpins σ H s h' e Ca c oe vs mc I k nw he hc hd hdat h1 hw=>Va I k nw he hc hd hdat h1 (hw _ _ mc rfl),mkI:=?_,po:=?_,pw:=?_ }
    ·exact λpins σ H s s' e t dx Ca c v u d mc I os bare un ok ne he ru ns nx rp hw=>Vb I os bare un ok ne he ru ns nx (hw _ (Ah (I.hok.none nx)) _ _ mc ⟨dx,v,rfl,Az,rp.same (Ah (I.hok.none nx))⟩)
    ·exact λhd=>PassesOwnAt.leaving
    ·exact PassesOwn.leaving
   ·exact⟨H,λa=>H a=none\/a∈F',A2 fn ds,Fs,(c,dd),SS,hx,λH' sm v dx mv xd=>k v dx H' mv sm xd⟩
structure Lnk(K:Frag)(mg:Str->Option Value)(f:Str)(fn:Fn)(st:Stmt)(N ps:List Str):Prop where
 ex:∃a fd,mg f=some (.ref a)/\Fun K f f st a fd/\Js K fd ps []
 sc:FnScope N ps (Ba st)
 ps:ps.length=fn.ps
 n:N.length=fn.n
 is:G3 fn.body (Ba st) N (Da st)=true
theorem P3(hs:∀n X,Md T n X->Be X (.builtin "sorted") (rB X.K .sorted))(hb:∀x∈Qm,mg x=none)(hxc:∀c∈xnT T,XCok K mg base c)(hcs:∀p∈K0,CstOk K mg p.1 p.2)(hK:∀f fn a fd,T.lookup f=some fn->mg f=some (.ref a)->(∃st,Fun K f f st a fd)->At fn.body=true->(∀n X,Md T n X->Qhf n X->KS T n X)/\Qhj K mg base fd)(hD:∀f fn,T.lookup f=some fn->E8 T fn.body=true)(L:∀f fn,T.lookup f=some fn->∃st N ps,Lnk K mg f fn st N ps):∀n,Qhi P w K mg base T n
 |0=>λf fn e=>by
  obtain⟨st,N,ps,⟨a,fd,m1,F,bd⟩,_⟩:=L f fn e;refine⟨a,fd,ps,m1,F.kp,bd,⟨λvs H Q E h=>?_,λA outer s H args us vs Q E _ _ _ _ h=>?_⟩⟩
  ·rcases h.2 with⟨ds,F',d,r,hr,_⟩|⟨ds,F',c,dd,r,hr,_⟩<;>cases hr
  ·rcases h.2 with⟨ds,F',d,r,hr,_⟩|⟨ds,F',c,dd,r,hr,_⟩<;>cases hr
 |n+1=>λf fn e=>by
  obtain⟨st,N,ps,⟨a,fd,m1,F,bd⟩,sc,q1,q2,q3⟩:=L f fn e;exact⟨a,fd,ps,m1,F.kp,bd,S7 (hs n) hb hxc hcs (P3 hs hb hxc hcs hK hD L n) m1 (λhk=>by
   obtain⟨k1,k2⟩:=hK f fn a fd e m1 ⟨st,F⟩ hk;exact⟨k1 n,k2⟩) (hD f fn e) e F sc q1 q2 q3⟩
end
end Lf
namespace Lf
theorem Jh{p q:Int×Int}:ltP p q=true↔p.1<q.1\/(p.1=q.1/\p.2<q.2):=by
 unfold ltP;simp
theorem Nn(p:Int×Int):ltP p p=false:=by
 rw[Bool.eq_false_iff];intro h;rw[Jh] at h;omega
theorem Ke{p q r:Int×Int}(h:ltP p q=true)(g:ltP q r=true):ltP p r=true:=by
 rw[Jh] at h g |-;omega
theorem No{p q:Int×Int}(h:p≠q):ltP p q=true\/ltP q p=true:=by
 rw[Jh,Jh];obtain⟨a,b⟩:=p;obtain⟨c,d⟩:=q;have:a≠c\/b≠d:=by
  by_cases z:a=c
  ·by_cases y:b=d
   ·exact absurd (by rw[z,y]) h
   ·exact .inr y
  ·exact .inl z
 simp only;omega
theorem Ia(x:Int×Int):∀l,(Qf x l).Perm (x::l)
 |[]=>.refl _
 |y::r=>by
  unfold Qf;split
  ·exact((Ia x r).cons y).trans (.swap x y r)
  ·exact .refl _
theorem Eb:∀l,(Cu l).Perm l
 |[]=>.refl _
 |x::r=>(Ia x _).trans ((Eb r).cons x)
theorem S8{x:Int×Int}:∀{l},l.Pairwise (λa b=>ltP a b=true)->(∀y∈l,x≠y)->(Qf x l).Pairwise (λa b=>ltP a b=true)
 |[],_,_=>by simp[Qf]
 |y::r,h,n=>by
  obtain⟨h1,h2⟩:=List.pairwise_cons.mp h;unfold Qf;split
  ·rename_i hy
   refine List.pairwise_cons.mpr ⟨λz hz=>?_,S8 h2 λw hw=>n w (List.mem_cons_of_mem _ hw)⟩
   rcases List.mem_cons.mp ((Ia x r).mem_iff.mp hz) with rfl|hz
   ·exact hy
   ·exact h1 z hz
  ·rename_i hy
   have hxy:ltP x y=true:=by
    rcases No (n y List.mem_cons_self) with z|z
    ·exact z
    ·exact absurd z hy
   refine List.pairwise_cons.mpr ⟨λz hz=>?_,h⟩
   rcases List.mem_cons.mp hz with rfl|hz
   ·exact hxy
   ·exact Ke hxy (h1 z hz)
theorem P4:∀{l:List (Int×Int)},l.Nodup->(Cu l).Pairwise (λa b=>ltP a b=true)
 |[],_=>List.Pairwise.nil
 |x::r,h=>by
  obtain⟨h1,h2⟩:=List.nodup_cons.mp h;exact S8 (P4 h2) λy hy e=>h1 (by rw[e];exact(Eb r).mem_iff.mp hy)
theorem Qo{l l':List (Int×Int)}(h:l.Nodup)(hp:l'.Perm l)(hs:l'.Pairwise (λa b=>ltP a b=true)):l'=Cu l:=
 List.Perm.eq_of_pairwise (le:=λa b=>ltP a b=true) (λa b _ _ h1 h2=>by have:=Ke h1 h2;rw[Nn] at this;cases this) hs (P4 h) (hp.trans (Eb l).symm)
theorem Ib(x:Int):∀l,(Qe x l).Perm (x::l)
 |[]=>.refl _
 |y::r=>by
  unfold Qe;split
  ·exact .refl _
  ·exact((Ib x r).cons y).trans (.swap x y r)
theorem Gd:∀l,(Lv l).Perm l
 |[]=>.refl _
 |x::r=>(Ib x _).trans ((Gd r).cons x)
theorem S9{x:Int}:∀{l:List Int},l.Pairwise (·<=·)->(Qe x l).Pairwise (·<=·)
 |[],_=>by simp[Qe]
 |y::r,h=>by
  obtain⟨h1,h2⟩:=List.pairwise_cons.mp h;unfold Qe;split
  ·rename_i hy
   refine List.pairwise_cons.mpr ⟨λz hz=>?_,h⟩
   rcases List.mem_cons.mp hz with rfl|hz
   ·exact hy
   ·exact Int.le_trans hy (h1 z hz)
  ·rename_i hy
   refine List.pairwise_cons.mpr ⟨λz hz=>?_,S9 h2⟩
   rcases List.mem_cons.mp ((Ib x r).mem_iff.mp hz) with rfl|hz
   ·omega
   ·exact h1 z hz
theorem P5:∀{l:List Int},(Lv l).Pairwise (·<=·)
 |[]=>List.Pairwise.nil
 |x::r=>S9 P5
theorem Qp{l l':List Int}(hp:l'.Perm l)(hs:l'.Pairwise (·<=·)):l'=Lv l:=
 List.Perm.eq_of_pairwise (λa b _ _ h1 h2=>Int.le_antisymm h1 h2) hs P5 (hp.trans (Gd l).symm)
theorem M6{α:Type}{l:List α}(h:l.Nodup){i j:Nat}(hi:i<l.length)(hj:j<l.length)(e:l[i]=l[j]):i=j:=by
 have h':=List.pairwise_iff_getElem.mp h;rcases Nat.lt_trichotomy i j with z|z|z
 ·exact absurd e (h' i j hi hj z)
 ·exact z
 ·exact absurd e.symm (h' j i hj hi z)
end Lf
namespace Lf
open PySem PySem.Spec PyProof.Rows L2
section
variable(ps:List (Int×Int))
def B3(i:Nat):Int×Int:=ps.getD i (0,0)
def Ge(i:Nat):Nat:=((List.range ps.length).filter λj=>ltP (B3 ps j) (B3 ps i)).length
variable{ps}
theorem Dk{α:Type}{p q:α->Bool}:∀{l:List α},(∀a∈l,p a=true->q a=true)->(l.filter p).length<=(l.filter q).length
 |[],_=>Nat.le_refl _
 |a::l,h=>by
  have ih:=Dk (l:=l) λb hb=>h b (List.mem_cons_of_mem _ hb)
  rw[List.filter_cons,List.filter_cons]
  cases hp:p a with
  |true=>rw[h a List.mem_cons_self hp];simpa using ih
  |false=>cases q a<;>simp<;>omega
theorem G7{α:Type}{p q:α->Bool}:∀{l:List α},(∀a∈l,p a=true->q a=true)->(∃a∈l,q a=true/\p a=false)->(l.filter p).length<(l.filter q).length
 |[],_,⟨a,ha,_⟩=>nomatch ha
 |a::l,h,⟨b,hb,h1,h2⟩=>by
  have hl:∀b∈l,p b=true->q b=true:=λb hb=>h b (List.mem_cons_of_mem _ hb)
  rw[List.filter_cons,List.filter_cons];rcases List.mem_cons.mp hb with rfl|hb
  ·rw[h1,h2]
   have:=Dk hl;simp;omega
  ·have ih:=G7 hl ⟨b,hb,h1,h2⟩
   cases hp:p a with
   |true=>rw[h a List.mem_cons_self hp];simpa using ih
   |false=>cases q a<;>simp<;>omega
theorem P6(hn:ps.Nodup){i j:Nat}(hi:i<ps.length)(hj:j<ps.length):decide (Ge ps i<Ge ps j)=ltP (B3 ps i) (B3 ps j):=by
 cases h:ltP (B3 ps i) (B3 ps j) with
 |true=>
  refine decide_eq_true (G7 (λk _ hk=>Ke hk h) ⟨i,List.mem_range.mpr hi,h,Nn _⟩)
 |false=>
  refine decide_eq_false (Nat.not_lt.mpr (Dk λk _ hk=>?_))
  by_cases he:B3 ps i=B3 ps j
  ·rw[he];exact hk
  ·rcases No he with z|z
   ·rw[h] at z;cases z
   ·exact Ke hk z
theorem Qam(hn:ps.Nodup){i j:Nat}(hi:i<ps.length)(hj:j<ps.length)(h:B3 ps i=B3 ps j):i=j:=by
 have e1:B3 ps i=ps[i]:=by simp[B3,hi]
 have e2:B3 ps j=ps[j]:=by simp[B3,hj]
 rw[e1,e2] at h;exact M6 hn hi hj h
theorem P7(hn:ps.Nodup){p:Array Nat}(hp:isP ps.length p)(h3:Gv (λi=>(Ge ps i:Int)) p ps.length):p.toList.Perm (List.range ps.length)/\p.toList.map (B3 ps)=Cu ps:=by
 have h1:p.toList.length=ps.length:=by rw[hp.length_eq,List.length_range]
 refine⟨hp,?_⟩;have gd:∀i,p.getD i 0=p.toList.getD i 0:=λi=>by simp[List.getD_eq_getElem?_getD]
 have hlt:∀i,i<ps.length->p.toList.getD i 0<ps.length:=λi hi=>by rw[<-gd];exact hp.at hi
 have hnd:p.toList.Nodup:=hp.nodup_iff.mpr List.nodup_range;have step:∀i,i+1<ps.length->ltP (B3 ps (p.toList.getD i 0)) (B3 ps (p.toList.getD (i+1) 0))=true:=λi hi=>by
  have a:Ge ps (p.toList.getD i 0)<=Ge ps (p.toList.getD (i+1) 0):=by
   have:=h3 i (i+1) (by omega) hi
   simp only[kp,gd] at this;omega
  have b:=P6 hn (hlt (i+1) hi) (hlt i (by omega))
  rw[decide_eq_false (Nat.not_lt.mpr a)] at b;have ne:B3 ps (p.toList.getD i 0)≠B3 ps (p.toList.getD (i+1) 0):=λe=>by
   have:=Qam hn (hlt i (by omega)) (hlt (i+1) hi) e
   rw[List.getD_eq_getElem?_getD,List.getD_eq_getElem?_getD,List.getElem?_eq_getElem (by omega),List.getElem?_eq_getElem (by omega)] at this
   have:=M6 hnd (by omega) (by omega) (show p.toList[i]=p.toList[i+1] from this)
   omega
  rcases No ne with z|z
  ·exact z
  ·rw[z] at b;cases b
 refine Qo hn ?_ ?_
 ·have:=hp.map (B3 ps)
  have e:(List.range ps.length).map (B3 ps)=ps:=by
   refine List.ext_getElem (by simp) λi h1 h2=>?_
   simp[B3,h2]
  rw[e] at this;exact this
 ·rw[List.pairwise_iff_getElem]
  have all:∀d i,i+d+1<ps.length->ltP (B3 ps (p.toList.getD i 0)) (B3 ps (p.toList.getD (i+d+1) 0))=true:=by
   intro d
   induction d with
   |zero=>intro i hi;exact step i hi
   |succ d ih=>intro i hi;exact Ke (ih i (by omega)) (step (i+d+1) hi)
  intro i j hi hj hij;rw[List.length_map] at hi hj;have:=all (j-i-1) i (by omega)
  rw[show i+(j-i-1)+1=j by omega,List.getD_eq_getElem?_getD,List.getD_eq_getElem?_getD,List.getElem?_eq_getElem hi,List.getElem?_eq_getElem hj] at this
  simpa using this
end
section
variable{prog:Program}{w:World}{A:Around}{E:Value->Shared->Prop}{s:Shared}
theorem Kf:(1:Nat)<=sizeLine:=by rw[sizeLine_eq];decide
theorem Wz{a:Addr}{v:Value}{n:Nat}{P:PySem.Fin->Shared->Prop}(ho:s.heap.get? a=some (seqObj "list" [v].toArray n))(h:P (.done (.ret .none)) { s with heap:=sortedHeap s.heap a [v] #[v] }) :
  wpAny (model prog w) A (Builtin.«list.sort» ⟨[.ref a],[]⟩) P E s:=by
 rw[list_sort_plain];have la:a<s.heap.objs.size:=Heap.lt_size ho;refine wpAny_bind (listItems_at ho rfl (wpAny_bind (listUpdate_at ho rfl ?_ Kf (Nat.zero_le _))));obtain⟨e1,q1⟩:∃e1,(s.heap.update a (Obj.mapSeq λ_=>#[])).get? a=some (seqObj "list" #[] e1):=⟨_,get?_update_seq ho (λ_=>#[])⟩
 refine wpAny_bind (seqEpoch_at q1 rfl (wpAny_bind (wpAny_newTuple (wpAny_bind (wpAny_newList (wpAny_holding ?_) (Nat.zero_le _))) Kf)));have q6:(((s.heap.update a (Obj.mapSeq λ_=>#[])).push (seqObj "tuple" [v].toArray 0)).push (seqObj "list" #[] 0)).get? a=some (seqObj "list" #[] e1):=
  (Heap.get?_push_ne _ _ _ (by rw[size_push',Heap.size_update];exact Nat.ne_of_lt (Nat.lt_succ_of_lt la))).trans ((Heap.get?_push_ne _ _ _ (by rw[Heap.size_update];exact Nat.ne_of_lt la)).trans q1)
 show wpAny (model prog w) A _ P E { s with heap:=((s.heap.update a (Obj.mapSeq λ_=>#[])).push (seqObj "tuple" [v].toArray 0)).push (seqObj "list" #[] 0) }
 dsimp only;have harr:(arrOf (SortSt.mk' general' ([v].toArray.zip [v].toArray) #[] 7 none)).map (·.2)=#[v]:=by
  show ([v].toArray.zip [v].toArray).map (·.2)=#[v]
  simp
 have h2:[v].toArray.size<2:=Nat.lt_succ_self 1;rw[if_pos h2,if_pos h2];refine wpAny_bind (wpAny_pure ?_);rw[StateT.run_pure];refine wpAny_bind (wpAny_pure ?_);dsimp only;refine wpAny_bind (seqEpoch_at q6 rfl (wpAny_bind (listUpdate_at q6 rfl ?_ (Nat.zero_le _) (by rw[harr];exact Nat.le_succ_of_le Kf))))
 simp only[bne_self_eq_false,Bool.false_eq_true,if_false];rw[harr];exact wpAny_pure h
theorem Qq{l:Addr}{v:Value}{Q:Value->Shared->Prop}(hl:s.heap.IsList l [v].toArray)(h:Q (.ref (s.heap.objs.size+1)) { s with heap:=sortedAll s.heap [v] #[v] }):wpAny (model prog w) A (call (.builtin "sorted") [.ref l]) Q E s:=by
 refine Calls.call_function_entry kind_sorted plain_sorted entry_sorted (args_sorted1 _) ?_;unfold Builtin.«sorted»;refine wpAny_bind (m:=checkCount "sorted" 1 1 _) (wpAny_pure (wpAny_bind (collect_list hl (wpAny_bind (wpAny_newList ?_ Kf)) Kf)));have e1:((s.heap.push (seqObj "list" #[] 0)).update s.heap.objs.size (Obj.mapSeq (·++[v].toArray))).objs.size=s.heap.objs.size+1:=(Heap.size_update _ _ _).trans (size_push' _ _);have e2:(((s.heap.push (seqObj "list" #[] 0)).update s.heap.objs.size (Obj.mapSeq (·++[v].toArray))).push (seqObj "list" [v].toArray 0)).get? (s.heap.objs.size+1)=some (seqObj "list" [v].toArray 0):=by rw[<-e1];exact Heap.get?_push_size _ rfl
 show wpAny _ _ _ _ _ { s with heap:=((s.heap.push (seqObj "list" #[] 0)).update s.heap.objs.size (Obj.mapSeq (·++[v].toArray))).push (seqObj "list" [v].toArray 0) }
 rw[e1];exact wpAny_bind (wpAny_holding (wpAny_call_entry slot_list_sort ⟨_,e2,rfl⟩ entry_list_sort (Wz e2 ⟨_,rfl,wpAny_pure ⟨_,rfl,h⟩⟩) (args_list_sort _)))
end
section
variable{X:Cx}{pins:List (Addr×Obj)}{σ:L2.St}{H:Hp}{s:Shared}
theorem Kg(I:Inv X pins σ H s){vs:List Value}{out:List Value}{ys:List V}{Q:VK}(hv:Ab ys out)(hz:ys.length<=sizeLine)(k:∀p,H p=none->Q (.ref p) (upd H p (.lst ys))):EP X pins σ Q (.ref (s.heap.objs.size+1)) { s with heap:=sortedAll s.heap vs out.toArray }:=by
 obtain⟨e,he⟩:=sortedAll_at s.heap vs out.toArray;refine⟨.ref _,_,I.laid (t':=s.toks) (λb o q=>sortedAll_old q) (Nat.le_succ _) ?_,rfl,k _ (I.hok.fresh (Nat.le_succ _))⟩
 exact⟨hz,out,e,hv,he⟩
theorem Sa{K:Frag}{H:Hp}:∀{ds:List D} {ns:List Int} {vs:List V} {F:List Addr} {us:List Value},Bg ds=some ns->A5 K H ds vs F->Ab vs us->IntsAre us ns
 |[],ns,_,_,_,e,h,v=>by
  cases e;obtain⟨rfl,_⟩:=h;cases v;exact .nil
 |.int i::ds,ns,_,_,_,e,h,v=>by
  have e':(Bg ds).map (i :: ·)=some ns:=e;obtain⟨ms,e1,rfl⟩:=Option.map_eq_some_iff.mp e';obtain⟨x,r,F1,F2,rfl,_,h1,h2⟩:=h;obtain⟨rfl,_⟩:=h1
  cases v with
  |cons q t=>
   obtain⟨tk,rfl⟩:=q;exact .cons _ _ (Sa e1 h2 t)
 |.non::ds,ns,_,_,_,e,_,_=>by cases e
 |.bl _::ds,ns,_,_,_,e,_,_=>by cases e
 |.str _::ds,ns,_,_,_,e,_,_=>by cases e
 |.tup _::ds,ns,_,_,_,e,_,_=>by cases e
 |.lst _::ds,ns,_,_,_,e,_,_=>by cases e
theorem Ic{K:Frag}{H:Hp}:∀(ns:List Int),A5 K H (ns.map .int) (ns.map V.int) []
 |[]=>⟨rfl,rfl⟩
 |n::ns=>⟨_,_,[],[],rfl,rfl,⟨rfl,rfl⟩,Ic ns⟩
theorem Hg:∀{us:List Value} {ns:List Int},IntsAre us ns->Ab (ns.map V.int) us
 |_,_,.nil=>.nil
 |_,_,.cons n t h=>.cons ⟨t,rfl⟩ (Hg h)
theorem P8:∀{ds:List D} {ns:List Int},Bg ds=some ns->ns.length=ds.length
 |[],ns,e=>by cases e;rfl
 |.int i::ds,ns,e=>by
  have e':(Bg ds).map (i :: ·)=some ns:=e;obtain⟨ms,e1,rfl⟩:=Option.map_eq_some_iff.mp e';simp[P8 e1]
 |.non::ds,ns,e=>by cases e
 |.bl _::ds,ns,e=>by cases e
 |.str _::ds,ns,e=>by cases e
 |.tup _::ds,ns,e=>by cases e
 |.lst _::ds,ns,e=>by cases e
theorem P9:∀{ds:List D} {ps:List (Int×Int)},Lf.pairsOf ds=some ps->ds=ps.map Bu
 |[],ps,e=>by cases e;rfl
 |d::ds,ps,e=>by
  unfold Lf.pairsOf at e;split at e
  ·cases ‹_::_=[]›
  ·rename_i i j r z
   cases z;obtain⟨qs,e1,rfl⟩:=Option.map_eq_some_iff.mp e;rw[P9 e1];rfl
  ·cases e
theorem Pa{ps:List (Int×Int)}{i:Nat}(h:i<ps.length):(ps.map Bu)[i]?=some (Bu (B3 ps i)):=by
 rw[List.getElem?_map,List.getElem?_eq_getElem h];simp[B3,h]
end
section
variable{X:Cx}{pins:List (Addr×Obj)}{σ:L2.St}{H:Hp}{s:Shared}
theorem Qan{P:Program}{w:World}{h:Heap}{a:Addr}{o:HO}(x:C6 P w H h a o):∃ob,h.get? a=some ob:=by
 cases o with
 |lst xs=>obtain⟨_,_,_,_,e⟩:=x;exact⟨_,e⟩
 |tup xs=>obtain⟨_,⟨_,_,ob,e,_⟩,_⟩:=x;exact⟨ob,e⟩
 |dK kvs=>obtain⟨_,_,_,_,ob,_,_,e,_⟩:=x;exact⟨ob,e⟩
 |dT kvs=>obtain⟨_,_,_,_,ob,_,_,e,_⟩:=x;exact⟨ob,e⟩
 |set S n=>obtain⟨ob,_,_,_,e,_⟩:=x;exact⟨ob,e⟩
 |ins C dx fs=>obtain⟨_,_,_,e,_⟩:=x;exact⟨_,e⟩
 |own y=>exact x
 |xd fs=>obtain⟨_,⟨ob,_,_,e,_⟩,_⟩:=x;exact⟨ob,e⟩
 |rng lo hi=>obtain⟨_,_,_,e⟩:=x;exact⟨_,e⟩
 |frz ob u=>obtain⟨e,_⟩:=x;exact⟨_,e⟩
 |tbl ps=>obtain⟨_,e,_⟩:=x;exact⟨_,e⟩
 |met f y=>exact⟨_,(show h.get? a=some _ from x)⟩
 |ext φ=>obtain⟨_,⟨ob,e⟩,_⟩:=x;exact⟨ob,e⟩
theorem Sb(I:Inv X pins σ H s){a:Addr}(ne:∀b u,s.heap.get? b=some u->b≠a):H a=none:=by
 cases e:H a with
 |none=>rfl
 |some o=>
  obtain⟨ob,q⟩:=Qan (I.hok a o e);exact absurd rfl (ne a ob q)
theorem Qhk(I:Inv X pins σ H s){a:Addr}{o:HO}{h':Heap}{t':Nat}(k:∀b u,b≠X.env.locals->s.heap.get? b=some u->h'.get? b=some u)(ns:∀m,s.heap.Ns X.env.locals m->h'.Ns X.env.locals m)(ne:∀b u,s.heap.get? b=some u->b≠a)(new:C6 X.prog X.w (upd H a o) h' a o) :
  Inv X pins σ (upd H a o) { s with heap:=h',toks:=t' }:=by
 have hn:H a=none:=Sb I ne;have trk:∀b u,H b=some u->b≠X.env.locals:=λb u e z=>by rw[z,I.free] at e;cases e
 refine I.step (g':=s.gens) (d':=s.drawn) (ch:=[]) (λb hb=>nomatch hb) (λb u hL _ _ e _=>k b u hL e) (λb u hL _ _ e _=>⟨u.slots,k b u hL e⟩) (λb u _ e n=>by rw[A7 (ne b u e)];exact n) (λb u _ e=>?_)
  (λb xs e=>by rw[A7 (A8 e hn)];exact e) (λb u v e=>by rw[A7 (A8 e hn)];exact e) (λb ps e=>⟨#[],by rw[A7 (A8 e hn),e];simp⟩) ns (λb u e=>?_) I.bare
 ·by_cases hL:b=X.env.locals
  ·subst hL
   obtain⟨m,hm,_⟩:=I.loc;obtain⟨o',_,_,ho',_⟩:=ns m hm;exact⟨o',ho'⟩
  ·exact⟨u,k b u hL e⟩
 ·by_cases hb:b=a
  ·subst hb
   rw[Az] at e;cases e;exact new
  ·rw[A7 hb] at e
   refine(I.hok b u e).stay (λc v hc q=>k c v ?_ q) (λc q=>by rw[A7 (A8 q hn)];exact q) (λc xs q=>by rw[A7 (A8 q hn)];exact q) (λc o u q=>by rw[A7 (A8 q hn)];exact q)
   rcases hc with z|z
   ·rw[z];exact trk b u e
   ·exact trk c _ z
theorem Qao{h:Heap}{a:Addr}{m m':Str->Option Value}(n:h.Ns a m)(n':h.Ns a m'):m=m':=by
 obtain⟨o,es,ep,ho,hd,_,hm⟩:=n;obtain⟨o',es',ep',ho',hd',_,hm'⟩:=n';rw[ho] at ho';cases ho';rw[hd] at hd';cases hd'
 funext x
 rw[<-hm x,<-hm' x]
theorem X0(I:Inv X pins σ H s){i j:Int}{v:V}{F:List Addr}{u:Value}(r:Rep X.K H (Bu (i,j)) v F)(rv:An v u) :
  ∃b o n t t',u=.ref b/\s.heap.get? b=some o/\o.cls=.type "tuple" /\ o.data=.seq #[.int i t,.int j t'] n/\b≠X.env.locals:=by
 obtain⟨b,vs,rfl,hq,rr⟩:=r;obtain⟨v1,w1,F1,F2,rfl,_,r1,rr⟩:=rr;obtain⟨v2,w2,F3,F4,rfl,_,r2,rr⟩:=rr;obtain⟨rfl,_⟩:=rr;obtain⟨rfl,_⟩:=r1;obtain⟨rfl,_⟩:=r2;cases rv;obtain⟨its,rv,⟨o,e,c,n,hd⟩,_⟩:=I.tuple hq;obtain⟨u1,u2,rfl,⟨t,rfl⟩,⟨t',rfl⟩⟩:=Ab.two rv;refine⟨b,o,n,t,t',rfl,e,c,hd,λz=>?_⟩
 obtain⟨m,⟨o',es,ep,ho',hd',_⟩,_⟩:=I.loc;rw[<-z,e] at ho';cases ho';rw[hd] at hd';cases hd'
theorem X1{prog:Program}{w:World}{A:Around}{E:Value->Shared->Prop}{s:Shared}{x y:Addr}{ox oy:Obj}{n k:Nat}{i j i' j':Int}{t t' u u':Tok}{Q:Bool->Shared->Prop}(hx:s.heap.get? x=some ox)(dx:ox.data=.seq #[.int i t,.int j t'] n)(hy:s.heap.get? y=some oy)(dy:oy.data=.seq #[.int i' u,.int j' u'] k)
  (h:Q (ltP (i,j) (i',j')) s):wpAny (model prog w) A (keyLt' (tuples' true) (.ref x) (.ref y)) Q E s:=by
 refine PySem.W.kat_lt hx dx hy dy ?_
 show PySem.W.KatLex prog w A true (decide (2<2)) Q [(.int i t,.int i' u),(.int j t',.int j' u')] 0 s
 refine PySem.W.kat_cons (SeqAt.EqAt.int_int i t i' u prog w _ _ ?_);by_cases e:i=i'
 ·have hb:(i==i')=true:=beq_iff_eq.mpr e
  rw[hb];refine PySem.W.kat_yes (PySem.W.kat_cons (SeqAt.EqAt.int_int j t' j' u' prog w _ _ ?_));by_cases e2:j=j'
  ·have hb2:(j==j')=true:=beq_iff_eq.mpr e2
   rw[hb2];refine PySem.W.kat_yes (PySem.W.kat_nil ?_);subst e e2;rw[Nn] at h;exact h
  ·have hb2:(j==j')=false:=beq_eq_false_iff_ne.mpr e2
   rw[hb2];refine PySem.W.kat_no ?_
   show wpAny (model prog w) A (oneLt' false (.int j t') (.int j' u')) Q _ s
   refine PySem.W.kat_one _ _ (lt_int ?_)
   show Q (decide (j<j')) s
   have:ltP (i,j) (i',j')=decide (j<j'):=by
    subst e;unfold ltP;simp
   rw[<-this];exact h
 ·have hb:(i==i')=false:=beq_eq_false_iff_ne.mpr e
  rw[hb];refine PySem.W.kat_no ?_
  show wpAny (model prog w) A (oneLt' true (.int i t) (.int i' u)) Q _ s
  refine oneLt_int ?_;have:ltP (i,j) (i',j')=decide (i<i'):=by
   unfold ltP;simp[e]
  rw[<-this];exact h
theorem X2{us:List Value}{i:Nat}{u:Value}(h:us[i]?=some u):us.getD i Value.none=u:=by
 rw[List.getD_eq_getElem?_getD,h];rfl
theorem M7{K:Frag}{H:Hp}{ds:List D}{vs:List V}{F:List Addr}{us:List Value}(r:A5 K H ds vs F)(rv:Ab vs us):∀(p:List Nat),(∀i∈p,i<ds.length)->∃ws G,A5 K H (p.map λi=>ds.getD i .non) ws G/\Ab ws (p.map λi=>us.getD i Value.none)/\∀a∈G,a∈F
 |[],_=>⟨[],[],⟨rfl,rfl⟩,.nil,λ_ z=>nomatch z⟩
 |i::p,h=>by
  obtain⟨ws,G,q1,q2,q3⟩:=M7 r rv p λj hj=>h j (List.mem_cons_of_mem _ hj)
  have hi:=h i List.mem_cons_self;obtain⟨v,F1,e1,r1,s1⟩:=r.get (List.getElem?_eq_getElem hi);obtain⟨u,e2,ru⟩:=rv.get e1;refine⟨v::ws,F1++G,?_,?_,λa ha=>(List.mem_append.mp ha).elim (s1 a) (q3 a)⟩
  ·rw[List.map_cons,Fo (List.getElem?_eq_getElem hi)]
   exact .cons r1 q1
  ·rw[List.map_cons,X2 e2]
   exact .cons ru q2
theorem Pb:Be X (.builtin "sorted") (rB X.K .sorted):=by
 intro pins s σ H xs us Q I rv h;obtain⟨x,d1,F1,d,rfl,h1,e,k⟩:=h
 cases d1 with
 |lst ds=>
  have e':(Lw ds >>= λys=>R.ok (D.lst ys))=.ok d:=e
  obtain⟨ys,g1,e'⟩:=R.bind_eq_ok e';cases e';obtain⟨a,vs,F',rfl,rr,hq,hs⟩:=h1.lst_;obtain⟨u0,rfl,ru⟩:=Ab.one rv;cases ru;obtain⟨its,rv',p,hz⟩:=I.list hq;have l1:=rr.length;have l2:=rv'.length;unfold Lw at g1;split at g1
  ·rename_i h64
   split at g1
   ·rename_i ns hn
    cases g1;have ii:=Sa hn rr rv';refine sorted_ints p.isList ii (by omega) λout ns' hi hp hs'=>?_
    have e1:=Qp hp hs';subst e1;have len:(Lv ns).length=ds.length:=by rw[(Gd ns).length_eq,P8 hn]
    have:=Kg (vs:=its) (Q:=Q) I (Hg hi) (by rw[List.length_map];omega) λq hq=>k _ _ _ (Ah hq) (Rep.new_lst hq (Ic _)) (λb hb=>by
     have:b=q:=by simpa using hb
     subst this;exact .inl hq) (λ_ ds _=>⟨_,_,rfl,hq⟩)
    simpa using this
   ·split at g1
    ·rename_i ps hps
     split at g1
     ·rename_i hnd
      cases g1;have hds:=P9 hps;have lps:ps.length=ds.length:=by rw[hds,List.length_map]
      have last:∀(q:Addr) (ws:List V) (G:List Addr) (H':Hp),A6 H H'->H q=none->H' q=some (.lst ws)->A5 X.K H' ((Cu ps).map Bu) ws G->(∀b∈G,b∈F')->Q (.ref q) H':=λq ws G H' sm hq hq' rr' sub=>
       k _ _ (q::G) sm ⟨q,ws,G,rfl,rr',.inl ⟨hq',rfl⟩⟩ (λb hb=>(List.mem_cons.mp hb).elim (λz=>.inl (z ▸ hq)) λz=>.inr (hs b (sub b z))) (λ_ ds _=>⟨_,_,rfl,hq⟩)
      by_cases h2:2<=ps.length
      ·obtain⟨m,hm,_⟩:=I.loc
       have N0:=Ue (g:=Att.noObjs s.heap) (h:=s.heap) (L:=X.env.locals);have inN:∀b o,b≠X.env.locals->s.heap.get? b=some o->(b,o)∈J1 (Att.noObjs s.heap) s.heap X.env.locals:=λb o hL ho=>O2 hL (Att.noObjs_get _ _) ho
       refine PySem.W.kat_sorted (Att.fr_all hm) N0 p.isList (by omega) (by omega) λD e1 h' F2 N2 hlt=>?_
       have obj:∀i,i<ps.length->∃b o n t t',its.getD i Value.none=.ref b/\h'.get? b=some o/\o.cls=.type "tuple" /\ o.data=.seq #[.int (B3 ps i).1 t,.int (B3 ps i).2 t'] n:=λi hi=>by
        have hdi:ds[i]?=some (Bu (B3 ps i)):=by rw[hds];exact Pa hi
        obtain⟨v,G,ev,rep,_⟩:=rr.get hdi;obtain⟨u,eu,ru⟩:=rv'.get ev;obtain⟨b,o,n,t,t',rfl,q1,q2,q3,q4⟩:=X0 I (i:=(B3 ps i).1) (j:=(B3 ps i).2) rep ru;exact⟨b,o,n,t,t',X2 eu,(N2 (b,o) (List.mem_cons_of_mem _ (inN b o q4 q1))).1,q2,q3⟩
       have tups:∀(l:List Nat),(∀i∈l,i<ps.length)->∃fs,PySem.W.KatTups h' (l.map λi=>its.getD i Value.none) fs/\fs.length=l.length/\∀v∈fs,∃i t,v=Value.int i t:=by
        intro l
        induction l with
        |nil=>exact λ_=>⟨[],PySem.W.KatTups.nil,rfl,λ_ z=>nomatch z⟩
        |cons i l ih=>
         intro hl;obtain⟨fs,q1,q2,q3⟩:=ih λj hj=>hl j (List.mem_cons_of_mem _ hj)
         obtain⟨b,o,n,t,t',w1,w2,w3,w4⟩:=obj i (hl i List.mem_cons_self);refine⟨.int (B3 ps i).1 t::fs,?_,by simp[q2],λv hv=>?_⟩
         ·rw[List.map_cons,w1]
          exact PySem.W.KatTups.cons w2 w3 w4 rfl q1
         ·rcases List.mem_cons.mp hv with rfl|hv
          ·exact⟨_,_,rfl⟩
          ·exact q3 v hv
       obtain⟨fs,t1,t2,t3⟩:=tups (List.range its.length) λi hi=>by
        have:=List.mem_range.mp hi;omega
       have eits:(List.range its.length).map (λi=>its.getD i Value.none)=its:=by
        refine List.ext_getElem (by simp) λi w1 w2=>?_
        simp[w2]
       rw[eits] at t1;refine PySem.W.kat_kind (T:=.type "int") t1 (by rw[t2,List.length_range];omega) (λv hv=>?_) rfl ?_
       ·obtain⟨i,t,rfl⟩:=t3 v hv
        intro A' Q' E' s' hk' q';exact wpAny_typeOf (typeIs_int s' i t) q'
       ·show (PySem.W.kas_sort its.length).kasWp _ _ _
        have hn5:its.length=ps.length:=by omega
        rw[hn5];refine Vn (n:=ps.length) (ans:=Cz λi=>(Ge ps i:Int)) (λi j hi hj C hC=>?_) (λq hq=>?_) _ (Za (by omega))
        ·obtain⟨b,o,n,t,t',w1,w2,w3,w4⟩:=obj i hi
         obtain⟨b2,o2,n2,t2,t2',y1,y2,y3,y4⟩:=obj j hj
         show wpAny (model X.prog X.w) X.A.in1.in1 (keyLt' (tuples' (Value.type "int" != Value.type "tuple")) (its.getD i Value.none) (its.getD j Value.none)) C _ _
         rw[w1,y1];refine X1 (s:={ s with heap:=h' }) w2 w4 y2 y4 ?_
         have e:ltP (B3 ps i) (B3 ps j)=Cz (λi=>(Ge ps i:Int)) i j:=by
          rw[<-P6 hnd hi hj];simp
         rw[e];exact hC
        ·obtain⟨hperm,hsort⟩:=P7 hnd hq.1 hq.2
         have hin:∀i∈q.toList,i<ds.length:=λi hi=>by
          rw[<-lps];exact List.mem_range.mp (hperm.mem_iff.mp hi)
         obtain⟨ws,G,w1,w2,w3⟩:=M7 rr rv' q.toList hin;have eds:(q.toList.map λi=>ds.getD i .non)=(Cu ps).map Bu:=by
          rw[<-hsort,List.map_map];refine List.map_congr_left λi hi=>?_
          have:=hin i hi;rw[Fo (d:=Bu (B3 ps i)) (by rw[hds];exact Pa (by omega))]
          rfl
         rw[eds] at w1;refine PySem.W.KasFin.intro F2 N2 (.head λq hq=>Nat.ne_of_lt (hlt q hq)) λh'' c F3 N3=>?_
         have hD:∀b u,s.heap.get? b=some u->b≠D:=λb u e z=>by
          subst z;have:=hlt _ (inN b u (N2 _ List.mem_cons_self).2.1 e);exact Nat.lt_irrefl _ this
         have hf:=Sb I hD;have J:Inv X pins σ (upd H D (.lst ws)) { s with heap:=h'',toks:=s.toks }:=Qhk I (λb u hL e=>(N3 (b,u) (List.mem_cons_of_mem _ (inN b u hL e))).1) (λm' hm'=>by rw[Qao hm' hm];exact F3.ns) hD
          ⟨by rw[w2.length];simp;have:=hperm.length_eq;simp at this;omega,_,c,w2,(N3 _ List.mem_cons_self).1⟩
         exact⟨.ref D,_,J,rfl,last D ws G _ (Ah hf) hf Az (w1.same (Ah hf)) w3⟩
      ·have h0:ps.length≠0:=λz=>by
        have:ds=[]:=List.eq_nil_of_length_eq_zero (by omega)
        subst this;rename_i hno;cases hno
       obtain⟨q,rfl⟩:∃q,ps=[q]:=by
        match ps,h2,h0 with
        |[q],_,_=>exact⟨q,rfl⟩
        |[],_,h0=>exact absurd rfl h0
        |_::_::_,h2,_=>exact absurd (by simp) h2
       obtain⟨v,rfl⟩:∃v,its=[v]:=by
        match its,(show its.length=1 by simp at lps;omega) with
        |[v],_=>exact⟨v,rfl⟩
       have e1:ds=[Bu q]:=hds;subst e1;refine Qq p.isList ?_;have:=Kg (vs:=[v]) (out:=[v]) (ys:=vs) (Q:=Q) I rv' hz λr hr=>last r vs F' _ (Ah hr) hr Az (rr.same (Ah hr)) (λ_ z=>z)
       exact this
     ·cases g1
    ·cases g1
  ·cases g1
 |_=>cases e
end
theorem Kh{N ps:List Str}{sc:Scope}(h:Nh N ps sc=true):FnScope N ps sc:=by
 unfold Nh at h;simp only[Bool.and_eq_true,beq_iff_eq,decide_eq_true_eq,List.all_eq_true,bne_iff_ne,ne_eq] at h;obtain⟨⟨⟨⟨⟨⟨h1,h2⟩,h3⟩,h4⟩,h5⟩,h6⟩,h7⟩:=h;refine⟨h1,h2,h3,h4,h5,λx hx=>?_,h7⟩
 have:=h6 x hx;unfold Zl at this;split at this
 ·rename_i z;exact .inl z
 ·rename_i z;exact .inr z
 ·cases this
def chk(fn:Fn)(st:Stmt)(N ps:List Str):Bool:=Nh N ps (Ba st)&&ps.length==fn.ps&&N.length==fn.n&&G3 fn.body (Ba st) N (Da st)
structure Lk(K:Frag)(mg:Str->Option Value)(f:Str)(fn:Fn)(st:Stmt)(N ps:List Str):Prop where
 ex:∃a fd,mg f=some (.ref a)/\Fun K f f st a fd/\∀us:List Value,us.length=ps.length->bindArgs fd ⟨us,[]⟩=pure (ps.zip us)
 ck:chk fn st N ps=true
theorem Lk.lnk{K:Frag}{mg:Str->Option Value}{f:Str}{fn:Fn}{st:Stmt}{N ps:List Str}(L:Lk K mg f fn st N ps):Lnk K mg f fn st N ps:=by
 obtain⟨a,fd,m,F,b⟩:=L.ex;have c:=L.ck;unfold chk at c;simp only[Bool.and_eq_true,beq_iff_eq] at c;obtain⟨⟨⟨c1,c2⟩,c3⟩,c4⟩:=c;exact⟨⟨a,fd,m,F,.all b⟩,Kh c1,c2,c3,c4⟩
theorem lk_mk{K:Frag}{h:Heap}{mg:Str->Option Value}{f:Str}{fn:Fn}{st:Stmt}{N ps:List Str}{a:Addr}{oc kV dc pm cd ct:Value}{od an:Option Addr}{sl:Array (Option Value)}(X:K.In h)(G:h.Ns mainGlobals mg)
  (ea:PySem.W.nsIn K mainGlobals f=some (some (.ref a))) (el:K.lookup a=some ⟨oc,od,.func (PySem.W.fnOf f f (Gq st) (Da st) (Ba st) .none kV dc pm an cd ct),sl⟩) (ec:PySem.W.codeIn K cd f=true) (ek:PySem.W.keepIn K (.ref a)=true)
  (hb:∀(kV dc pm:Value) (an:Option Addr) (cd ct:Value) (us:List Value),us.length=ps.length->bindArgs (PySem.W.fnOf f f (Gq st) (Da st) (Ba st) .none kV dc pm an cd ct) ⟨us,[]⟩=pure (ps.zip us)) (hc:chk fn st N ps=true):Lk K mg f fn st N ps:=
 ⟨⟨a,_,PySem.W.mg_of X G ea,Qcy el ec ek,hb kV dc pm an cd ct⟩,hc⟩
theorem Qjd{α:Type}{P:List α->Prop}(h:∀a,P [a]):∀us:List α,us.length=1->P us
 |[a],_=>h a
theorem Qje{α:Type}{P:List α->Prop}(h:∀a b,P [a,b]):∀us:List α,us.length=2->P us
 |[a,b],_=>h a b
theorem Qjf{α:Type}{P:List α->Prop}(h:∀a b c,P [a,b,c]):∀us:List α,us.length=3->P us
 |[a,b,c],_=>h a b c
theorem bind1{f:Str}{ar:Arguments}{bd:List Stmt}{sc:Scope}{ps:List Str}(hp:ps.length=1)(h:∀(kV dc pm:Value) (an:Option Addr) (cd ct:Value) (a:Value),bindArgs (PySem.W.fnOf f f ar bd sc .none kV dc pm an cd ct) ⟨[a],[]⟩=pure (ps.zip [a])):∀(kV dc pm:Value) (an:Option Addr) (cd ct:Value) (us:List Value),us.length=ps.length->bindArgs (PySem.W.fnOf f f ar bd sc .none kV dc pm an cd ct) ⟨us,[]⟩=pure (ps.zip us):=λkV dc pm an cd ct us hl=>by
 rw[hp] at hl;exact Qjd (P:=λus=>bindArgs (PySem.W.fnOf f f ar bd sc .none kV dc pm an cd ct) ⟨us,[]⟩=pure (ps.zip us)) (h kV dc pm an cd ct) us hl
theorem bind2{f:Str}{ar:Arguments}{bd:List Stmt}{sc:Scope}{ps:List Str}(hp:ps.length=2)(h:∀(kV dc pm:Value) (an:Option Addr) (cd ct:Value) (a b:Value),bindArgs (PySem.W.fnOf f f ar bd sc .none kV dc pm an cd ct) ⟨[a,b],[]⟩=pure (ps.zip [a,b])):∀(kV dc pm:Value) (an:Option Addr) (cd ct:Value) (us:List Value),us.length=ps.length->bindArgs (PySem.W.fnOf f f ar bd sc .none kV dc pm an cd ct) ⟨us,[]⟩=pure (ps.zip us):=λkV dc pm an cd ct us hl=>by
 rw[hp] at hl;exact Qje (P:=λus=>bindArgs (PySem.W.fnOf f f ar bd sc .none kV dc pm an cd ct) ⟨us,[]⟩=pure (ps.zip us)) (h kV dc pm an cd ct) us hl
theorem bind3{f:Str}{ar:Arguments}{bd:List Stmt}{sc:Scope}{ps:List Str}(hp:ps.length=3)(h:∀(kV dc pm:Value) (an:Option Addr) (cd ct:Value) (a b c:Value),bindArgs (PySem.W.fnOf f f ar bd sc .none kV dc pm an cd ct) ⟨[a,b,c],[]⟩=pure (ps.zip [a,b,c])):∀(kV dc pm:Value) (an:Option Addr) (cd ct:Value) (us:List Value),us.length=ps.length->bindArgs (PySem.W.fnOf f f ar bd sc .none kV dc pm an cd ct) ⟨us,[]⟩=pure (ps.zip us):=λkV dc pm an cd ct us hl=>by
 rw[hp] at hl;exact Qjf (P:=λus=>bindArgs (PySem.W.fnOf f f ar bd sc .none kV dc pm an cd ct) ⟨us,[]⟩=pure (ps.zip us)) (h kV dc pm an cd ct) us hl
def Lks(K:Frag)(mg:Str->Option Value)(T:Tab):Prop:=∀f fn,T.lookup f=some fn->∃st N ps,Lk K mg f fn st N ps
theorem lk_nil{K:Frag}{mg:Str->Option Value}:Lks K mg []:=λf fn e=>by cases e
theorem lk_cons{K:Frag}{mg:Str->Option Value}{f:Str}{fn:Fn}{st:Stmt}{N ps:List Str}{T:Tab}(h:Lk K mg f fn st N ps)(t:Lks K mg T):Lks K mg ((f,fn)::T):=λg gn e=>by
 rw[List.lookup_cons] at e
 cases q:g==f with
 |true=>
  rw[q] at e;cases e;have:=beq_iff_eq.mp q;subst this;exact⟨st,N,ps,h⟩
 |false=>
  rw[q] at e;exact t g gn e
theorem Qen{K:Frag}{base:Heap}{mg:Str->Option Value}{x:Str}{C:Addr}{bmB:List Value}{newId:String}(X:K.In base)(G:base.Ns mainGlobals mg)(e:PySem.W.nsIn K mainGlobals x=some (some (.ref C)))(q:PySem.W.excIn K C bmB newId=true):OwnCls x C bmB newId mg base:=by
 refine⟨PySem.W.mg_of X G e,?_⟩;unfold PySem.W.excIn at q;split at q
 ·rename_i dd cd sl ho
  split at q
  ·rename_i C' bm k0 k1 k2 k3 n k5 hm hs
   simp only[Bool.and_eq_true,beq_iff_eq,Bool.not_eq_true'] at q;obtain⟨⟨⟨⟨⟨rfl,rfl⟩,hdel⟩,ht⟩,hok⟩,hni⟩:=q;obtain⟨nm,bs,mro,ns,qn,hd,sn,sub,ab,col,del⟩:=cd;dsimp only at hm hdel hok hni;subst hm hdel;have hsl:sl=#[k0,k1,k2,k3,some (.builtin n),k5]:=by
    obtain⟨l⟩:=sl;simp only at hs;rw[hs]
   subst hsl;exact⟨bm,ns,nm,qn,bs,hd,sn,sub,ab,col,dd,k0,k1,k2,k3,k5,_,X _ _ ho,.of_isNs (PySem.W.isNs_of_in X hok),PySem.W.nsMap_none_of_in X hok hni,PySem.W.tail_of_in X ht⟩
  ·cases q
 ·cases q
def Qhl(K:Frag)(C fI:Addr):Bool:=match K.lookup C with
 | some ⟨.type "type",_,.cls cd,sl⟩=>(match cd.mro,sl.toList with
  |.ref C'::r,[_,_,_,_,some (.builtin n),_]=>(C'==C&&n == "ValueError.__new__" && cd.hasDel==false)&&(PySem.W.tailIn K veM r&&PySem.W.nsOkIn K cd.ns&&PySem.W.nsIn K cd.ns "__init__" == some (some (.ref fI)))
  | _,_=>false)
 |_=>false
theorem Qhm{K:Frag}{h:Heap}{N:Addr}{m:Str->Option Value}{n:Str}{v:Value}(X:K.In h)(G:h.Ns N m)(e:PySem.W.nsIn K N n=some (some v)):m n=some v:=by
 obtain⟨o,es,ep,ho,hd,_,hf⟩:=G;unfold PySem.W.nsIn at e;split at e
 ·rename_i q
  have z:=X _ _ q;rw[ho] at z;cases z;cases hd;split at e
  ·rename_i w he
   cases e;exact(hf n).symm.trans (by unfold nsFind findBy;rw[<-Array.find?_toList,he];rfl)
  ·split at e<;>cases e
 ·cases e
def Qhn(K:Frag)(C:Addr):Bool:=PySem.W.exmOne K (.ref C) (.ref C)==some true
theorem oi_mk{K:Frag}{mg:Str->Option Value}{x:Str}{C fI:Addr}{od an:Option Addr}{osl:Array (Option Value)}{fd:FuncData}{name qual:Str}{params:Arguments}{p1 p2 p3 p4:Pos}{scope:Scope}{dV kV doc pm cdv ct:Value}(e1:PySem.W.nsIn K mainGlobals x=some (some (.ref C)))(e4:PySem.W.findIn K (.ref C) "__init__" = some (some (.ref fI)))(q:Qhl K C fI=true)
  (e5:K.lookup fI=some ⟨.type "function",od,.func fd,osl⟩) (e6:fd=PySem.W.fnOf name qual params (Lu p1 p2 p3 p4) scope dV kV doc pm an cdv ct) (e7:PySem.W.codeIn K cdv qual=true) (e8:Nh ["self","at"] ["self","at"] scope=true)
  (e9:∀a b:Value,bindArgs fd ⟨[a,b],[]⟩=pure ([("self" : Str),"at"].zip [a,b]))
  (s1:PySem.W.findIn K (.ref C) "__setattr__" = some (some (.builtin "object.__setattr__"))) (s2:Jw K C=true) (s3:PySem.W.takerIn K C "at" = some none) (s4:PySem.W.hasDictIn K C=true):∀base:Heap,K.In base->base.Ns mainGlobals mg->OwnI x C K mg base:=λbase X G=>by
 subst e6;refine⟨PySem.W.mg_of X G e1,?_,s1,s2,s3,s4⟩;unfold Qhl at q;split at q
 ·rename_i dd cd sl ho
  split at q
  ·rename_i C' bm k0 k1 k2 k3 n k5 hm hs
   simp only[Bool.and_eq_true,beq_iff_eq] at q;obtain⟨⟨⟨rfl,rfl⟩,hdel⟩,⟨ht,hok⟩,hni⟩:=q;obtain⟨nm,bs,mro,ns,qn,hd,sn,sub,ab,col,del⟩:=cd;dsimp only at hm hdel hok hni;subst hm hdel;have hsl:sl=#[k0,k1,k2,k3,some (.builtin "ValueError.__new__"),k5]:=by
    obtain⟨l⟩:=sl;simp only at hs;rw[hs]
   subst hsl;have hN:base.Ns ns (base.nsMap ns):=.of_isNs (PySem.W.isNs_of_in X hok);exact⟨bm,ns,nm,qn,bs,hd,sn,sub,ab,col,dd,k0,k1,k2,k3,k5,_,fI,X _ _ ho,hN,Qhm X hN hni,PySem.W.tail_of_in X ht,od,osl,name,qual,params,scope,dV,kV,doc,pm,cdv,ct,an,p1,p2,p3,p4,e5,e7,Kh e8,e9⟩
  ·cases q
 ·cases q
structure XC1(K:Frag)(mg:Str->Option Value)(c:Str)(C:Addr):Prop where
 ex:∃CF,mg "FairError" = some (.ref CF)/\PySem.W.exmOne K (.ref C) (.ref CF)=some true
 sv:PySem.W.subIn K (.ref C) (.type "ValueError")=some true
 ve:mg "ValueError" = none
 cl:ClX K C
 pr:∀k∈Tl,∃Ck,mg k=some (.ref Ck)/\PySem.W.kitOne K (.ref C) (.ref Ck)=some (k==c)
theorem xp_nil{P:Str->Prop}:∀k∈([]:List Str),P k:=λ_ z=>nomatch z
theorem xp_cons{P:Str->Prop}{k:Str}{r:List Str}(h:P k)(t:∀k∈r,P k):∀y∈k::r,P y:=λy hy=>by
 rcases List.mem_cons.mp hy with rfl|hy
 ·exact h
 ·exact t y hy
theorem xp_self{K:Frag}{h:Heap}{mg:Str->Option Value}{c:Str}{C:Addr}(X:K.In h)(G:h.Ns mainGlobals mg)(e:PySem.W.nsIn K mainGlobals c=some (some (.ref C))):∃Ck,mg c=some (.ref Ck)/\PySem.W.kitOne K (.ref C) (.ref Ck)=some (c==c):=
 ⟨C,PySem.W.mg_of X G e,by rw[beq_self_eq_true];exact Ve⟩
theorem xp_not{K:Frag}{h:Heap}{mg:Str->Option Value}{c k:Str}{C Ck:Addr}(X:K.In h)(G:h.Ns mainGlobals mg)(ne:(k==c)=false)(e:PySem.W.nsIn K mainGlobals k=some (some (.ref Ck)))(nr:(Value.ref C==Value.ref Ck)=false)(h1:PySem.W.hasDictIn K Ck=true)(h2:PySem.W.typeIn K (.ref Ck)=some (.type "type"))(h3:PySem.W.subIn K (.ref C) (.ref Ck)=some false):∃Ck,mg k=some (.ref Ck)/\PySem.W.kitOne K (.ref C) (.ref Ck)=some (k==c):=
 ⟨Ck,PySem.W.mg_of X G e,by rw[ne];exact Yt nr h1 h2 h3⟩
theorem xc1_mk{K:Frag}{h:Heap}{mg:Str->Option Value}{c:Str}{C CF:Addr}(X:K.In h)(G:h.Ns mainGlobals mg)(e3:PySem.W.nsIn K mainGlobals "FairError" = some (some (.ref CF)))(e4:PySem.W.exmOne K (.ref C) (.ref CF)=some true)(e5:PySem.W.subIn K (.ref C) (.type "ValueError")=some true)(e6:PySem.W.nsIn K mainGlobals "ValueError" = some none)
  (ga:PySem.W.findIn K (.ref C) "__getattribute__" = some (some (.builtin "BaseException.__getattribute__"))) (hk:PySem.W.findIn K (.ref C) "__getattr__" = some none) (mb:PySem.W.mroIn K C (.type "BaseException")=some true) (hd:PySem.W.hasDictIn K C=true) (ha:PySem.W.findIn K (.ref C) "__class__" = some (some (.builtin "object.__class__")))
  (hn:PySem.W.specialIn K (.builtin "object.__class__") "__get__" = some (some (.builtin "getset_descriptor.__get__"))) (ht:PySem.W.takesIn K (.builtin "object.__class__")=some true) (mo:PySem.W.mroIn K C (.type "object")=some true) (na:PySem.W.findIn K (.ref C) "at" = some none)
  (pr:∀k∈Tl,∃Ck,mg k=some (.ref Ck)/\PySem.W.kitOne K (.ref C) (.ref Ck)=some (k==c)):XC1 K mg c C:=
 ⟨⟨CF,PySem.W.mg_of X G e3,e4⟩,e5,PySem.W.mg_none_of X G e6,{ ga:=ga,hk:=hk,mb:=mb,hd:=hd,ha:=ha,hn:=hn,htk:=ht,mo:=mo,na:=na },pr⟩
theorem xc_mk{K:Frag}{mg:Str->Option Value}{c:Str}{C:Addr}(ne:(c==("BadFair" : Str))=false)(e1:PySem.W.nsIn K mainGlobals c=some (some (.ref C)))(e2:PySem.W.excIn K C [.type "ValueError",.type "Exception",.type "BaseException",.type "object"] "ValueError.__new__" = true)(e9:Qhn K C=true)(Z:XC1 K mg c C) :
  ∀base:Heap,K.In base->base.Ns mainGlobals mg->XCok K mg base c:=λ_ X G=>by
 obtain⟨CF,z1,z2⟩:=Z.ex;exact⟨⟨C,CF,PySem.W.mg_of X G e1,z1,⟨λ_=>Qen X G e1 e2,λz=>absurd z (beq_eq_false_iff_ne.mp ne)⟩,z2,Z.sv,Z.ve,Z.cl,Z.pr⟩,λC' q=>by
  cases q.symm.trans (PySem.W.mg_of X G e1);exact beq_iff_eq.mp e9⟩
theorem xc_mkI{K:Frag}{mg:Str->Option Value}{C:Addr}(e1:PySem.W.nsIn K mainGlobals "BadFair" = some (some (.ref C)))(e2:∀base:Heap,K.In base->base.Ns mainGlobals mg->OwnI "BadFair" C K mg base)(e3:Qhn K C=true)(Z:XC1 K mg "BadFair" C) :
  ∀base:Heap,K.In base->base.Ns mainGlobals mg->XCok K mg base "BadFair":=λ_ X G=>by
 obtain⟨CF,z1,z2⟩:=Z.ex;exact⟨⟨C,CF,PySem.W.mg_of X G e1,z1,⟨λz=>absurd rfl z,λ_=>⟨e2 _ X G,beq_iff_eq.mp e3⟩⟩,z2,Z.sv,Z.ve,Z.cl,Z.pr⟩,λC' q=>by
  cases q.symm.trans (PySem.W.mg_of X G e1);exact beq_iff_eq.mp e3⟩
def XCs(K:Frag)(mg:Str->Option Value)(T:Tab):Prop:=∀base:Heap,K.In base->base.Ns mainGlobals mg->∀c∈xnT T,XCok K mg base c
theorem xcs_of{K:Frag}{mg:Str->Option Value}{T:Tab}(l:List Str)(h:(xnT T).all (λc=>l.contains c)=true)(t:∀c∈l,∀base:Heap,K.In base->base.Ns mainGlobals mg->XCok K mg base c):XCs K mg T:=λbase X G c hc=>
 t c (by simpa using List.all_eq_true.mp h c hc) base X G
theorem xc_nil{K:Frag}{mg:Str->Option Value}:∀c∈([]:List Str),∀base:Heap,K.In base->base.Ns mainGlobals mg->XCok K mg base c:=λ_ z=>nomatch z
theorem xc_cons{K:Frag}{mg:Str->Option Value}{c:Str}{r:List Str}(h:∀base:Heap,K.In base->base.Ns mainGlobals mg->XCok K mg base c)(t:∀c∈r,∀base:Heap,K.In base->base.Ns mainGlobals mg->XCok K mg base c) :
  ∀d∈c::r,∀base:Heap,K.In base->base.Ns mainGlobals mg->XCok K mg base d:=λd hd=>by
 rcases List.mem_cons.mp hd with rfl|hd
 ·exact h
 ·exact t d hd
def CSs(K:Frag)(mg:Str->Option Value):Prop:=∀p∈K0,CstOk K mg p.1 p.2
theorem cs_nil{K:Frag}{mg:Str->Option Value}:∀p∈([]:List (Str×D)),CstOk K mg p.1 p.2:=λ_ z=>nomatch z
theorem cs_cons{K:Frag}{mg:Str->Option Value}{p:Str×D}{r:List (Str×D)}(h:CstOk K mg p.1 p.2)(t:∀p∈r,CstOk K mg p.1 p.2):∀q∈p::r,CstOk K mg q.1 q.2:=λq hq=>by
 rcases List.mem_cons.mp hq with rfl|hq
 ·exact h
 ·exact t q hq
theorem cs_int{K:Frag}{h:Heap}{mg:Str->Option Value}{x:Str}{i:Int}{t:Tok}(X:K.In h)(G:h.Ns mainGlobals mg)(e:PySem.W.nsIn K mainGlobals x=some (some (.int i t))):CstOk K mg x (.int i):=
 ⟨_,.int i,PySem.W.mg_of X G e,⟨t,rfl⟩,λ_=>⟨rfl,rfl⟩⟩
def Sc:List Value->List Str->Bool
 |[],[]=>true
 |.str x _::r,z::zs=>x==z&&Sc r zs
 |_,_=>false
theorem Ki:∀{us:List Value} {zs:List Str},Sc us zs=true->Ab (zs.map V.str) us
 |[],[],_=>.nil
 |.str x t::r,z::zs,h=>by
  have h':(x==z&&Sc r zs)=true:=h;rw[Bool.and_eq_true,beq_iff_eq] at h';obtain⟨rfl,h'⟩:=h';exact .cons ⟨t,rfl⟩ (Ki h')
theorem M8{K:Frag}{H:Hp}:∀zs:List Str,A5 K H (zs.map D.str) (zs.map V.str) []
 |[]=>⟨rfl,rfl⟩
 |z::zs=>⟨_,_,[],[],rfl,rfl,⟨rfl,rfl⟩,M8 zs⟩
theorem cs_tup{K:Frag}{h:Heap}{mg:Str->Option Value}{x:Str}{a:Addr}{its:Array Value}{n:Nat}{sl:Array (Option Value)}{ds:List D}(zs:List Str)(X:K.In h)(G:h.Ns mainGlobals mg)(e:PySem.W.nsIn K mainGlobals x=some (some (.ref a)))(el:K.lookup a=some ⟨.type "tuple",none,.seq its n,sl⟩)(hs:Sc its.toList zs=true)(hz:decide (its.size<=100)=true)(hd:ds=zs.map .str):CstOk K mg x (.tup ds):=
 ⟨_,.ref a,PySem.W.mg_of X G e,rfl,λ_=>by
  subst hd;exact⟨a,zs.map V.str,rfl,.inr ⟨_,its,n,el,rfl,rfl,Nat.le_trans (of_decide_eq_true hz) (by rw[sizeLine_eq];decide),Ki hs,rfl⟩,M8 zs⟩⟩
def spO(fr:Nat->Bool)(K:Frag)(C:Str->List D->R D)(f:Str):Sp:=λvs H Q _=>∃ds F d,A5 K H ds vs F/\C f ds=.ok d /\
 ∀v H' G,A6 H H'->Rep K H' d v G->(∀a∈G,H a=none\/a∈F)->(∀k,fr k=true->ShP k H d G)->Q v H'
theorem Qho{P:Program}{w:World}{l:List PySem.Env}{H:Hp}{s s':Shared}{e:Value}(h:CXx P w l H s (λ_ _ _=>False) e s'):False:=by
 obtain⟨_,_,_,_,_,_,_,_,_,_,_,_,_,z⟩:=h;exact z
def X3(mg:Str->Option Value):Prop:=∀x∈Qm,mg x=none
theorem X4{T:Tab}(h:T.all (λp=>E8 T p.2.body)=true):∀f fn,T.lookup f=some fn->E8 T fn.body=true:=λf fn e=>List.all_eq_true.mp h _ (PySem.mem_of_lookup e)
theorem walk{l:PySem.W.OpenLaw}{q:Program}{loose:List Str}{XP:(Str->Option Value)->Heap->Prop}{YP:World->Heap->Prop}{d:DefRec}{K:Params->Frag}(T:Tab){fnL:Fn}{stL:Stmt}{NL:List Str}{x:Str}(hn:l.most=some 63)(hdf:d.params.defaults=[])(hd:d.name=("law" : Str))
  (hY:∀(w:World) (h:Heap),YP w h->(K w.params).In h) (e:T.lookup ("law" : Str)=some fnL)
  (noK:T.all (λp=>!At p.2.body)=true) (okT:T.all (λp=>E8 T p.2.body)=true)
  (hrun:∀ns:List Int,ns.length<=63->run T 40 "law" [.lst (ns.map .int)]=.ok (.bl true))
  (F:∀(w:World) (mg:Str->Option Value) (h:Heap),(K w.params).In h->h.Ns mainGlobals mg->Lks (K w.params) mg T/\Lk (K w.params) mg "law" fnL stL NL [x]/\X3 mg/\XCs (K w.params) mg T/\CSs (K w.params) mg) :
  PySem.W.WalkO q loose XP YP l.row.toRowW d [] (λf vs=>PySem.call f vs):=by
 refine L2.walk_of (n:=63) (k:=84) (x:=x) (CX:=λw=>CXx l.prog w) (sp:=λw=>spO (Cv fnL.body) (K w.params) (run T 40) "law") hn (by decide) hdf ⟨rfl,by decide,by decide⟩ hY (λw mg fa h KX G hmg=>?_) (λw H a ns hl hO hS=>?_) λ_ _ _ _ _ z=>Qho z
 ·obtain⟨L,⟨⟨a,fd,m,Fn',b⟩,ck⟩,bn,xc,cs⟩:=F w mg h KX G
  rw[hd,m] at hmg;cases hmg;refine⟨fd,λs u=>.of_eq (b [u] rfl),λbase KX' G'=>?_⟩
  unfold chk at ck;simp only[Bool.and_eq_true,beq_iff_eq] at ck;obtain⟨⟨⟨c1,c2⟩,c3⟩,c4⟩:=ck;have LN:∀f fn,T.lookup f=some fn->∃st N ps,Lnk (K w.params) mg f fn st N ps:=λf fn e=>by
   obtain⟨st,N,ps,z⟩:=L f fn e;exact⟨st,N,ps,z.lnk⟩
  have no:∀f fn,T.lookup f=some fn->At fn.body=true->False:=λf fn e h=>by
   have:=List.all_eq_true.mp noK _ (PySem.mem_of_lookup e);rw[h] at this;cases this
  refine(S7 (n:=39) (λX M=>Pb) bn (xc base KX' G') cs (P3 (λn X M=>Pb) bn (xc base KX' G') cs (λf fn _ _ e _ _ h=>(no f fn e h).elim) (X4 okT) LN 39) m (λh=>(no _ _ e h).elim) (X4 okT _ _ e) e Fn' (Kh c1) c2 c3 c4).imp λvs H Q E h=>⟨λf fn _ _ _ _ _ _ _ e h=>(no f fn e h).elim,.inl h⟩
 ·refine⟨[.lst (ns.map .int)],[],.bl true,?_,hrun ns hl,λv H' G s r c _=>?_⟩
  ·refine⟨_,_,[],[],rfl,rfl,⟨a,ns.map V.int,[],rfl,Ic ns,.inr ⟨?_,rfl⟩⟩,rfl,rfl⟩
   rcases hS with(hS|hS)|hS
   ·rcases hO a with z|⟨o,xs,z⟩
    ·rw[z] at hS;cases hS
    ·rw[z] at hS;cases hS
   ·exact .inl hS
   ·exact .inr hS
  ·obtain⟨rfl,_⟩:=r
   rfl
def stAt(P:Program)(j:Nat):Stmt:=P.main.body.getD j (.Pass ⟨0,0,0,0⟩)
end Lf
namespace Lf
theorem bn_nil{mg:PySem.Str->Option PySem.Value}:∀x∈([]:List PySem.Str),mg x=none:=λ_ z=>nomatch z
theorem bn_cons{mg:PySem.Str->Option PySem.Value}{x:PySem.Str}{r:List PySem.Str}(h:mg x=none)(t:∀y∈r,mg y=none):∀y∈x::r,mg y=none:=λy hy=>by
 rcases List.mem_cons.mp hy with rfl|hy
 ·exact h
 ·exact t y hy
end Lf
--t16
namespace Lf
abbrev Pw:=PySem.Challenge.pw_lodgefair_k16_spoilt_texts
open PySem (Str)
def B6:Fn:=⟨2,2,(.cons (.ret (.and (.ins .int (.var 0)) (.and (.not (.ins .bool (.var 0))) (.chn .le .lt (.int 0) (.var 0) (.var 1))))) .nil)⟩
def Ec:Fn:=⟨2,2,(.cons (.ife (.op .lt (.var 1) (.b1 .len (.var 0))) (.cons (.ret (.idx (.var 0) (.var 1))) .nil) .nil) (.cons (.ret (.int 0)) .nil))⟩
def Gf:Fn:=⟨3,3,(.cons (.ret (.op .mod (.op .mod (.op .mul (.var 0) (.int 48271)) (.var 1)) (.var 2))) .nil)⟩
def Fa:Fn:=⟨1,1,(.cons (.ret (.op .eq (.call "_law_mix" (.cons (.op .add (.call "_law_cell" (.cons (.var 0) (.cons (.int 0) .nil))) (.op .mul (.int 7) (.b1 .len (.var 0)))) (.cons (.int 9871) (.cons (.int 8) .nil)))) (.int 3))) .nil)⟩
def Fu:Fn:=⟨3,5,(.cons (.asg 3 (.comp false (.tup (.cons (.call "_law_mix" (.cons (.op .add (.var 0) (.op .mul (.op .mul (.int 29) (.var 5)) (.var 5))) (.cons (.int 9931) (.cons (.int 997) .nil)))) (.cons (.var 5) .nil))) (.rng (.var 1)) .nil)) (.cons (.asg 4 (.comp false (.idx (.var 5) (.int 1)) (.seq (.b1 .sorted (.var 3))) .nil)) (.cons (.ife (.var 2) (.cons (.ret (.b1 .tuple (.var 4))) .nil) .nil) (.cons (.ret (.b1 .tuple (.slc (.var 4) .nil (.cons (.call "_law_mix" (.cons (.var 0) (.cons (.int 9941) (.cons (.op .add (.var 1) (.int 1)) .nil)))) .nil)))) .nil))))⟩
def C7:Fn:=⟨2,11,(.cons (.asg 2 (.call "_law_cell" (.cons (.var 0) (.cons (.var 1) .nil)))) (.cons (.asg 3 (.op .add (.int 1) (.call "_law_mix" (.cons (.var 2) (.cons (.int 9973) (.cons (.int 4) .nil)))))) (.cons (.asg 4 (.op .add (.int 1) (.call "_law_mix" (.cons (.var 2) (.cons (.int 9967) (.cons (.int 5) .nil)))))) (.cons (.ife (.call "_law_large" (.cons (.var 0) .nil)) (.cons (.asg 3 (.op .add (.int 1) (.call "_law_mix" (.cons (.var 2) (.cons (.int 9973) (.cons (.int 5) .nil)))))) (.cons (.asg 4 (.op .add (.int 1) (.call "_law_mix" (.cons (.var 2) (.cons (.int 9967) (.cons (.int 3) .nil)))))) .nil)) .nil) (.cons (.ife (.op .gt (.b1 .len (.var 0)) (.int 63)) (.cons (.asg 3 (.op .add (.int 1) (.call "_law_mix" (.cons (.var 2) (.cons (.int 9973) (.cons (.int 5) .nil)))))) (.cons (.asg 4 (.op .add (.int 1) (.call "_law_mix" (.cons (.var 2) (.cons (.int 9967) (.cons (.int 3) .nil)))))) .nil)) .nil) (.cons (.asg 5 (.op .eq (.call "_law_mix" (.cons (.var 2) (.cons (.int 9949) (.cons (.int 2) .nil)))) (.int 0))) (.cons (.asg 6 (.lst .nil)) (.cons (.for1 7 (.rng (.var 3)) (.cons (.app 6 (.call "_law_some" (.cons (.op .add (.call "_law_cell" (.cons (.var 0) (.cons (.op .add (.op .add (.var 1) (.int 1)) (.var 7)) .nil))) (.op .mul (.op .mul (.int 17) (.var 7)) (.var 7))) (.cons (.var 4) (.cons (.var 5) .nil))))) .nil)) (.cons (.asg 8 (.lst .nil)) (.cons (.for1 7 (.rng (.var 4)) (.cons (.asg 9 (.op .add (.call "_law_cell" (.cons (.var 0) (.cons (.op .add (.op .add (.var 1) (.int 6)) (.var 7)) .nil))) (.op .mul (.op .mul (.int 13) (.var 7)) (.var 7)))) (.cons (.asg 10 (.op .add (.op .add (.call "_law_mix" (.cons (.var 9) (.cons (.int 9923) (.cons (.int 3) .nil)))) (.b1 .int (.var 5))) (.op .mul (.int 2) (.b1 .int (.op .eq (.call "_law_mix" (.cons (.var 9) (.cons (.int 9907) (.cons (.int 5) .nil)))) (.int 1)))))) (.cons (.app 8 (.tup (.cons (.var 10) (.cons (.call "_law_some" (.cons (.var 9) (.cons (.var 3) (.cons (.var 5) .nil)))) .nil)))) .nil)))) (.cons (.ret (.tup (.cons (.b1 .tuple (.var 6)) (.cons (.b1 .tuple (.var 8)) .nil)))) .nil)))))))))))⟩
def Ae:Fn:=⟨2,4,(.cons (.ife (.not (.ins .tuple (.var 0))) (.cons (.ret (.bl false)) .nil) .nil) (.cons (.for2 2 3 (.enu (.var 0)) (.cons (.ife (.or (.not (.call "is_number_below" (.cons (.var 3) (.cons (.var 1) .nil)))) (.op .isin (.var 3) (.slc (.var 0) .nil (.cons (.var 2) .nil)))) (.cons (.ret (.bl false)) .nil) .nil) .nil)) (.cons (.ret (.bl true)) .nil)))⟩
def Cp:Fn:=⟨1,1,(.cons (.ret (.and (.ins .tuple (.var 0)) (.chn .le .le (.int 1) (.b1 .len (.var 0)) (.cst 0)))) .nil)⟩
def B7:Fn:=⟨1,1,(.cons (.ret (.and (.ins .tuple (.var 0)) (.and (.op .eq (.b1 .len (.var 0)) (.int 2)) (.and (.call "is_side" (.cons (.idx (.var 0) (.int 0)) .nil)) (.call "is_side" (.cons (.idx (.var 0) (.int 1)) .nil)))))) .nil)⟩
def C0:Fn:=⟨2,2,(.cons (.ife (.or (.not (.ins .tuple (.var 0))) (.op .ne (.b1 .len (.var 0)) (.int 2))) (.cons (.ret (.bl false)) .nil) .nil) (.cons (.ret (.and (.call "is_number_below" (.cons (.idx (.var 0) (.int 0)) (.cons (.op .add (.cst 1) (.int 1)) .nil))) (.call "are_unlike_numbers_below" (.cons (.idx (.var 0) (.int 1)) (.cons (.var 1) .nil))))) .nil))⟩
def Bi:Fn:=⟨1,7,(.cons (.ife (.not (.call "has_two_sides" (.cons (.var 0) .nil))) (.cons (.rsI "BadFair" .non) .nil) .nil) (.cons (.asg 1 (.idx (.var 0) (.int 0))) (.cons (.asg 2 (.idx (.var 0) (.int 1))) (.cons (.for2 3 4 (.enu (.var 1)) (.cons (.ife (.not (.call "are_unlike_numbers_below" (.cons (.var 4) (.cons (.b1 .len (.var 2)) .nil)))) (.cons (.rsI "BadFair" (.tup (.cons (.str "guest") (.cons (.var 3) .nil)))) .nil) .nil) .nil)) (.cons (.for2 5 6 (.enu (.var 2)) (.cons (.ife (.not (.call "is_house" (.cons (.var 6) (.cons (.b1 .len (.var 1)) .nil)))) (.cons (.rsI "BadFair" (.tup (.cons (.str "house") (.cons (.var 5) .nil)))) .nil) .nil) .nil)) (.cons (.ret (.var 0)) .nil))))))⟩
def Bv:Fn:=⟨2,2,(.cons (.ret (.op .add (.jn " " (.op .add (.lst (.cons (.var 0) .nil)) (.comp false (.b1 .str (.var 2)) (.seq (.var 1)) .nil))) (.str "\n"))) .nil)⟩
def Cr:Fn:=⟨1,3,(.cons (.asg 1 (.comp false (.call "line_of" (.cons (.str "guest") (.cons (.var 3) .nil))) (.seq (.idx (.var 0) (.int 0))) .nil)) (.cons (.asg 2 (.comp true (.call "line_of" (.cons (.str "house") (.cons (.op .add (.tup (.cons (.var 3) .nil)) (.var 4)) .nil))) (.seq (.idx (.var 0) (.int 1))) .nil)) (.cons (.ret (.jn "" (.op .add (.var 1) (.var 2)))) .nil)))⟩
def Bl:Fn:=⟨1,1,(.cons (.ret (.ife (.op .isin (.var 0) (.cst 2)) (.m1 .index (.cst 2) (.var 0)) .non)) .nil)⟩
def B9:Fn:=⟨1,6,(.cons (.asg 1 (.lst .nil)) (.cons (.asg 2 (.lst .nil)) (.cons (.for1 3 (.seq (.spl (.var 0) 10)) (.cons (.asg 4 (.spl (.var 3) 32)) (.cons (.asg 5 (.b1 .tuple (.comp false (.call "number_of" (.cons (.var 6) .nil)) (.seq (.slc (.var 4) (.cons (.int 1) .nil) .nil)) .nil))) (.cons (.ife (.op .eq (.idx (.var 4) (.int 0)) (.str "guest")) (.cons (.app 1 (.var 5)) .nil) (.cons (.ife (.op .eq (.idx (.var 4) (.int 0)) (.str "house")) (.cons (.app 2 (.op .add (.slc (.var 5) .nil (.cons (.int 1) .nil)) (.tup (.cons (.slc (.var 5) (.cons (.int 1) .nil) .nil) .nil)))) .nil) .nil) .nil)) .nil)))) (.cons (.ret (.tup (.cons (.b1 .tuple (.var 1)) (.cons (.b1 .tuple (.var 2)) .nil)))) .nil))))⟩
def Qr:Fn:=⟨1,2,(.cons (.ife (.not (.ins .str (.var 0))) (.cons (.rse "BadText") .nil) .nil) (.cons (.tryN (.cons (.asg 1 (.call "checked" (.cons (.call "likely_fair" (.cons (.var 0) .nil)) .nil))) .nil) "BadFair" "BadText") (.cons (.ife (.op .ne (.call "shown" (.cons (.var 1) .nil)) (.var 0)) (.cons (.rse "BadText") .nil) .nil) (.cons (.ret (.var 1)) .nil))))⟩
def Fb:Fn:=⟨1,5,(.cons (.asg 1 (.str "")) (.cons (.for1 2 (.seq (.idx (.var 0) (.int 0))) (.cons (.asg 1 (.op .add (.op .add (.var 1) (.jn " " (.op .add (.lst (.cons (.str "guest") .nil)) (.comp false (.b1 .str (.var 5)) (.seq (.var 2)) .nil)))) (.str "\n"))) .nil)) (.cons (.for2 3 4 (.seq (.idx (.var 0) (.int 1))) (.cons (.asg 1 (.op .add (.op .add (.var 1) (.jn " " (.op .add (.lst (.cons (.str "house") (.cons (.b1 .str (.var 3)) .nil))) (.comp false (.b1 .str (.var 5)) (.seq (.var 4)) .nil)))) (.str "\n"))) .nil)) (.cons (.ret (.var 1)) .nil))))⟩
def Gg:Fn:=⟨1,1,(.cons (.tryB (.cons (.exp (.call "read" (.cons (.var 0) .nil))) .nil) "BadText") (.cons (.ret (.bl false)) .nil))⟩
def Gh:Fn:=⟨1,2,(.cons (.tryH (.cons (.exp (.call "read" (.cons (.var 0) .nil))) .nil) 1 "e" "FairError" ["BadText"] [.ret1 "ValueError"]) (.cons (.ret (.bl false)) .nil))⟩
def Hh:Fn:=⟨1,4,(.cons (.asg 1 (.lst .nil)) (.cons (.for1 2 (.seq (.slc (.spl (.var 0) 10) .nil (.cons (.int (-1)) .nil))) (.cons (.asg 3 (.spl (.var 2) 32)) (.cons (.ife (.comp false (.var 4) (.seq (.slc (.var 3) (.cons (.int 1) .nil) .nil)) (.cons (.or (.op .ne (.b1 .len (.var 4)) (.int 1)) (.op .notin (.var 4) (.str "012345"))) .nil)) (.cons (.ret .non) .nil) .nil) (.cons (.app 1 (.tup (.cons (.idx (.var 3) (.int 0)) (.cons (.b1 .tuple (.comp false (.b1 .int (.var 4)) (.seq (.slc (.var 3) (.cons (.int 1) .nil) .nil)) .nil)) .nil)))) .nil)))) (.cons (.ret (.var 1)) .nil)))⟩
def Np:Fn:=⟨1,7,(.cons (.asg 1 (.call "_law_rows" (.cons (.var 0) .nil))) (.cons (.ife (.or (.isn false (.var 1)) (.not (.endw (.var 0) 10))) (.cons (.ret .non) .nil) .nil) (.cons (.asg 2 (.comp false (.idx (.var 7) (.int 1)) (.seq (.var 1)) (.cons (.op .eq (.idx (.var 7) (.int 0)) (.str "guest")) .nil))) (.cons (.asg 3 (.comp false (.tup (.cons (.idx (.idx (.var 7) (.int 1)) (.int 0)) (.cons (.slc (.idx (.var 7) (.int 1)) (.cons (.int 1) .nil) .nil) .nil))) (.seq (.var 1)) (.cons (.and (.op .eq (.idx (.var 7) (.int 0)) (.str "house")) (.idx (.var 7) (.int 1))) .nil))) (.cons (.ife (.op .ne (.comp false (.idx (.var 7) (.int 0)) (.seq (.var 1)) .nil) (.op .add (.rep (.str "guest") (.b1 .len (.var 2))) (.rep (.str "house") (.b1 .len (.var 3))))) (.cons (.ret .non) .nil) .nil) (.cons (.ife (.or (.not (.chn .le .le (.int 1) (.b1 .len (.var 2)) (.int 5))) (.not (.chn .le .le (.int 1) (.b1 .len (.var 3)) (.int 5)))) (.cons (.ret .non) .nil) .nil) (.cons (.for1 4 (.seq (.var 2)) (.cons (.ife (.or (.op .ne (.lset (.var 4)) (.b1 .len (.var 4))) (.op .ge (.maxd (.var 4)) (.b1 .len (.var 3)))) (.cons (.ret .non) .nil) .nil) .nil)) (.cons (.for2 5 6 (.seq (.var 3)) (.cons (.ife (.or (.op .ne (.lset (.var 6)) (.b1 .len (.var 6))) (.op .ge (.maxd (.var 6)) (.b1 .len (.var 2)))) (.cons (.ret .non) .nil) .nil) .nil)) (.cons (.ret (.tup (.cons (.b1 .tuple (.var 2)) (.cons (.b1 .tuple (.var 3)) .nil)))) .nil)))))))))⟩
def Ed:Fn:=⟨2,7,(.cons (.asg 2 (.op .mod (.call "_law_cell" (.cons (.var 0) (.cons (.int 1) .nil))) (.b1 .len (.var 1)))) (.cons (.asg 3 (.op .mod (.call "_law_cell" (.cons (.var 0) (.cons (.int 0) .nil))) (.int 7))) (.cons (.asg 4 (.spl (.var 1) 10)) (.cons (.asg 5 (.op .mod (.call "_law_cell" (.cons (.var 0) (.cons (.int 1) .nil))) (.op .sub (.b1 .len (.var 4)) (.int 1)))) (.cons (.ife (.op .eq (.var 3) (.int 0)) (.cons (.ret (.op .add (.slc (.var 1) .nil (.cons (.var 2) .nil)) (.slc (.var 1) (.cons (.op .add (.var 2) (.int 1)) .nil) .nil))) .nil) .nil) (.cons (.ife (.op .eq (.var 3) (.int 1)) (.cons (.ret (.op .add (.slc (.var 1) .nil (.cons (.op .add (.var 2) (.int 1)) .nil)) (.slc (.var 1) (.cons (.var 2) .nil) .nil))) .nil) .nil) (.cons (.ife (.op .eq (.var 3) (.int 2)) (.cons (.ret (.op .add (.op .add (.slc (.var 1) .nil (.cons (.var 2) .nil)) (.idx (.str "0123 gh\n") (.op .mod (.call "_law_cell" (.cons (.var 0) (.cons (.int 2) .nil))) (.int 8)))) (.slc (.var 1) (.cons (.op .add (.var 2) (.int 1)) .nil) .nil))) .nil) .nil) (.cons (.ife (.op .eq (.var 3) (.int 3)) (.cons (.ret (.jn "\n" (.op .add (.slc (.var 4) .nil (.cons (.var 5) .nil)) (.slc (.var 4) (.cons (.op .add (.var 5) (.int 1)) .nil) .nil)))) .nil) .nil) (.cons (.ife (.op .eq (.var 3) (.int 4)) (.cons (.ret (.jn "\n" (.op .add (.slc (.var 4) .nil (.cons (.op .add (.var 5) (.int 1)) .nil)) (.slc (.var 4) (.cons (.var 5) .nil) .nil)))) .nil) .nil) (.cons (.ife (.op .eq (.var 3) (.int 5)) (.cons (.ret (.jn "\n" (.op .add (.revS (.slc (.var 4) .nil (.cons (.int (-1)) .nil))) (.lst (.cons (.str "") .nil))))) .nil) .nil) (.cons (.asg 6 (.lst (.cons (.str "") (.cons (.str "\n") (.cons (.slc (.var 1) .nil (.cons (.int (-1)) .nil)) (.cons (.op .add (.var 1) (.str "\n")) (.cons (.op .add (.str " ") (.var 1)) (.cons .non (.cons (.int 7) (.cons (.lst (.cons (.var 1) .nil)) (.cons (.str "guest\n") (.cons (.str "house 1\n") (.cons (.op .add (.var 1) (.str "guest\n")) .nil))))))))))))) (.cons (.ret (.idx (.var 6) (.op .mod (.call "_law_cell" (.cons (.var 0) (.cons (.int 1) .nil))) (.int 11)))) .nil))))))))))))⟩
def law_k16:Fn:=⟨1,3,(.cons (.asg 1 (.call "_law_bad" (.cons (.var 0) (.cons (.call "_law_shown" (.cons (.call "_law_fair" (.cons (.var 0) (.cons (.int 3) .nil))) .nil)) .nil)))) (.cons (.asg 2 .non) (.cons (.ife (.ins .str (.var 1)) (.cons (.asg 2 (.call "_law_due" (.cons (.var 1) .nil))) .nil) .nil) (.cons (.ife (.isn false (.var 2)) (.cons (.ret (.and (.call "_law_refused" (.cons (.var 1) .nil)) (.call "_law_by_base" (.cons (.var 1) .nil)))) .nil) .nil) (.cons (.ret (.op .eq (.call "read" (.cons (.var 1) .nil)) (.var 2))) .nil)))))⟩
def T_k16:Tab:=("is_number_below",B6)::("are_unlike_numbers_below",Ae)::("is_side",Cp)::("has_two_sides",B7)::("is_house",C0)::("checked",Bi)::("line_of",Bv)::("shown",Cr)::("number_of",Bl)::("likely_fair",B9)::("read",Qr)::("_law_cell",Ec)::("_law_mix",Gf)::("_law_large",Fa)::("_law_some",Fu)::("_law_fair",C7)::("_law_shown",Fb)::("_law_refused",Gg)::("_law_by_base",Gh)::("_law_rows",Hh)::("_law_due",Np)::("_law_bad",Ed)::("law",law_k16)::[]
end Lf
namespace Lp
open Lf
open PySem (Str)
section
variable{C:Str->List D->R D}(ρ:Env)
@[simp] theorem Pc(i:Nat):ev C (.var i) ρ=(match ρ[i]? with|some (some (d,_))=>.ok d|_=>.un):=(rfl)
@[simp] theorem Bp(i:Int):ev C (.int i) ρ=.ok (.int i):=(rfl)
@[simp] theorem Qk7(b:Bool):ev C (.bl b) ρ=.ok (.bl b):=(rfl)
@[simp] theorem Hi:ev C .non ρ=.ok .non:=(rfl)
@[simp] theorem Ce(o:Op)(a b:Ex):ev C (.op o a b) ρ=(ev C a ρ >>= λx=>ev C b ρ >>= λy=>op2 o x y):=(rfl)
@[simp] theorem Qhp(o o':Op)(a b c:Ex):ev C (.chn o o' a b c) ρ=(ev C a ρ >>= λx=>ev C b ρ >>= λy=>op2 o x y >>= λz=>
   match z with
   |.bl true=>ev C c ρ >>= λw=>op2 o' y w
   |.bl false=>.ok (.bl false)
   | _=>.un):=(rfl)
@[simp] theorem X5(neg:Bool)(a:Ex):ev C (.isn neg a) ρ=(ev C a ρ >>= λx=>.ok (.bl (Ds x != neg))):=(rfl)
@[simp] theorem Qhq(a b:Ex):ev C (.and a b) ρ=(ev C a ρ >>= λx=>match x with|.bl true=>ev C b ρ|.bl false=>.ok (.bl false)|_=>.un):=(rfl)
@[simp] theorem Qjy(a:Ex):ev C (.not a) ρ=(ev C a ρ >>= λx=>match x with|.bl b=>.ok (.bl (!b))|_=>.un):=(rfl)
@[simp] theorem Bs(f:Str)(as:Exs):ev C (.call f as) ρ=(evs C as ρ >>= λxs=>C f xs):=(rfl)
@[simp] theorem Gi(f:B1)(a:Ex):ev C (.b1 f a) ρ=(ev C a ρ >>= λx=>Er f x):=(rfl)
@[simp] theorem Sd(t:Ty)(a:Ex):ev C (.ins t a) ρ=(ev C a ρ >>= λx=>.ok (.bl (D0 t x))):=(rfl)
@[simp] theorem M9(a b:Ex):ev C (.idx a b) ρ=(ev C a ρ >>= λx=>ev C b ρ >>= λy=>Tm x y):=(rfl)
@[simp] theorem Kj(a:Ex)(lo hi:Exs):ev C (.slc a lo hi) ρ=(ev C a ρ >>= λx=>evs C lo ρ >>= λl=>bound l >>= λl=>evs C hi ρ >>= λh=>bound h >>= λh=>Oe l h x):=(rfl)
@[simp] theorem Qk8(m:M1)(o a:Ex):ev C (.m1 m o a) ρ=(ev C o ρ >>= λx=>ev C a ρ >>= λy=>Gy m x y):=(rfl)
@[simp] theorem Qhr(as:Exs):ev C (.tup as) ρ=(evs C as ρ >>= λxs=>if Av xs.length then .ok (.tup xs) else .un):=(rfl)
@[simp] theorem Qbt(as:Exs):ev C (.lst as) ρ=(evs C as ρ >>= λxs=>if Av xs.length then .ok (.lst xs) else .un):=(rfl)
@[simp] theorem Qbu(a b:Ex):ev C (.rep a b) ρ=(ev C a ρ >>= λx=>ev C b ρ >>= λy=>Zb x y):=(rfl)
@[simp] theorem Qjz(c a b:Ex):ev C (.ife c a b) ρ=(tst C c ρ >>= λk=>if k then ev C a ρ else ev C b ρ):=(rfl)
@[simp] theorem Ai:evs C .nil ρ=.ok []:=(rfl)
@[simp] theorem Nq(a:Ex)(r:Exs):evs C (.cons a r) ρ=(ev C a ρ >>= λx=>evs C r ρ >>= λxs=>.ok (x::xs)):=(rfl)
@[simp] theorem Qhs(a b:Ex):tst C (.and a b) ρ=(tst C a ρ >>= λk=>if k then tst C b ρ else .ok false):=(rfl)
@[simp] theorem X6(a b:Ex):tst C (.or a b) ρ=(tst C a ρ >>= λk=>if k then .ok true else tst C b ρ):=(rfl)
@[simp] theorem Pd(a:Ex):tst C (.not a) ρ=(tst C a ρ >>= λk=>.ok (!k)):=(rfl)
@[simp] theorem Kk(o:Op)(a b:Ex):tst C (.op o a b) ρ=(ev C (.op o a b) ρ >>= Ci):=(rfl)
@[simp] theorem X7(neg:Bool)(a:Ex):tst C (.isn neg a) ρ=(ev C (.isn neg a) ρ >>= Ci):=(rfl)
@[simp] theorem Qjg(f:Str)(as:Exs):tst C (.call f as) ρ=(ev C (.call f as) ρ >>= Ci):=(rfl)
@[simp] theorem Se(t:Ty)(a:Ex):tst C (.ins t a) ρ=(ev C (.ins t a) ρ >>= Ci):=(rfl)
@[simp] theorem Hk:J0 C .nil ρ=.ok true:=(rfl)
@[simp] theorem Kl(a:Ex)(r:Exs):J0 C (.cons a r) ρ=(tst C a ρ >>= λk=>if k then J0 C r ρ else .ok false):=(rfl)
@[simp] theorem Fc(a:Ex):evI C (.seq a) ρ=(ev C a ρ >>= λx=>match Bo x with|some xs=>if Av xs.length then .ok xs else .un|none=>.un):=(rfl)
@[simp] theorem Qht(a:Ex):evI C (.rng a) ρ=(ev C a ρ >>= λx=>match x with|.int n=>if -(line:Int)<=n/\n<=(line:Int) then .ok (E2 n) else .un|_=>.un):=(rfl)
@[simp] theorem Qbv(a:Ex):evI C (.enu a) ρ=(ev C a ρ >>= λx=>match Bo x with|some xs=>if Av xs.length then .ok (B4 0 xs) else .un|none=>.un):=(rfl)
@[simp] theorem De:exs C .nil ρ=.ok (.nx ρ):=(rfl)
@[simp] theorem Id(a:Sm)(r:Sms):exs C (.cons a r) ρ=(exm C a ρ >>= λk=>match k with|.nx ρ'=>exs C r ρ'|.rt d=>.ok (.rt d)):=(rfl)
@[simp] theorem X8(i:Nat)(e:Ex):exm C (.asg i e) ρ=(ev C e ρ >>= λd=>.ok (.nx (give e ρ i d))):=(rfl)
@[simp] theorem Qhu(e:Ex):exm C (.ret e) ρ=(ev C e ρ >>= λd=>.ok (.rt d)):=(rfl)
@[simp] theorem Qbw(c:Ex)(a b:Sms):exm C (.ife c a b) ρ=(tst C c ρ >>= λk=>if k then exs C a ρ else exs C b ρ):=(rfl)
@[simp] theorem Qbx(i:Nat)(e:Ex):exm C (.app i e) ρ=(match ρ[i]? with
  |some (some (.lst xs,true))=>ev C e ρ >>= λd=>if noL d&&Av (xs.length+1) then .ok (.nx (ρ.set i (some (.lst (xs++[d]),true)))) else .un
  | _=>.un):=(rfl)
@[simp] theorem Qeo(i:Nat)(it:It)(b:Sms):exm C (.for1 i it b) ρ=(evI C it ρ >>= λxs=>C4 (λx ρ=>exs C b (ρ.set i (some (x,false)))) xs (unown (Ak it) ρ)):=(rfl)
end
theorem Gj{C:Str->List D->R D}{ρ ρ':Env}{a:Sm}{r:Sms}(h:exm C a ρ=.ok (.nx ρ')):exs C (.cons a r) ρ=exs C r ρ':=by rw[Id,h];rfl
theorem Qs{C:Str->List D->R D}{ρ:Env}{d:D}{a:Sm}{r:Sms}(h:exm C a ρ=.ok (.rt d)):exs C (.cons a r) ρ=.ok (.rt d):=by rw[Id,h];rfl
theorem Pe{C:Str->List D->R D}{ρ:Env}{d:D}{i:Nat}{e:Ex}{r:Sms}(h:ev C e ρ=.ok d):exs C (.cons (.asg i e) r) ρ=exs C r (give e ρ i d):=Gj (by rw[X8,h];rfl)
theorem C3{C:Str->List D->R D}{ρ:Env}{d:D}{e:Ex}{r:Sms}(h:ev C e ρ=.ok d):exs C (.cons (.ret e) r) ρ=.ok (.rt d):=Qs (by rw[Qhu,h];rfl)
theorem Qhv{C:Str->List D->R D}{ρ:Env}{k:Bool}{c:Ex}{a b r:Sms}(h:tst C c ρ=.ok k):exs C (.cons (.ife c a b) r) ρ=(exs C (if k then a else b) ρ >>= λk=>match k with|.nx ρ'=>exs C r ρ'|.rt d=>.ok (.rt d)):=by rw[Id,Qbw,h];cases k<;>rfl
@[simp] theorem Qap{ρ:Env}{e:Ex}{i:Nat}{d:D}(h:noL d=true):give e ρ i d=ρ.set i (some (d,false)):=by rw[give,if_pos h]
@[simp] theorem Qhw{ρ:Env}{e:Ex}{i:Nat}{xs:List D}(h:Bw xs=true)(hf:Co e=true):give e ρ i (.lst xs)=ρ.set i (some (.lst xs,true)):=by rw[give,if_neg (by simp[noL]),if_pos (by simp[Tq,hf,Dd,h])]
theorem D2{C:Str->List D->R D}{ρ:Env}{d:D}{i:Nat}{e:Ex}{r:Sms}(h:ev C e ρ=.ok d)(hn:noL d=true):exs C (.cons (.asg i e) r) ρ=exs C r (ρ.set i (some (d,false))):=(Pe h).trans (by rw[Qap hn])
theorem Ee{C:Str->List D->R D}{ρ:Env}{xs:List D}{i:Nat}{e:Ex}{r:Sms}(h:ev C e ρ=.ok (.lst xs))(hn:Bw xs=true)(hf:Co e=true):exs C (.cons (.asg i e) r) ρ=exs C r (ρ.set i (some (.lst xs,true))):=(Pe h).trans (by rw[Qhw hn hf])
theorem Qjh{C:Str->List D->R D}{ρ:Env}{xs:List D}{i:Nat}{e:Ex}{r:Sms}(h:ev C e ρ=.ok (.lst xs))(hf:Co e=false):exs C (.cons (.asg i e) r) ρ=exs C r ((unown (Aj e) ρ).set i (some (.lst xs,false))):=(Pe h).trans (by rw[give,if_neg (by simp[noL]),if_neg (by simp[Tq,hf])])
theorem Ef{C:Str->List D->R D}{ρ:Env}{c:Ex}{a b r:Sms}(h:tst C c ρ=.ok true):exs C (.cons (.ife c a b) r) ρ=(exs C a ρ >>= λk=>match k with|.nx ρ'=>exs C r ρ'|.rt d=>.ok (.rt d)):=Qhv h
theorem Nr{C:Str->List D->R D}{ρ:Env}{c:Ex}{a b r:Sms}(h:tst C c ρ=.ok false):exs C (.cons (.ife c a b) r) ρ=(exs C b ρ >>= λk=>match k with|.nx ρ'=>exs C r ρ'|.rt d=>.ok (.rt d)):=Qhv h
theorem Eg{C:Str->List D->R D}{ρ ρ':Env}{c:Ex}{a b r:Sms}(h:tst C c ρ=.ok true)(h':exs C a ρ=.ok (.nx ρ')):exs C (.cons (.ife c a b) r) ρ=exs C r ρ':=(Ef h).trans (by rw[h'];rfl)
theorem Sf{C:Str->List D->R D}{ρ ρ':Env}{c:Ex}{a b r:Sms}(h:tst C c ρ=.ok false)(h':exs C b ρ=.ok (.nx ρ')):exs C (.cons (.ife c a b) r) ρ=exs C r ρ':=(Nr h).trans (by rw[h'];rfl)
theorem As{C:Str->List D->R D}{ρ:Env}{c:Ex}{a r:Sms}(h:tst C c ρ=.ok false):exs C (.cons (.ife c a .nil) r) ρ=exs C r ρ:=(Nr h).trans (by simp)
theorem Bt{C:Str->List D->R D}{ρ:Env}{c e:Ex}{d:D}{a b r:Sms}(h:tst C c ρ=.ok true)(h':ev C e ρ=.ok d):exs C (.cons (.ife c (.cons (.ret e) a) b) r) ρ=.ok (.rt d):=(Ef h).trans (by rw[C3 h'];rfl)
@[simp] theorem Qk0(i:Int):noL (.int i)=true:=(rfl)
@[simp] theorem Qby(xs:List D):noL (.tup xs)=Bw xs:=(rfl)
@[simp] theorem Qk1:Bw []=true:=(rfl)
@[simp] theorem X9(x:D)(xs:List D):Bw (x::xs)=(noL x&&Bw xs):=(rfl)
@[simp] theorem Qhx(b:Bool):Ci (.bl b)=.ok b:=(rfl)
theorem A4{n:Nat}(h:n<=1000000):Av n=true:=decide_eq_true (by rw[Dc];exact h)
@[simp] theorem Qk2:Av 0=true:=A4 (by decide)
@[simp] theorem Qhy:Av 1=true:=A4 (by decide)
@[simp] theorem Qk3:Av 2=true:=A4 (by decide)
theorem Ao{T:Tab}{f:Str}{fn:Fn}{ds:List D}{d:D}{n:Nat}(e:T.lookup f=some fn)(h:ds.length=fn.ps)(hx:exs (run T n) fn.body (A2 fn ds)=.ok (.rt d)):run T (n+1) f ds=.ok d:=by
 conv=>lhs;unfold run
 rw[e];simp only[h,if_true,hx]
theorem Ie{T:Tab}{f:Str}{fn:Fn}{ds:List D}{c:Str}{o:Option D}{n:Nat}(e:T.lookup f=some fn)(h:ds.length=fn.ps)(hx:∀k,exs (run T n) fn.body (A2 fn ds)≠.ok k)(hc:xs (run T n) fn.body (A2 fn ds)=some (c,o)):run T (n+1) f ds=.xn c o:=by
 conv=>lhs;unfold run
 rw[e];simp only[h,if_true]
 cases q:exs (run T n) fn.body (A2 fn ds) with
 |ok k=>exact absurd q (hx k)
 |xn _ _=>simp only[hc]
 |un=>simp only[hc]
abbrev nD(n:Nat):D:=.int (n:Int)
def nsD(l:List Nat):List D:=l.map nD
def below(d:D)(e:Int):Bool:=match d with
 |.int i=>decide (0<=i)&&decide (i<e)
 |_=>false
@[simp] theorem Qgl(a b:Int):op2 .lt (.int a) (.int b)=.ok (.bl (decide (a<b))):=(rfl)
@[simp] theorem Qa2(a b:Int):op2 .le (.int a) (.int b)=.ok (.bl (decide (a<=b))):=(rfl)
theorem Nt{T:Tab}(h:T.lookup ("is_number_below" : Str)=some B6)(n:Nat)(d:D)(e:Int):run T (n+1) "is_number_below" [d,.int e]=.ok (.bl (below d e)):=by
 refine Ao h rfl ?_;cases d<;>simp[B6,A2,D0,below]
 rename_i i;by_cases h0:0<=i<;>simp[h0]
theorem Hl{α:Type}{f:D->R (Option D)}{k:α->D}{g:α->Option D}:∀{l:List α},(∀a∈l,f (k a)=.ok (g a))->Gz f (l.map k)=.ok (l.filterMap g)
 |[],_=>rfl
 |a::l,h=>by
  rw[List.map_cons,Gz,h a (List.mem_cons_self ..),R.bind_ok,Hl λb hb=>h b (List.mem_cons_of_mem _ hb),R.bind_ok]
  cases e:g a<;>simp[List.filterMap_cons,e]
theorem Ch{α β:Type}{f:D->R (Option D)}{k:α->D}{k':β->D}{g:α->β}{l:List α}(h:∀a∈l,f (k a)=.ok (some (k' (g a)))):Gz f (l.map k)=.ok ((l.map g).map k'):=by
 rw[Hl (g:=λa=>some (k' (g a))) h]
 simp[List.filterMap_eq_map']
theorem Pf{α:Type}{f:D->R (Option D)}{k:α->D}{p:α->Bool}{l:List α}(h:∀a∈l,f (k a)=.ok (if p a then some (k a) else none)):Gz f (l.map k)=.ok ((l.filter p).map k):=by
 rw[Hl h]
 congr 1
 clear h
 induction l with
 |nil=>rfl
 |cons a l ih=>cases e:p a<;>simp[List.filterMap_cons,e,ih]
theorem Ji{f:D->Env->R Fl}(I:Nat->Env->Prop){xs:List D}{ρ:Env}(h0:I 0 ρ)(hs:∀k x ρ,xs[k]?=some x->I k ρ->∃ρ',f x ρ=.ok (.nx ρ')/\I (k+1) ρ'):∃ρ',C4 f xs ρ=.ok (.nx ρ')/\I xs.length ρ':=by
 induction xs generalizing I ρ with
 |nil=>exact⟨ρ,rfl,h0⟩
 |cons x r ih=>
  obtain⟨ρ1,e1,i1⟩:=hs 0 x ρ rfl h0;obtain⟨ρ2,e2,i2⟩:=ih (λk=>I (k+1)) i1 λk y ρ e i=>hs (k+1) y ρ (by simpa using e) i
  exact⟨ρ2,by rw[C4,e1];exact e2,i2⟩
theorem Qaq{f:D->Env->R Fl}(I:Nat->Env->Prop)(Q:D->Prop){xs:List D}{ρ:Env}(h0:I 0 ρ)(hs:∀k x ρ,xs[k]?=some x->I k ρ->(∃ρ',f x ρ=.ok (.nx ρ')/\I (k+1) ρ')\/∃d,f x ρ=.ok (.rt d)/\Q d):(∃ρ',C4 f xs ρ=.ok (.nx ρ')/\I xs.length ρ')\/∃d,C4 f xs ρ=.ok (.rt d)/\Q d:=by
 induction xs generalizing I ρ with
 |nil=>exact .inl ⟨ρ,rfl,h0⟩
 |cons x r ih=>
  rcases hs 0 x ρ rfl h0 with⟨ρ1,e1,i1⟩|⟨d,e1,q⟩
  ·rcases ih (λk=>I (k+1)) i1 λk y ρ e i=>hs (k+1) y ρ (by simpa using e) i with⟨ρ2,e2,i2⟩|⟨d,e2,q⟩
   ·exact .inl ⟨ρ2,by rw[C4,e1];exact e2,i2⟩
   ·exact .inr ⟨d,by rw[C4,e1];exact e2,q⟩
  ·exact .inr ⟨d,by rw[C4,e1];rfl,q⟩
theorem Qt(n:Nat):E2 (n:Int)=(List.range n).map nD:=by simp[E2,nD]
theorem Fd{C:Str->List D->R D}{a:Ex}{ρ:Env}{n:Nat}(h:ev C a ρ=.ok (nD n))(hn:n<=1000000):evI C (.rng a) ρ=.ok ((List.range n).map nD):=by
 rw[Qht,h,R.bind_ok];simp only[nD];rw[if_pos (by rw[Dc];omega),<-Qt]
theorem Jj{xs:List D}{i:Nat}(h:i<xs.length):atD xs (i:Int)=.ok xs[i]:=by
 simp[atD,ixN,h]
theorem Ho{xs:List D}:Bw xs=true↔∀x∈xs,noL x=true:=by
 induction xs with
 |nil=>simp[Bw]
 |cons x r ih=>simp[Bw,ih]
theorem Bb{α:Type}{k:α->D}(l:List α)(h:∀a,noL (k a)=true):Bw (l.map k)=true:=Ho.2 λx hx=>by
 obtain⟨a,_,rfl⟩:=List.mem_map.1 hx;exact h a
@[simp] theorem Dg(l:List Nat):Bw (nsD l)=true:=Bb l λ_=>rfl
@[simp] theorem Qu(l:List Nat):(nsD l).length=l.length:=by simp[nsD]
theorem Sg{n:Nat}{l:List Nat}:inD (nD n) (nsD l)=decide (n∈l):=by
 induction l with
 |nil=>simp[inD,nsD]
 |cons a l ih=>
  simp only[inD,nsD,List.map_cons,List.any_cons] at ih |-;rw[ih];by_cases h:n=a<;>simp[eqD,h]
  intro h';exact absurd h'.symm (by omega)
@[simp] theorem Qep(n:Nat)(i:Int):lo n (.int i)=true:=by cases n<;>rfl
theorem Nu{α:Type}{k:α->D}{n:Nat}(l:List α)(h:∀a,lo n (k a)=true):(l.map k).all (lo n)=true:=List.all_eq_true.2 λx hx=>by
 obtain⟨a,_,rfl⟩:=List.mem_map.1 hx;exact h a
theorem Xa(n:Nat)(l:List Nat):(nsD l).all (lo n)=true:=Nu l λ_=>Qep n _
@[simp] theorem Qbn(a b:Int):op2 .add (.int a) (.int b)=.ok (.int (a+b)):=(rfl)
@[simp] theorem Qbo(a b:Int)(h:C2 a=true):op2 .mul (.int a) (.int b)=.ok (.int (a*b)):=(if_pos (by rw[h];rfl))
theorem Xb(a b:Int)(h:C2 b=true):op2 .mul (.int a) (.int b)=.ok (.int (a*b)):=(if_pos (by rw[h,Bool.or_true]))
@[simp] theorem K6(a b:Int)(h:0<b):op2 .mod (.int a) (.int b)=.ok (.int (a % b)):=if_pos h
@[simp] theorem Qk(a b:D)(h:lo 9 a=true):op2 .eq a b=.ok (.bl (eqD a b)):=if_pos h
@[simp] theorem Ql(a b:D)(h:lo 9 a=true):op2 .ne a b=.ok (.bl (!eqD a b)):=by
 have:op2 .ne a b=if lo 9 a then .ok (.bl (!eqD a b)) else .un:=by cases a<;>rfl
 rw[this,h];rfl
@[simp] theorem Qgm(a b:Int):op2 .gt (.int a) (.int b)=.ok (.bl (decide (b<a))):=(rfl)
@[simp] theorem Ou(a:D)(xs:List D)(h:lo 9 a=true):op2 .isin a (.tup xs)=.ok (.bl (inD a xs)):=if_pos h
@[simp] theorem Nv(a b:List D)(h:a.length+b.length<=1000000):op2 .add (.lst a) (.lst b)=.ok (.lst (a++b)):=if_pos (A4 h)
@[simp] theorem Qeq(a b:List D)(h:a.length+b.length<=1000000):op2 .add (.tup a) (.tup b)=.ok (.tup (a++b)):=if_pos (A4 h)
@[simp] theorem Wg(a:List D):Er .len (.lst a)=.ok (.int a.length):=(rfl)
@[simp] theorem Qji(a:List D):Er .len (.tup a)=.ok (.int a.length):=(rfl)
@[simp] theorem Qk4(a:List D):Er .tuple (.lst a)=.ok (.tup a):=(rfl)
@[simp] theorem Qk5(b:Bool):Er .int (.bl b)=.ok (.int (if b then 1 else 0)):=(rfl)
@[simp] theorem Qk6(xs:List D)(i:Int):Tm (.lst xs) (.int i)=atD xs i:=(rfl)
@[simp] theorem Qjj(xs:List D)(i:Int):Tm (.tup xs) (.int i)=atD xs i:=(rfl)
@[simp] theorem Qjk:C2 7=true:=by simp[C2,Ep]
@[simp] theorem Qjl:C2 2=true:=by simp[C2,Ep]
@[simp] theorem Qid:C2 13=true:=by simp[C2,Ep]
@[simp] theorem Qie:C2 17=true:=by simp[C2,Ep]
@[simp] theorem Qif:C2 29=true:=by simp[C2,Ep]
@[simp] theorem Qer:C2 48271=true:=by simp[C2,Ep]
@[simp] theorem Qjm(a:Int):op2 .mul (.int a) (.int 48271)=.ok (.int (a*48271)):=Xb _ _ Qer
theorem U5{n:Nat}(h:n<=1000000):C2 (n:Int)=true:=by simp[C2,Ep];omega
@[simp] theorem Qjn(a:Int)(d:Nat)(h:d<=1000000):op2 .mul (.int a) (.int (d:Int))=.ok (.int (a*(d:Int))):=Xb _ _ (U5 h)
def cell(ns:List Int)(k:Int):Int:=ns.getD k.toNat 0
theorem Km{T:Tab}(h:T.lookup ("_law_cell" : Str)=some Ec)(n:Nat)(ns:List Int)(k:Int)(h0:0<=k):run T (n+1) "_law_cell" [.lst (ns.map .int),.int k]=.ok (.int (cell ns k)):=by
 refine Ao h rfl ?_;simp only[Ec,A2,cell];obtain⟨k,rfl⟩:=Int.eq_ofNat_of_zero_le h0;by_cases hk:k<ns.length
 ·simp[hk,Jj]
 ·simp[hk]
def mix(c p m:Int):Int:=c*48271 % p % m
theorem Hq{T:Tab}(h:T.lookup ("_law_mix" : Str)=some Gf)(n:Nat)(c p m:Int)(hp:0<p)(hm:0<m):run T (n+1) "_law_mix" [.int c,.int p,.int m]=.ok (.int (mix c p m)):=by
 refine Ao h rfl ?_;simp[Gf,A2,hp,hm,mix]
theorem Fv{c p m:Int}(hm:0<m):∃k:Nat,mix c p m=(k:Int)/\(k:Int)<m:=by
 have h1:=Int.emod_nonneg (c*48271 % p) (by omega:m≠0)
 have h2:=Int.emod_lt_of_pos (c*48271 % p) hm;exact⟨(mix c p m).toNat,by unfold mix;omega,by unfold mix;omega⟩
theorem Qar{T:Tab}(hc:T.lookup ("_law_cell" : Str)=some Ec)(hm:T.lookup ("_law_mix" : Str)=some Gf)(h:T.lookup ("_law_large" : Str)=some Fa)(n:Nat)(ns:List Int):∃b,run T (n+2) "_law_large" [.lst (ns.map .int)]=.ok (.bl b):=by
 exact⟨_,Ao h rfl (by simp[Fa,A2,Km hc,Hq hm];rfl)⟩
theorem Pg(ps:List (Int×Int)):pairsOf (ps.map Bu)=some ps:=by
 induction ps with
 |nil=>rfl
 |cons p ps ih=>simp[pairsOf,Bu] at ih |-;simp[ih]
theorem Ph{ps:List (Int×Int)}(hn:ps.Nodup)(hl:ps.length<64):Lw (ps.map Bu)=.ok ((Cu ps).map Bu):=by
 unfold Lw;rw[if_pos (by simp;omega)]
 cases ps with
 |nil=>rfl
 |cons p r=>
  have:Bg ((p::r).map Bu)=none:=rfl;simp only[this,Pg];rw[if_pos hn]
theorem Qv(l:List Int):Bg (l.map .int)=some l:=by
 induction l with
 |nil=>rfl
 |cons a l ih=>simp[Bg,ih]
structure Some1(l:List Nat)(many:Nat)(full:Bool):Prop where
 nd:l.Nodup
 lt:∀x∈l,x<many
 full:full=true->l.Perm (List.range many)
@[simp] theorem D3{C:Str->List D->R D}(ρ:Env)(two:Bool)(elt:Ex)(it:It)(ifs:Exs):ev C (.comp two elt it ifs) ρ=(evI C it ρ >>= λxs=>
   Gz (λd=>tgt two d >>= λe=>J0 C ifs (ρ++e) >>= λk=>
    if k then ev C elt (ρ++e) >>= λy=>.ok (some y) else .ok none) xs >>= λys=>.ok (.lst ys)):=(rfl)
@[simp] theorem U6(d:D):tgt false d=.ok [some (d,false)]:=(rfl)
theorem Xc{T:Tab}(hm:T.lookup ("_law_mix" : Str)=some Gf)(h:T.lookup ("_law_some" : Str)=some Fu)(n:Nat)(c:Int)(many:Nat)(hy:many<=5)(full:Bool) :
  ∃l,Some1 l many full/\run T (n+2) "_law_some" [.int c,nD many,.bl full]=.ok (.tup (nsD l)):=by
 let ps:List (Int×Int):=(List.range many).map λ(k:Nat)=>(mix (c+29*(k:Int)*(k:Int)) 9931 997,(k:Int))
 have hn:ps.Nodup:=List.Pairwise.map _ (λa b h e=>h (by simp at e;omega)) (List.nodup_range (n:=many))
 have hp:=Eb ps
 let l:List Nat:=(Cu ps).map λp=>p.2.toNat
 have hl:l.Perm (List.range many):=by
  have:=hp.map λp=>p.2.toNat
  refine this.trans ?_;simp[ps,Function.comp_def]
 have hl2:(Cu ps).map (λp=>D.int p.2)=nsD l:=by
  simp only[l,nsD,List.map_map];refine List.map_congr_left λp hp'=>?_
  have:=hp.mem_iff.1 hp';simp only[ps,List.mem_map] at this;obtain⟨k,_,rfl⟩:=this;simp[nD]
 have hr:(List.range many).map nD=nsD (List.range many):=rfl;have hc1:∀k∈List.range many,k<=1000000:=λk hk=>by have:=List.mem_range.1 hk;omega
 have f1:Bw (ps.map Bu)=true:=Bb _ λ_=>rfl
 have f2:Lw (ps.map Bu)=.ok ((Cu ps).map Bu):=Ph hn (by simp[ps];omega)
 have f3:Av (Cu ps).length=true:=A4 (by simp[hp.length_eq,ps];omega)
 have f4:Bw (nsD l)=true:=Dg l;have f5:∀p∈Cu ps,0<=p.2:=λp hp'=>by
  have:=hp.mem_iff.1 hp';simp only[ps,List.mem_map] at this;obtain⟨k,_,rfl⟩:=this;simp
 have w1:(Cu ps).map Bu=(Cu ps).map Bu:=rfl;have go:∀d,exs (run T (n+1)) (.cons (.ife (.var 2) (.cons (.ret (.b1 .tuple (.var 4))) .nil) .nil) (.cons (.ret (.b1 .tuple (.slc (.var 4) .nil (.cons (.call "_law_mix" (.cons (.var 0) (.cons (.int 9941) (.cons (.op .add (.var 1) (.int 1)) .nil)))) .nil)))) .nil)) [some (.int c,false),some (nD many,false),some (.bl full,false),some (.lst (ps.map Bu),true),some (.lst (nsD l),true)]=.ok (.rt d)->run T (n+2) "_law_some" [.int c,nD many,.bl full]=.ok d:=by
  intro d hd;refine Ao h rfl ?_;refine(Ee (xs:=ps.map Bu) ?_ f1 rfl).trans ?_
  ·rw[D3,Fd (n:=many) (by simp[A2]) (by omega),R.bind_ok,Ch (k':=Bu) (g:=λ(k:Nat)=>(mix (c+29*(k:Int)*(k:Int)) 9931 997,(k:Int))) (h:=?_)]
   ·rfl
   ·intro d hd
    simp[A2,Fu,hc1 d hd,Hq hm,Bu]
  refine(Ee (xs:=nsD l) ?_ f4 rfl).trans hd;simp[A2,Fu,Er,f2,Bo,f3];rw[Ch (k':=D.int) (g:=λp=>p.2) (h:=?_)]
  ·simp[<-hl2,Function.comp_def]
  ·intro p hp'
   simp[Bu,atD,ixN]
 cases full with
 |true=>
  refine⟨l,⟨hl.nodup_iff.2 List.nodup_range,λx hx=>List.mem_range.1 (hl.mem_iff.1 hx),λ_=>hl⟩,go _ (Bt rfl rfl)⟩
 |false=>
  obtain⟨k,hk,_⟩:=Fv (c:=c) (p:=9941) (m:=(many:Int)+1) (by omega)
  refine⟨l.take k,⟨(hl.nodup_iff.2 List.nodup_range).sublist (List.take_sublist ..),λx hx=>List.mem_range.1 (hl.mem_iff.1 (List.mem_of_mem_take hx)),λh=>by cases h⟩,go _ ((As rfl).trans (C3 ?_))⟩
  simp[Hq hm,show (0:Int)<(many:Int)+1 by omega,bound,hk,Oe,cut,sIx]
  rw[if_neg (by omega)]
  simp[nsD]
structure Fair where
 W:List (List Nat)
 H:List (Nat×List Nat)
def wD(w:List Nat):D:=.tup (nsD w)
def hD(p:Nat×List Nat):D:=.tup [nD p.1,.tup (nsD p.2)]
def Af(F:Fair):D:=.tup [.tup (F.W.map wD),.tup (F.H.map hD)]
structure GoodF(F:Fair):Prop where
 g1:1<=F.W.length
 g5:F.W.length<=5
 h1:1<=F.H.length
 h5:F.H.length<=5
 w:∀w∈F.W,w.Nodup/\∀h∈w,h<F.H.length
 r:∀p∈F.H,p.1<=5/\p.2.Nodup/\∀g∈p.2,g<F.W.length
theorem Xd{C:Str->List D->R D}{ρ ρ':Env}{i:Nat}{it:It}{b r:Sms}{xs:List D}(hI:evI C it ρ=.ok xs)(hf:C4 (λx ρ=>exs C b (ρ.set i (some (x,false)))) xs (unown (Ak it) ρ)=.ok (.nx ρ')):exs C (.cons (.for1 i it b) r) ρ=exs C r ρ':=Gj (by rw[Qeo,hI,R.bind_ok,hf])
theorem Ma(ρ:Env):unown [] ρ=ρ:=by
 apply List.ext_getElem?;intro i;simp[unown,List.getElem?_mapIdx]
@[simp] theorem Qig(l:List (List Nat)):Bw (l.map wD)=true:=Bb _ λw=>by simp[wD]
@[simp] theorem Qih(l:List (Nat×List Nat)):Bw (l.map hD)=true:=Bb _ λw=>by simp[hD]
@[simp] theorem Pi(F:Fair):noL (Af F)=true:=by simp[Af]
structure Draws(T:Tab):Prop where
 cell:T.lookup ("_law_cell" : Str)=some Ec
 mix:T.lookup ("_law_mix" : Str)=some Gf
 large:T.lookup ("_law_large" : Str)=some Fa
 sm:T.lookup ("_law_some" : Str)=some Fu
 fair:T.lookup ("_law_fair" : Str)=some C7
theorem Xe{n k:Nat}{x:D}(h:((List.range n).map nD)[k]?=some x):x=nD k/\k<n:=by
 simp only[List.getElem?_map,Option.map_eq_some_iff] at h;obtain⟨a,h,rfl⟩:=h;obtain⟨hk,rfl⟩:=List.getElem?_eq_some_iff.1 h;exact⟨by simp,by simpa using hk⟩
theorem Qas{T:Tab}(U:Draws T)(n:Nat)(ns:List Int)(at':Nat):∃F,(GoodF F/\(F.W.length<=4\/F.H.length<=3))/\run T (n+3) "_law_fair" [.lst (ns.map .int),nD at']=.ok (Af F):=by
 have key:∀(G H:Nat),1<=G->G<=5->1<=H->H<=5->(G<=4\/H<=3)->∀(c:Int),∃F,(GoodF F/\(F.W.length<=4\/F.H.length<=3))/\exs (run T (n+2)) (match C7.body with|.cons _ (.cons _ (.cons _ (.cons _ (.cons _ r))))=>r|_=>.nil) [some (.lst (ns.map .int),false),some (nD at',false),some (.int c,false),some (nD G,false),some (nD H,false),none,none,none,none,none,none]=.ok (.rt (Af F)):=by
  intro G H g1 g5 h1 h5 hs c
  let full:Bool:=eqD (.int (mix c 9949 2)) (.int 0)
  obtain⟨ρ1,e1,ws,hw,hww,x1,rfl⟩:=Ji (f:=λx ρ=>exs (run T (n+2)) (.cons (.app 6 (.call "_law_some" (.cons (.op .add (.call "_law_cell" (.cons (.var 0) (.cons (.op .add (.op .add (.var 1) (.int 1)) (.var 7)) .nil))) (.op .mul (.op .mul (.int 17) (.var 7)) (.var 7))) (.cons (.var 4) (.cons (.var 5) .nil))))) .nil) (ρ.set 7 (some (x,false))))
   (xs:=(List.range G).map nD)
   (λk ρ=>∃ws:List (List Nat),ws.length=k/\(∀w∈ws,w.Nodup/\∀h∈w,h<H)/\∃x,ρ=[some (.lst (ns.map .int),false),some (nD at',false),some (.int c,false),some (nD G,false),some (nD H,false),some (.bl full,false),some (.lst (ws.map wD),true),x,none,none,none])
   (ρ:=[some (.lst (ns.map .int),false),some (nD at',false),some (.int c,false),some (nD G,false),some (nD H,false),some (.bl full,false),some (.lst [],true),none,none,none,none]) ⟨[],rfl,by simp,none,rfl⟩ (by
    rintro k x ρ hx ⟨ws,hl,hw,y,rfl⟩
    obtain⟨rfl,hk⟩:=Xe hx;obtain⟨l,⟨l1,l2,l3⟩,l4⟩:=Xc U.mix U.sm n (cell ns ((at':Int)+1+k)+17*k*k) H h5 full;refine⟨_,?_,ws++[l],by simp[hl],?_,some (nD k,false),rfl⟩
    ·simp[Km U.cell,show (0:Int)<=(at':Int)+1+k by omega,show k<=1000000 by omega,l4]
     rw[A4 (by omega)]
     simp[wD]
    ·intro w hw'
     rcases List.mem_append.1 hw' with hw'|hw'
     ·exact hw w hw'
     ·rw[List.mem_singleton.1 hw']
      exact⟨l1,l2⟩)
  obtain⟨ρ2,e2,hs',hh,hhh,x2,x3,x4,rfl⟩:=Ji (f:=λx ρ=>exs (run T (n+2)) (.cons (.asg 9 (.op .add (.call "_law_cell" (.cons (.var 0) (.cons (.op .add (.op .add (.var 1) (.int 6)) (.var 7)) .nil))) (.op .mul (.op .mul (.int 13) (.var 7)) (.var 7)))) (.cons (.asg 10 (.op .add (.op .add (.call "_law_mix" (.cons (.var 9) (.cons (.int 9923) (.cons (.int 3) .nil)))) (.b1 .int (.var 5))) (.op .mul (.int 2) (.b1 .int (.op .eq (.call "_law_mix" (.cons (.var 9) (.cons (.int 9907) (.cons (.int 5) .nil)))) (.int 1)))))) (.cons (.app 8 (.tup (.cons (.var 10) (.cons (.call "_law_some" (.cons (.var 9) (.cons (.var 3) (.cons (.var 5) .nil)))) .nil)))) .nil))) (ρ.set 7 (some (x,false))))
   (xs:=(List.range H).map nD)
   (λk ρ=>∃hs:List (Nat×List Nat),hs.length=k/\(∀p∈hs,p.1<=5/\p.2.Nodup/\∀h∈p.2,h<G)/\∃x x' x'',ρ=[some (.lst (ns.map .int),false),some (nD at',false),some (.int c,false),some (nD G,false),some (nD H,false),some (.bl full,false),some (.lst (ws.map wD),true),x,some (.lst (hs.map hD),true),x',x''])
   (ρ:=[some (.lst (ns.map .int),false),some (nD at',false),some (.int c,false),some (nD G,false),some (nD H,false),some (.bl full,false),some (.lst (ws.map wD),true),x1,some (.lst [],true),none,none]) ⟨[],rfl,by simp,x1,none,none,rfl⟩ (by
    rintro k x ρ hx ⟨ws,hl,hw,y,y',y'',rfl⟩
    obtain⟨rfl,hk⟩:=Xe hx
    let sd:Int:=cell ns ((at':Int)+6+k)+13*k*k
    obtain⟨l,⟨l1,l2,l3⟩,l4⟩:=Xc U.mix U.sm n sd G g5 full;obtain⟨m,hm,hm3⟩:=Fv (c:=sd) (p:=9923) (m:=3) (by omega)
    let b2:Bool:=eqD (.int (mix sd 9907 5)) (.int 1)
    let bd:Nat:=m+(if full then 1 else 0)+2*(if b2 then 1 else 0)
    have hbd:mix sd 9923 3+(if full then 1 else 0)+2*(if b2 then 1 else 0)=(bd:Int):=by
     simp only[hm,bd];cases full<;>cases b2<;>simp
    have hb5:bd<=5:=by
     simp only[bd];cases full<;>cases b2<;>simp<;>omega
    refine⟨_,?_,ws++[(bd,l)],by simp[hl],?_,some (nD k,false),some (.int sd,false),some (nD bd,false),rfl⟩
    ·refine(D2 (d:=.int sd) (by simp[Km U.cell,show (0:Int)<=(at':Int)+6+k by omega,show k<=1000000 by omega,sd]) rfl).trans ?_
     refine(D2 (d:=nD bd) (by simp[Hq U.mix];exact hbd) rfl).trans ?_
     simp[l4];rw[A4 (by omega)]
     simp[hD]
    ·intro w hw'
     rcases List.mem_append.1 hw' with hw'|hw'
     ·exact hw w hw'
     ·rw[List.mem_singleton.1 hw']
      exact⟨hb5,l1,l2⟩)
  simp only[List.length_map,List.length_range] at hw hh;refine⟨⟨ws,hs'⟩,⟨⟨by simp[hw];omega,by simp[hw];omega,by simp[hh];omega,by simp[hh];omega,by simpa [hh] using hww,by simpa [hw] using hhh⟩,by simpa [hw,hh] using hs⟩,?_⟩
  refine(D2 (d:=.bl full) (by simp[Hq U.mix,full]) rfl).trans ?_
  refine(Ee (xs:=[]) (by simp) rfl rfl).trans ?_
  refine(Xd (Fd (n:=G) (by simp) (by omega)) (by simp only[Ak,Ma];exact e1)).trans ?_
  refine(Ee (xs:=[]) (by simp) rfl rfl).trans ?_
  refine(Xd (Fd (n:=H) (by simp) (by omega)) (by simp only[Ak,Ma];exact e2)).trans ?_
  exact C3 (by simp[Af])
 obtain⟨k1,hk1,b1⟩:=Fv (c:=cell ns at') (p:=9973) (m:=4) (by omega)
 obtain⟨k2,hk2,b2⟩:=Fv (c:=cell ns at') (p:=9967) (m:=5) (by omega)
 obtain⟨k3,hk3,b3⟩:=Fv (c:=cell ns at') (p:=9973) (m:=5) (by omega)
 obtain⟨k4,hk4,b4⟩:=Fv (c:=cell ns at') (p:=9967) (m:=3) (by omega)
 obtain⟨b,hb⟩:=Qar U.cell U.mix U.large n ns;have go:∀(F:Fair) (G H:Nat),G=(if b=true\/63<ns.length then k3+1 else k1+1)->H=(if b=true\/63<ns.length then k4+1 else k2+1)->exs (run T (n+2)) (match C7.body with|.cons _ (.cons _ (.cons _ (.cons _ (.cons _ r))))=>r|_=>.nil) [some (.lst (ns.map .int),false),some (nD at',false),some (.int (cell ns at'),false),some (nD G,false),some (nD H,false),none,none,none,none,none,none]=.ok (.rt (Af F))->run T (n+3) "_law_fair" [.lst (ns.map .int),nD at']=.ok (Af F):=by
  intro F G H hG hH hF;refine Ao U.fair rfl ?_;refine(D2 (d:=.int (cell ns at')) (by simp[A2,C7,Km U.cell]) rfl).trans ?_
  refine(D2 (d:=nD (k1+1)) (by simp[A2,C7,Hq U.mix,hk1];omega) rfl).trans ?_
  refine(D2 (d:=nD (k2+1)) (by simp[A2,C7,Hq U.mix,hk2];omega) rfl).trans ?_
  have bl:∀(G H:Nat) (x y),exs (run T (n+2)) (.cons (.asg 3 (.op .add (.int 1) (.call "_law_mix" (.cons (.var 2) (.cons (.int 9973) (.cons (.int 5) .nil)))))) (.cons (.asg 4 (.op .add (.int 1) (.call "_law_mix" (.cons (.var 2) (.cons (.int 9967) (.cons (.int 3) .nil)))))) .nil)) [some (.lst (ns.map .int),false),some (nD at',false),some (.int (cell ns at'),false),x,y,none,none,none,none,none,none]=.ok (.nx [some (.lst (ns.map .int),false),some (nD at',false),some (.int (cell ns at'),false),some (nD (k3+1),false),some (nD (k4+1),false),none,none,none,none,none,none]):=by
   intro G H x y;refine(D2 (d:=nD (k3+1)) (by simp[Hq U.mix,hk3];omega) rfl).trans ?_
   exact(D2 (d:=nD (k4+1)) (by simp[Hq U.mix,hk4];omega) rfl).trans rfl
  cases b with
  |true=>
   refine(Eg (by simp[A2,C7,hb]) (bl 0 0 _ _)).trans ?_
   simp at hG hH;subst hG hH;by_cases hl:63<ns.length
   ·exact(Eg (by simp;omega) (bl 0 0 _ _)).trans hF
   ·exact(As (by simp;omega)).trans hF
  |false=>
   refine(As (by simp[A2,C7,hb])).trans ?_
   by_cases hl:63<ns.length
   ·simp[hl] at hG hH
    subst hG hH;exact(Eg (by simp[A2,C7];omega) (bl 0 0 _ _)).trans hF
   ·simp[hl] at hG hH
    subst hG hH;exact(As (by simp[A2,C7];omega)).trans hF
 by_cases hc:b=true\/63<ns.length
 ·obtain⟨F,hF,e⟩:=key (k3+1) (k4+1) (by omega) (by omega) (by omega) (by omega) (by omega) (cell ns at')
  exact⟨F,hF,go F _ _ (by rw[if_pos hc]) (by rw[if_pos hc]) e⟩
 ·obtain⟨F,hF,e⟩:=key (k1+1) (k2+1) (by omega) (by omega) (by omega) (by omega) (by omega) (cell ns at')
  exact⟨F,hF,go F _ _ (by rw[if_neg hc]) (by rw[if_neg hc]) e⟩
theorem Qes{T:Tab}(U:Draws T)(n:Nat)(ns:List Int)(at':Nat):∃F,GoodF F/\run T (n+3) "_law_fair" [.lst (ns.map .int),nD at']=.ok (Af F):=by
 obtain⟨F,h,e⟩:=Qas U n ns at';exact⟨F,h.1,e⟩
theorem at0{x:D}{xs:List D}:atD (x::xs) 0=.ok x:=by simp[atD,ixN]
@[simp] theorem Qf8(i n:Nat):below (nD i) (n:Int)=decide (i<n):=by simp[below]
section
variable{C:Str->List D->R D}{ρ:Env}{i j:Nat}{it:It}{b r:Sms}{xs:List D}{K:R Fl}
@[simp] theorem Qw:exm C (.for2 i j it b) ρ=(evI C it ρ >>= λxs=>C4 (λx ρ=>match x with
   |.tup [u,v]=>exs C b ((ρ.set i (some (u,false))).set j (some (v,false)))
   | _=>.un) xs (unown (Ak it) ρ)):=(rfl)
theorem Pj:∀(ds:List D) (k n:Nat) (x:D),(B4 n ds)[k]?=some x->∃y,ds[k]?=some y/\x=.tup [nD (n+k),y]
 |[],_,_,_,e=>by simp[B4] at e
 |d::ds,0,n,x,e=>⟨d,rfl,by simpa [B4] using e.symm⟩
 |d::ds,k+1,n,x,e=>by
  obtain⟨y,h1,h2⟩:=Pj ds k (n+1) x (by simpa [B4] using e)
  exact⟨y,by simpa using h1,by rw[h2,show n+1+k=n+(k+1) by omega]⟩
theorem Iw:∀(ds:List D) (n:Nat),(B4 n ds).length=ds.length
 |[],_=>rfl
 |d::ds,n=>by simp[B4,Iw ds]
theorem Xf{a:Ex}{ds:List D}(I:Nat->Env->Prop)(hI:ev C a ρ=.ok (.tup ds)\/ev C a ρ=.ok (.lst ds))(hz:ds.length<=1000000)(h0:I 0 (unown (Aj a) ρ))
  (hs:∀k y ρ,ds[k]?=some y->I k ρ->(∃ρ',exs C b ((ρ.set i (some (nD k,false))).set j (some (y,false)))=.ok (.nx ρ')/\I (k+1) ρ')\/∃d,exs C b ((ρ.set i (some (nD k,false))).set j (some (y,false)))=.ok (.rt d)/\K=.ok (.rt d))
  (hr:∀ρ',I ds.length ρ'->exs C r ρ'=K):exs C (.cons (.for2 i j (.enu a) b) r) ρ=K:=by
 have e0:evI C (.enu a) ρ=.ok (B4 0 ds):=by
  rw[Qbv];rcases hI with h|h<;>rw[h]<;>simp[Bo,A4 hz]
 have hs':∀k x ρ,(B4 0 ds)[k]?=some x->I k ρ->(∃ρ',(match x with|.tup [u,v]=>exs C b ((ρ.set i (some (u,false))).set j (some (v,false)))|_=>.un)=.ok (.nx ρ')/\I (k+1) ρ')\/∃d,(match x with|.tup [u,v]=>exs C b ((ρ.set i (some (u,false))).set j (some (v,false)))|_=>.un)=.ok (.rt d)/\K=.ok (.rt d):=by
  intro k x ρ hx hk;obtain⟨y,h1,rfl⟩:=Pj ds k 0 x hx;simp only[Nat.zero_add];exact hs k y ρ h1 hk
 rcases Qaq (f:=λx ρ=>match x with|.tup [u,v]=>exs C b ((ρ.set i (some (u,false))).set j (some (v,false)))|_=>.un) I (λd=>K=.ok (.rt d)) h0 hs' with⟨ρ',e,h⟩|⟨d,e,h⟩
 ·rw[Iw] at h
  exact(Gj (by rw[Qw,e0,R.bind_ok];exact e)).trans (hr ρ' h)
 ·rw[h]
  exact Qs (by rw[Qw,e0,R.bind_ok];exact e)
end
@[simp] theorem Qk9(a b:D):tgt true (.tup [a,b])=.ok [some (a,false),some (b,false)]:=(rfl)
theorem Qat{l:List Nat}{k:Nat}{d:D}(h:(nsD l)[k]?=some d):∃x,l[k]?=some x/\d=nD x:=by
 simp only[nsD,List.getElem?_map,Option.map_eq_some_iff] at h;obtain⟨x,h1,h2⟩:=h;exact⟨x,h1,h2.symm⟩
theorem Nw{α:Type}{f:α->D}{l:List α}{k:Nat}{d:D}(h:(l.map f)[k]?=some d):∃x,l[k]?=some x/\d=f x:=by
 simp only[List.getElem?_map,Option.map_eq_some_iff] at h;obtain⟨x,h1,h2⟩:=h;exact⟨x,h1,h2.symm⟩
theorem Qau{l:List Nat}{k:Nat}(h:k<l.length):Oe none (some (k:Int)) (.tup (nsD l))=.ok (.tup (nsD (l.take k))):=by
 show R.ok (D.tup (cut (nsD l) none (some (k:Int))))=_
 congr 2
 unfold cut sIx nsD;simp only[List.length_map,List.drop_zero,Nat.sub_zero];rw[if_neg (by omega),Int.toNat_natCast,Nat.min_eq_left (by omega),List.map_take]
theorem Xg{T:Tab}(h1:T.lookup ("is_number_below" : Str)=some B6)(h2:T.lookup ("are_unlike_numbers_below" : Str)=some Ae)(n:Nat)(l:List Nat)(m:Nat)(hn:l.Nodup)(hl:∀x∈l,x<m)(hz:l.length<=1000000):run T (n+2) "are_unlike_numbers_below" [.tup (nsD l),nD m]=.ok (.bl true):=by
 refine Ao h2 rfl ?_;refine(As (by simp[A2,Ae,D0])).trans ?_
 refine Xf (ds:=nsD l) (λk ρ=>∃x y,ρ=[some (.tup (nsD l),false),some (nD m,false),x,y]) (.inl (by simp[A2])) (by simpa using hz) ⟨none,none,rfl⟩ ?_ ?_
 ·rintro k y ρ hy ⟨x,y',rfl⟩
  obtain⟨v,hv,rfl⟩:=Qat hy;obtain⟨hk,ev⟩:=List.getElem?_eq_some_iff.1 hv;refine .inl ⟨_,?_,some (nD k,false),some (nD v,false),rfl⟩;have hb:=Nt h1 n (nD v) m;have hlt:below (nD v) m=true:=by simp[hl v (ev ▸ List.getElem_mem hk)]
  rw[hlt] at hb;refine As ?_;have hno:v∉l.take k:=λhm=>by
   obtain⟨i,hi,e⟩:=List.getElem_of_mem hm;simp only[List.getElem_take] at e;have hi':i<k:=by simp at hi;omega
   exact absurd ((List.getElem_inj hn).1 (e.trans ev.symm)) (by omega)
  simp[hb,bound,Qau hk,Sg,hno]
 ·rintro ρ' ⟨x,y,rfl⟩
  exact C3 (by simp)
end Lp
namespace Lp
open Lf
section
variable{F:Fair}{l:List Nat}{n:Nat}
end
end Lp
namespace Lp
open Lf
open PySem (Str)
theorem Qbz{C:Str->List D->R D}{ρ:Env}{i:Nat}{e:Ex}{r:Sms}{xs:List D}{d:D}(hi:ρ[i]?=some (some (.lst xs,true)))(he:ev C e ρ=.ok d)(h1:noL d=true)(h2:xs.length+1<=1000000) :
  exs C (.cons (.app i e) r) ρ=exs C r (ρ.set i (some (.lst (xs++[d]),true))):=by
 refine Gj ?_;rw[Qbx,hi];simp only[he,R.bind_ok,h1,A4 h2,Bool.and_self,if_true]
def Bd(r:R Fl)(P:Fl->Prop):Prop:=∃q,r=.ok q/\P q
def nxP(I:Env->Prop):Fl->Prop:=λq=>∃ρ',q=.nx ρ'/\I ρ'
def rtP(I:D->Prop):Fl->Prop:=λq=>∃d,q=.rt d/\I d
theorem Bd.by{r r':R Fl}{P:Fl->Prop}(h:r=r')(g:Bd r' P):Bd r P:=h ▸ g
theorem Bd.nil{C:Str->List D->R D}{ρ:Env}{I:Env->Prop}(h:I ρ):Bd (exs C .nil ρ) (nxP I):=⟨_,rfl,ρ,rfl,h⟩
theorem Bd.ret{C:Str->List D->R D}{ρ:Env}{e:Ex}{d:D}{r:Sms}{I:D->Prop}(h:ev C e ρ=.ok d)(hI:I d):Bd (exs C (.cons (.ret e) r) ρ) (rtP I):=⟨_,C3 h,d,rfl,hI⟩
theorem Bd.for1{C:Str->List D->R D}{ρ:Env}{i:Nat}{it:It}{b r:Sms}{xs:List D}{P:Fl->Prop}(I:Nat->Env->Prop)(hI:evI C it ρ=.ok xs)(h0:I 0 (unown (Ak it) ρ))
  (hs:∀k x ρ,xs[k]?=some x->I k ρ->Bd (exs C b (ρ.set i (some (x,false)))) (nxP (I (k+1)))) (hr:∀ρ',I xs.length ρ'->Bd (exs C r ρ') P):Bd (exs C (.cons (.for1 i it b) r) ρ) P:=by
 obtain⟨ρ',e,h⟩:=Ji (f:=λx ρ=>exs C b (ρ.set i (some (x,false)))) I h0 (λk x ρ hx hk=>by
  obtain⟨q,e,ρ',rfl,h⟩:=hs k x ρ hx hk;exact⟨ρ',e,h⟩)
 exact(hr ρ' h).by (Xd hI e)
theorem Kn{T:Tab}{f:Str}{fn:Fn}{ds:List D}{n:Nat}{I:D->Prop}(e:T.lookup f=some fn)(h:ds.length=fn.ps)(hx:Bd (exs (run T n) fn.body (A2 fn ds)) (rtP I)):∃d,run T (n+1) f ds=.ok d/\I d:=by
 obtain⟨q,e1,d,rfl,hd⟩:=hx;exact⟨d,Ao e h e1,hd⟩
def dig(n:Nat):Str:=⟨#[48+n]⟩
def Dv(ds:List Nat):List Nat:=ds.flatMap λn=>[32,48+n]
def gC:List Nat:=[103,117,101,115,116]
def hC:List Nat:=[104,111,117,115,101]
def mkS(l:List Nat):Str:=⟨l.toArray⟩
theorem Fw{a:Str}{l:List Nat}(h:a.cps.toList=l):a=mkS l:=by
 subst h;rfl
theorem Mb(a b:Str):(a++b).cps.toList=a.cps.toList++b.cps.toList:=by
 show (a.cps++b.cps).toList=_
 simp
theorem Ko(s a b:Str)(r:List Str):(Str.join s (a::b::r)).cps.toList=a.cps.toList++s.cps.toList++(Str.join s (b::r)).cps.toList:=by
 show ((a++s)++Str.join s (b::r)).cps.toList=_
 rw[Mb,Mb]
theorem Mc:∀(ds:List Nat) (w:Str),(Str.join ⟨#[32]⟩ (w::ds.map dig)).cps.toList=w.cps.toList++Dv ds
 |[],w=>by
  show w.cps.toList=_
  simp[Dv]
 |n::ds,w=>by
  rw[List.map_cons,Ko,Mc ds (dig n)];simp[Dv,dig]
theorem Me:∀(zs:List Str),(Str.join ⟨#[]⟩ zs).cps.toList=zs.flatMap λz=>z.cps.toList
 |[]=>rfl
 |[z]=>by
  show z.cps.toList=_
  simp
 |a::b::r=>by
  rw[Ko,Me (b::r)];simp
theorem Xh(zs:List Str):E3 (zs.map .str)=some zs:=by
 induction zs with
 |nil=>rfl
 |cons z zs ih=>
  show (E3 (zs.map .str)).map (z :: ·)=_
  rw[ih];rfl
theorem Xi{x:Str}{zs:List Str}(h:(zs.map (·.length)).sum+zs.length*x.length<=1000000):Lx x (.lst (zs.map .str))=.ok (.str (Str.join x zs)):=by
 unfold Lx;simp only[Xh,A4 h,if_true]
theorem Sh{n:Nat}(h:n<=9):Er .str (nD n)=.ok (.str (dig n)):=by
 show (if 0<=(n:Int)/\(n:Int)<=9 then R.ok (D.str ⟨#[48+(n:Int).toNat]⟩) else .un)=_
 rw[if_pos (by omega),Int.toNat_natCast]
 rfl
theorem Nx(a b:Str)(h:a.length+b.length<=1000000):op2 .add (.str a) (.str b)=.ok (.str (a++b)):=if_pos (A4 h)
theorem Qjo:(" " : Str)=⟨#[32]⟩:=by decide +kernel
theorem Qet:("\n" : Str)=⟨#[10]⟩:=by decide +kernel
theorem Qeu:("" : Str)=⟨#[]⟩:=by decide +kernel
theorem e_g:("guest" : Str)=mkS gC:=by decide +kernel
theorem e_h:("house" : Str)=mkS hC:=by decide +kernel
def Aa(w:List Nat)(ds:List Nat):List Nat:=w++Dv ds
def Fe(w:List Nat)(ds:List Nat):Str:=mkS (Aa w ds++[10])
theorem Qav(ds:List Nat):((ds.map dig).map (·.length)).sum=ds.length:=by
 induction ds with
 |nil=>rfl
 |cons d ds ih=>
  rw[List.map_cons,List.map_cons,List.sum_cons,ih,List.length_cons]
  show 1+ds.length=_
  omega
theorem Kq(ds:List Nat):(Dv ds).length=2*ds.length:=by
 induction ds with
 |nil=>rfl
 |cons d ds ih=>
  have:Dv (d::ds)=32::(48+d)::Dv ds:=rfl;rw[this,List.length_cons,List.length_cons,ih,List.length_cons];omega
theorem Ny{C:Str->List D->R D}{ρ:Env}{a:Ex}{w:List Nat}{ds:List Nat}(hw:w.length<=5)(hd:ds.length<=6)(ha:ev C a ρ=.ok (.lst ((mkS w::ds.map dig).map .str))):ev C (.jn " " a) ρ=.ok (.str (mkS (Aa w ds))):=by
 rw[Rh,ha,R.bind_ok,Qjo,Xi]
 ·rw[Fw (Mc ds (mkS w))]
  rfl
 ·rw[List.map_cons,List.sum_cons,Qav,List.length_cons,List.length_map]
  have:(mkS w).length=w.length:=rfl;have e:(⟨#[32]⟩:Str).length=1:=rfl;rw[this,e];omega
theorem Nz{C:Str->List D->R D}{ρ:Env}{it:It}{i:Nat}{ds:List Nat}(hi:evI C it ρ=.ok (nsD ds))(hl:ρ.length=i)(hd:∀n∈ds,n<=9):ev C (.comp false (.b1 .str (.var i)) it .nil) ρ=.ok (.lst ((ds.map dig).map .str)):=by
 rw[D3,hi,R.bind_ok];unfold nsD;rw[Ch (k':=D.str) (g:=dig) λn hn=>?_]
 ·rfl
 ·subst hl
  simp[Sh (hd n hn)]
theorem Xj{w:List Nat}{ds:List Nat}(hw:w.length<=5)(hd:ds.length<=6):op2 .add (.str (mkS (Aa w ds))) (.str "\n")=.ok (.str (Fe w ds)):=by
 have l1:(mkS (Aa w ds)).length=w.length+2*ds.length:=by
  show (Aa w ds).toArray.size=_
  simp[Aa,Kq]
 rw[Qet,Nx _ _ (by rw[l1];show _+1<=_;omega)]
 congr 2
 exact Fw (by rw[Mb];rfl)
theorem Xk{T:Tab}(h:T.lookup ("line_of" : Str)=some Bv)(n:Nat)(w ds:List Nat)(hw:w.length<=5)(hl:ds.length<=6)(hd:∀n∈ds,n<=9):run T (n+1) "line_of" [.str (mkS w),.tup (nsD ds)]=.ok (.str (Fe w ds)):=by
 refine Ao h rfl (C3 ?_);have e1:ev (run T n) (.comp false (.b1 .str (.var 2)) (.seq (.var 1)) .nil) (A2 Bv [.str (mkS w),.tup (nsD ds)])=.ok (.lst ((ds.map dig).map .str)):=
  Nz (by simp[A2,Bv,Bo,A4 (show ds.length<=1000000 by omega)]) rfl hd
 have e2:ev (run T n) (.op .add (.lst (.cons (.var 0) .nil)) (.comp false (.b1 .str (.var 2)) (.seq (.var 1)) .nil)) (A2 Bv [.str (mkS w),.tup (nsD ds)])=.ok (.lst ((mkS w::ds.map dig).map .str)):=by
  have e0:ev (run T n) (.lst (.cons (.var 0) .nil)) (A2 Bv [.str (mkS w),.tup (nsD ds)])=.ok (.lst [.str (mkS w)]):=by simp[A2,Bv]
  rw[Ce,e0,R.bind_ok,e1,R.bind_ok];exact Nv _ _ (by simp;omega)
 rw[Ce,Ny hw hl e2,R.bind_ok,Aw,R.bind_ok];exact Xj hw hl
def C8(F:Fair):List (List Nat):=F.W.map (Aa gC)++F.H.map λp=>Aa hC (p.1::p.2)
def Ag(ls:List (List Nat)):List Nat:=ls.flatMap λl=>l++[10]
def Ap(F:Fair):Str:=mkS (Ag (C8 F))
structure Fine(F:Fair):Prop where
 w:∀w∈F.W,w.length<=5/\∀n∈w,n<=5
 h:∀p∈F.H,(p.1::p.2).length<=6/\∀n∈p.1::p.2,n<=5
theorem Mf{l:List Nat}{m:Nat}(hn:l.Nodup)(hl:∀x∈l,x<m):l.length<=m:=by
 have:=hn.length_le_of_subset (l₂:=List.range m) λx hx=>List.mem_range.2 (hl x hx)
 rwa [List.length_range] at this
theorem Qev{zs:List Str}{k:Nat}(h:∀z∈zs,z.length<=k):(zs.map (·.length)).sum<=k*zs.length:=by
 induction zs with
 |nil=>simp
 |cons z zs ih=>
  have h1:=h z List.mem_cons_self;have h2:=ih λy hy=>h y (List.mem_cons_of_mem _ hy)
  rw[List.map_cons,List.sum_cons,List.length_cons,Nat.mul_succ];omega
def Ff(F:Fair):List Str:=F.W.map (λw=>Fe gC w)++F.H.map λp=>Fe hC (p.1::p.2)
theorem Qaw(F:Fair):(Ff F).flatMap (λz=>z.cps.toList)=Ag (C8 F):=by
 unfold Ff Ag C8;rw[List.flatMap_append,List.flatMap_append,List.flatMap_map,List.flatMap_map,List.flatMap_map,List.flatMap_map];rfl
theorem U7{F:Fair}(Z:Fine F):∀z∈Ff F,z.length<=20:=by
 have hz:∀(w:List Nat) (ds:List Nat),w.length=5->ds.length<=6->(Fe w ds).length<=20:=λw ds a b=>by
  show (Aa w ds++[10]).toArray.size<=20
  simp[Aa,Kq,a];omega
 intro z hz';rcases List.mem_append.1 hz' with h|h
 ·obtain⟨w,hw,rfl⟩:=List.mem_map.1 h
  exact hz gC w rfl (by have:=(Z.w w hw).1;omega)
 ·obtain⟨p,hp,rfl⟩:=List.mem_map.1 h
  exact hz hC _ rfl (Z.h p hp).1
theorem Jk{F:Fair}(G:GoodF F):Fine F:=by
 have h5:=G.g5;have hH:=G.h5;refine⟨λw hw=>?_,λp hp=>?_⟩
 ·obtain⟨a,b⟩:=G.w w hw
  have:=Mf a b;exact⟨by omega,λn hn=>by have:=b n hn;omega⟩
 ·obtain⟨c,a,b⟩:=G.r p hp
  have:=Mf a b;refine⟨by rw[List.length_cons];omega,λn hn=>?_⟩
  rcases List.mem_cons.1 hn with rfl|hn
  ·exact c
  ·have:=b n hn;omega
theorem Si{T:Tab}(h1:T.lookup ("line_of" : Str)=some Bv)(h2:T.lookup ("shown" : Str)=some Cr)(n:Nat)(F:Fair)(G:GoodF F)(Z:Fine F):run T (n+2) "shown" [Af F]=.ok (.str (Ap F)):=by
 have h5:=G.g5;have hH:=G.h5;refine Ao h2 rfl ?_;refine(Ee (xs:=(F.W.map λw=>Fe gC w).map .str) ?_ (Bb _ λ_=>rfl) rfl).trans ?_
 ·rw[D3]
  have ei:evI (run T (n+1)) (.seq (.idx (.var 0) (.int 0))) (A2 Cr [Af F])=.ok (F.W.map wD):=by
   simp[A2,Cr,Af,atD,ixN,Bo,A4 (show F.W.length<=1000000 by omega)]
  rw[ei,R.bind_ok,Ch (k':=D.str) (g:=λw=>Fe gC w) λw hw=>?_]
  ·rfl
  ·have:=Xk h1 n gC w (by decide) (by have:=(Z.w w hw).1;omega) (λm hm=>by have:=(Z.w w hw).2 m hm;omega)
   simp[A2,Cr,Aw,wD,e_g,this]
 refine(Ee (xs:=(F.H.map λp=>Fe hC (p.1::p.2)).map .str) ?_ (Bb _ λ_=>rfl) rfl).trans ?_
 ·rw[D3]
  have ei:∀o,evI (run T (n+1)) (.seq (.idx (.var 0) (.int 1))) ((A2 Cr [Af F]).set 1 o)=.ok (F.H.map hD):=λo=>by
   simp[A2,Cr,Af,atD,ixN,Bo,A4 (show F.H.length<=1000000 by omega)]
  rw[ei,R.bind_ok,Ch (k':=D.str) (g:=λp:Nat×List Nat=>Fe hC (p.1::p.2)) λp hp=>?_]
  ·rfl
  ·have hl:=(Z.h p hp).1
   have:=Xk h1 n hC (p.1::p.2) (by decide) hl (λm hm=>by have:=(Z.h p hp).2 m hm;omega)
   have e2:op2 .add (.tup [nD p.1]) (.tup (nsD p.2))=.ok (.tup (nsD (p.1::p.2))):=Qeq _ _ (by rw[List.length_cons] at hl;simp;omega)
   simp[A2,Cr,Aw,hD,e_h,e2,this]
 refine C3 ?_;have hl:(Ff F).length<=10:=by unfold Ff;simp;omega
 have e1:op2 .add (.lst ((F.W.map λw=>Fe gC w).map .str)) (.lst ((F.H.map λp=>Fe hC (p.1::p.2)).map .str))=.ok (.lst ((Ff F).map .str)):=by
  rw[Nv _ _ (by simp;omega),<-List.map_append]
  rfl
 have e2:Lx "" (.lst ((Ff F).map .str))=.ok (.str (Ap F)):=by
  have hs:=Qev (U7 Z);rw[Qeu,Xi (by show _+(Ff F).length*0<=_;omega),Fw (Me _),Qaw]
  rfl
 rw[Rh,Ce];simp only[Pc]
 show ((R.ok (D.lst _) >>= λx=>R.ok (D.lst _) >>= λy=>op2 .add x y) >>= λy=>Lx "" y)=_
 rw[R.bind_ok,R.bind_ok,e1,R.bind_ok,e2]
theorem Bd.for2{C:Str->List D->R D}{ρ:Env}{i j:Nat}{it:It}{b r:Sms}{xs:List D}{P:Fl->Prop}(I:Nat->Env->Prop)(hI:evI C it ρ=.ok xs)(h0:I 0 (unown (Ak it) ρ))
  (hs:∀k x ρ,xs[k]?=some x->I k ρ->∃u v,x=.tup [u,v]/\Bd (exs C b ((ρ.set i (some (u,false))).set j (some (v,false)))) (nxP (I (k+1)))) (hr:∀ρ',I xs.length ρ'->Bd (exs C r ρ') P):Bd (exs C (.cons (.for2 i j it b) r) ρ) P:=by
 obtain⟨ρ',e,h⟩:=Ji (f:=λx ρ=>match x with|.tup [u,v]=>exs C b ((ρ.set i (some (u,false))).set j (some (v,false)))|_=>.un) I h0 (λk x ρ hx hk=>by
  obtain⟨u,v,rfl,q,e,ρ',rfl,h⟩:=hs k x ρ hx hk;exact⟨ρ',e,h⟩)
 exact(hr ρ' h).by (Gj (by rw[Qw,hI,R.bind_ok];exact e))
theorem Gk(ls:List (List Nat))(l:List Nat):Ag (ls++[l])=Ag ls++(l++[10]):=by
 simp[Ag]
theorem Fx{ls:List (List Nat)}(h:∀l∈ls,l.length<=19):(Ag ls).length<=20*ls.length:=by
 induction ls with
 |nil=>simp[Ag]
 |cons l ls ih=>
  have h1:=h l List.mem_cons_self;have h2:=ih λy hy=>h y (List.mem_cons_of_mem _ hy)
  have:Ag (l::ls)=l++[10]++Ag ls:=rfl;rw[this,List.length_append,List.length_append,List.length_cons];simp;omega
theorem Cq{w ds:List Nat}(hw:w.length=5)(hd:ds.length<=6):(Aa w ds).length<=19:=by
 simp[Aa,Kq,hw];omega
theorem Pk{C:Str->List D->R D}{ρ:Env}{a:Ex}{i:Nat}{acc w ds:List Nat}{o:Bool}(hw:w.length=5)(hd:ds.length<=6)(hz:acc.length<=1000)(hi:ρ[i]?=some (some (.str (mkS acc),o)))(ha:ev C (.jn " " a) ρ=.ok (.str (mkS (Aa w ds)))):ev C (.op .add (.op .add (.var i) (.jn " " a)) (.str "\n")) ρ=.ok (.str (mkS (acc++(Aa w ds++[10])))):=by
 have l1:=Cq hw hd;have e1:op2 .add (.str (mkS acc)) (.str (mkS (Aa w ds)))=.ok (.str (mkS (acc++Aa w ds))):=by
  rw[Nx _ _ (by show acc.toArray.size+(Aa w ds).toArray.size<=_;simp;omega),Fw (Mb _ _)]
  rfl
 have e2:op2 .add (.str (mkS (acc++Aa w ds))) (.str "\n")=.ok (.str (mkS (acc++Aa w ds++[10]))):=by
  rw[Qet,Nx _ _ (by show (acc++Aa w ds).toArray.size+1<=_;simp;omega),Fw (Mb _ _)]
  rfl
 have e0:ev C (.var i) ρ=.ok (.str (mkS acc)):=by simp[hi]
 rw[Ce,Ce,e0,R.bind_ok,ha,R.bind_ok,e1,R.bind_ok,Aw,R.bind_ok,e2,List.append_assoc]
theorem Dw{α:Type}{l:List α}{k:Nat}{x:α}(h:l[k]?=some x):l.take (k+1)=l.take k++[x]:=by
 rw[List.take_succ,h];rfl
theorem Xm{T:Tab}(h:T.lookup ("_law_shown" : Str)=some Fb)(n:Nat)(F:Fair)(G:GoodF F)(Z:Fine F):run T (n+1) "_law_shown" [Af F]=.ok (.str (Ap F)):=by
 have h5:=G.g5;have hH:=G.h5;have key:∃d,run T (n+1) "_law_shown" [Af F]=.ok d/\d=.str (Ap F):=by
  refine Kn h rfl ?_;refine Bd.by (D2 (d:=.str (mkS [])) (by rw[Aw,Qeu];rfl) rfl) ?_
  have b1:∀k,(Ag ((F.W.take k).map (Aa gC))).length<=100:=λk=>by
   have:=Fx (ls:=(F.W.take k).map (Aa gC)) λl hl=>by
    obtain⟨w,hw,rfl⟩:=List.mem_map.1 hl;exact Cq rfl (by have:=(Z.w w (List.mem_of_mem_take hw)).1;omega)
   rw[List.length_map,List.length_take] at this;omega
  have b2:∀k,(Ag ((F.H.take k).map λp=>Aa hC (p.1::p.2))).length<=100:=λk=>by
   have:=Fx (ls:=(F.H.take k).map λp=>Aa hC (p.1::p.2)) λl hl=>by
    obtain⟨p,hp,rfl⟩:=List.mem_map.1 hl;exact Cq rfl (Z.h p (List.mem_of_mem_take hp)).1
   rw[List.length_map,List.length_take] at this;omega
  refine Bd.for1 (xs:=F.W.map wD) (λk ρ=>∃x y z,ρ=[some (Af F,false),some (.str (mkS (Ag ((F.W.take k).map (Aa gC)))),false),x,y,z]) ?_ ⟨none,none,none,by simp[A2,Fb,Ak,unown,Aj,Ag]⟩ ?_ ?_
  ·simp[A2,Fb,Af,atD,ixN,Bo,A4 (show F.W.length<=1000000 by omega)]
  ·rintro k d ρ hd ⟨x,y,z,rfl⟩
   obtain⟨w,hw,rfl⟩:=Nw hd;have hwm:=List.mem_of_getElem? hw;have zw:=Z.w w hwm;refine Bd.by (D2 (d:=.str (mkS (Ag ((F.W.take (k+1)).map (Aa gC))))) ?_ rfl) (Bd.nil ⟨some (wD w,false),y,z,rfl⟩)
   rw[Dw hw,List.map_append,List.map_singleton,Gk];refine Pk rfl (by omega) (by have:=b1 k;omega) rfl (Ny (by decide) (by omega) ?_)
   have e1:=Nz (C:=run T n) (ρ:=[some (Af F,false),some (.str (mkS (Ag ((F.W.take k).map (Aa gC)))),false),some (wD w,false),y,z]) (it:=.seq (.var 2)) (i:=5) (ds:=w) (by simp[wD,Bo,A4 (show w.length<=1000000 by omega)]) rfl (λm hm=>by have:=zw.2 m hm;omega)
   rw[Ce,show ([some (Af F,false),some (D.str (mkS (Ag ((F.W.take k).map (Aa gC)))),false),x,y,z]:Env).set 2 (some (wD w,false))=[some (Af F,false),some (.str (mkS (Ag ((F.W.take k).map (Aa gC)))),false),some (wD w,false),y,z] from rfl,e1]
   simp only[Qbt,Nq,Ai,Aw,R.bind_ok,List.length_cons,List.length_nil,Nat.zero_add,Qhy,if_true,e_g];exact Nv [.str (mkS gC)] ((w.map dig).map .str) (by simp;omega)
  ·rintro ρ' ⟨x,y,z,rfl⟩
   rw[List.length_map,List.take_length];refine Bd.for2 (xs:=F.H.map hD) (λk ρ=>∃x y z,ρ=[some (Af F,false),some (.str (mkS (Ag (F.W.map (Aa gC))++Ag ((F.H.take k).map λp=>Aa hC (p.1::p.2)))),false),x,y,z]) ?_ ⟨x,y,z,by simp[Ak,unown,Aj,Ag]⟩ ?_ ?_
   ·simp[Af,atD,ixN,Bo,A4 (show F.H.length<=1000000 by omega)]
   ·rintro k d ρ hd ⟨x,y,z,rfl⟩
    obtain⟨p,hp,rfl⟩:=Nw hd;have hpm:=List.mem_of_getElem? hp;have zp:=Z.h p hpm;have zl:=zp.1;rw[List.length_cons] at zl;refine⟨nD p.1,.tup (nsD p.2),rfl,?_⟩;refine Bd.by (D2 (d:=.str (mkS (Ag (F.W.map (Aa gC))++Ag ((F.H.take (k+1)).map λp=>Aa hC (p.1::p.2))))) ?_ rfl) (Bd.nil ⟨x,some (nD p.1,false),some (.tup (nsD p.2),false),rfl⟩)
    rw[Dw hp,List.map_append,List.map_singleton,Gk,<-List.append_assoc];have b3:=b1 F.W.length;rw[List.take_length] at b3;refine Pk rfl zp.1 (by have:=b2 k;rw[List.length_append];omega) rfl (Ny (by decide) zp.1 ?_)
    have e1:=Nz (C:=run T n) (ρ:=[some (Af F,false),some (.str (mkS (Ag (F.W.map (Aa gC))++Ag ((F.H.take k).map λp=>Aa hC (p.1::p.2)))),false),x,some (nD p.1,false),some (.tup (nsD p.2),false)]) (it:=.seq (.var 4)) (i:=5) (ds:=p.2) (by simp[Bo,A4 (show p.2.length<=1000000 by omega)]) rfl (λm hm=>by have:=zp.2 m (List.mem_cons_of_mem _ hm);omega)
    have ed:=Sh (n:=p.1) (by have:=zp.2 p.1 List.mem_cons_self;omega)
    rw[Ce,show (([some (Af F,false),some (D.str (mkS (Ag (F.W.map (Aa gC))++Ag ((F.H.take k).map λp=>Aa hC (p.1::p.2)))),false),x,y,z]:Env).set 3 (some (nD p.1,false))).set 4 (some (.tup (nsD p.2),false))=[some (Af F,false),some (.str (mkS (Ag (F.W.map (Aa gC))++Ag ((F.H.take k).map λp=>Aa hC (p.1::p.2)))),false),x,some (nD p.1,false),some (.tup (nsD p.2),false)] from rfl,e1]
    have e0:ev (run T n) (.lst (.cons (.str "house") (.cons (.b1 .str (.var 3)) .nil))) [some (Af F,false),some (.str (mkS (Ag (F.W.map (Aa gC))++Ag ((F.H.take k).map λp=>Aa hC (p.1::p.2)))),false),x,some (nD p.1,false),some (.tup (nsD p.2),false)]=.ok (.lst [.str (mkS hC),.str (dig p.1)]):=by
     simp[Aw,ed,e_h]
    rw[e0,R.bind_ok,R.bind_ok];exact Nv _ _ (by simp;omega)
   ·rintro ρ' ⟨x,y,z,rfl⟩
    rw[List.length_map,List.take_length];refine Bd.ret (d:=.str (Ap F)) ?_ rfl;simp[Ap,C8,Ag]
 obtain⟨d,e,rfl⟩:=key;exact e
@[simp] theorem Qew(n:Nat)(x:Str):lo n (.str x)=true:=by cases n<;>rfl
theorem Gm:∀{ls:List (List Nat)},(∀l∈ls,10∉l)->Aq 10 (mkS (Ag ls))=ls.map mkS++[mkS []]
 |[],_=>rfl
 |l::ls,h=>by
  have ih:=Gm (ls:=ls) λy hy=>h y (List.mem_cons_of_mem _ hy)
  have e:Ag (l::ls)=l++10::Ag ls:=by simp[Ag]
  unfold Aq at ih |-
  show (A0 10 (Ag (l::ls)).toArray.toList).map _=_
  have ih':(A0 10 (Ag ls)).map (λl=>(⟨l.toArray⟩:Str))=ls.map mkS++[mkS []]:=ih
  rw[e,List.toList_toArray,E6 (h l List.mem_cons_self),List.map_cons,ih'];rfl
theorem Fg:∀(ds:List Nat) {w:List Nat},32∉w->Aq 32 (mkS (Aa w ds))=mkS w::ds.map dig
 |[],w,h=>by
  show (A0 32 (Aa w []).toArray.toList).map _=_
  have:Aa w []=w:=by simp[Aa,Dv]
  rw[List.toList_toArray,this,Es h];rfl
 |n::ds,w,h=>by
  have ih:=Fg ds (w:=[48+n]) (by simp;omega)
  have e:Aa w (n::ds)=w++32::Aa [48+n] ds:=by simp[Aa,Dv]
  have ih':(A0 32 (Aa [48+n] ds)).map (λl=>(⟨l.toArray⟩:Str))=mkS [48+n]::ds.map dig:=ih
  show (A0 32 (Aa w (n::ds)).toArray.toList).map _=_
  rw[List.toList_toArray,e,E6 h,List.map_cons,ih'];rfl
theorem Mg{ds:List Nat}:10∉Dv ds:=by
 unfold Dv;simp;intro x _;omega
theorem Qjp:("0" : Str)=dig 0:=by decide +kernel
theorem Qjq:("1" : Str)=dig 1:=by decide +kernel
theorem Qjr:("2" : Str)=dig 2:=by decide +kernel
theorem Qjs:("3" : Str)=dig 3:=by decide +kernel
theorem Qjt:("4" : Str)=dig 4:=by decide +kernel
theorem Qju:("5" : Str)=dig 5:=by decide +kernel
theorem Xn:K0[2]?=some (("NUMBERS" : Str),D.tup ((List.range 6).map λn=>.str (dig n))):=by
 show some (("NUMBERS" : Str),D.tup [.str "0",.str "1",.str "2",.str "3",.str "4",.str "5"])=_
 rw[Qjp,Qjq,Qjr,Qjs,Qjt,Qju];rfl
theorem Xo(a b:Nat):eqD (.str (dig a)) (.str (dig b))=decide (a=b):=by
 show (dig a==dig b)=_
 by_cases h:a=b
 ·subst h;simp
 ·rw[decide_eq_false h,beq_eq_false_iff_ne]
  intro z;unfold dig at z;simp at z;exact h z
theorem Pl{T:Tab}(h:T.lookup ("number_of" : Str)=some Bl)(n k:Nat)(hk:k<=5):run T (n+1) "number_of" [.str (dig k)]=.ok (nD k):=by
 refine Ao h rfl (C3 ?_);have hi:inD (.str (dig k)) ((List.range 6).map λn=>.str (dig n))=true:=by
  unfold inD;rw[List.any_eq_true];exact⟨.str (dig k),List.mem_map.2 ⟨k,List.mem_range.2 (by omega),rfl⟩,by rw[Xo];simp⟩
 have hf:Gx (.str (dig k)) ((List.range 6).map λn=>.str (dig n))=some k:=by
  have:k=0\/k=1\/k=2\/k=3\/k=4\/k=5:=by omega
  have e6:List.range 6=[0,1,2,3,4,5]:=by decide
  rw[e6];rcases this with rfl|rfl|rfl|rfl|rfl|rfl<;>simp[Gx,Xo]
 have hl:lo 9 (.str (dig k))=true:=rfl;simp[A2,Bl,Et,Xn,hl,hi,hf,Gy,nD]
def itm(F:Fair):List (Bool×List Nat):=F.W.map (λw=>(true,w))++F.H.map λp=>(false,p.1::p.2)
def lnC(i:Bool×List Nat):List Nat:=Aa (if i.1 then gC else hC) i.2
theorem Dx(F:Fair):(itm F).map lnC=C8 F:=by
 unfold itm C8;rw[List.map_append,List.map_map,List.map_map];rfl
def hD':List Nat->D
 |r::l=>hD (r,l)
 |[]=>.non
theorem U8{α:Type}(x:α)(xs:List α):Lf.cut (x::xs) (some 1) none=xs:=by
 simp[Lf.cut,Lf.sIx]
theorem Qhz{α:Type}(x:α)(xs:List α):Lf.cut (x::xs) none (some 1)=[x]:=by
 simp[Lf.cut,Lf.sIx]
theorem Qjv:(mkS hC==("guest" : Str))=false:=by decide +kernel
theorem Qjw:(mkS gC==("guest" : Str))=true:=by decide +kernel
theorem Qjx:(mkS hC==("house" : Str))=true:=by decide +kernel
theorem n_g:(mkS []==("guest" : Str))=false:=by decide +kernel
theorem n_h:(mkS []==("house" : Str))=false:=by decide +kernel
theorem Xp{T:Tab}(h1:T.lookup ("number_of" : Str)=some Bl)(h2:T.lookup ("likely_fair" : Str)=some B9)(n:Nat)(F:Fair)(G:GoodF F)(Z:Fine F):run T (n+2) "likely_fair" [.str (Ap F)]=.ok (Af F):=by
 have h5:=G.g5;have hH:=G.h5;have il:(itm F).length=F.W.length+F.H.length:=by simp[itm]
 have iz:∀i∈itm F,i.2.length<=6/\(∀m∈i.2,m<=5)/\(i.1=false->i.2≠[]):=λi hi=>by
  rcases List.mem_append.1 hi with h|h
  ·obtain⟨w,hw,rfl⟩:=List.mem_map.1 h
   have:=Z.w w hw;exact⟨by show w.length<=6;omega,this.2,λz=>by cases z⟩
  ·obtain⟨p,hp,rfl⟩:=List.mem_map.1 h
   have:=Z.h p hp;exact⟨this.1,this.2,λ_=>by simp⟩
 have es:Aq 10 (Ap F)=(itm F).map (λi=>mkS (lnC i))++[mkS []]:=by
  unfold Ap;rw[Gm,<-Dx,List.map_map]
  ·rfl
  ·intro l hl
   rw[<-Dx] at hl;obtain⟨i,hi,rfl⟩:=List.mem_map.1 hl;unfold lnC Aa;rw[List.mem_append,not_or];refine⟨?_,Mg⟩;cases i.1<;>decide
 have tl:(Ap F).length<=1000:=by
  have:=Fx (ls:=C8 F) λl hl=>by
   rw[<-Dx] at hl;obtain⟨i,hi,rfl⟩:=List.mem_map.1 hl;exact Cq (by cases i.1<;>rfl) (iz i hi).1
  rw[<-Dx,List.length_map,il] at this
  show (Ag (C8 F)).toArray.size<=1000
  rw[<-Dx];simp;omega
 have key:∃d,run T (n+2) "likely_fair" [.str (Ap F)]=.ok d/\d=Af F:=by
  refine Kn h2 rfl ?_;refine Bd.by (Ee (xs:=[]) (by simp) rfl rfl) ?_
  refine Bd.by (Ee (xs:=[]) (by simp) rfl rfl) ?_
  refine Bd.for1 (xs:=(((itm F).map λi=>mkS (lnC i))++[mkS []]).map .str) (λk ρ=>∃x y z,ρ=[some (.str (Ap F),false),some (.lst ((((itm F).take k).filter (·.1)).map λi=>wD i.2),true),some (.lst ((((itm F).take k).filter (!·.1)).map λi=>hD' i.2),true),x,y,z]) ?_ ⟨none,none,none,by simp[A2,B9,Ak,unown,Aj]⟩ ?_ ?_
  ·have:Di 10 (.str (Ap F))=.ok (.lst ((Aq 10 (Ap F)).map .str)):=if_pos (A4 (by omega))
   rw[Fc,Eu];simp only[A2,B9]
   show ((R.ok (D.str (Ap F)) >>= λy=>Di 10 y) >>= _)=_
   rw[R.bind_ok,this,R.bind_ok,es];simp[Bo,A4 (show (itm F).length+1<=1000000 by omega)]
  ·rintro k d ρ hd ⟨x,y,z,rfl⟩
   obtain⟨s,hs,rfl⟩:=Nw hd;have hnum:∀(ds:List Nat) (ρ:Env) (w:Str),ρ.length=6->ρ[4]?=some (some (.lst ((w::ds.map dig).map .str),true))->ds.length<=6->(∀m∈ds,m<=5)->ev (run T (n+1)) (.b1 .tuple (.comp false (.call "number_of" (.cons (.var 6) .nil)) (.seq (.slc (.var 4) (.cons (.int 1) .nil) .nil)) .nil)) ρ=.ok (.tup (nsD ds)):=λds ρ w hl h4 hz hm=>by
    have ei:evI (run T (n+1)) (.seq (.slc (.var 4) (.cons (.int 1) .nil) .nil)) ρ=.ok ((ds.map dig).map .str):=by
     rw[Fc,Kj];simp only[Pc,h4,R.bind_ok,Nq,Ai,Bp,bound,Oe,List.map_cons,U8,Bo];rw[if_pos (A4 (by simp;omega))]
    rw[Gi,D3,ei,R.bind_ok,List.map_map];have:=Ch (f:=λd=>tgt false d >>= λe=>J0 (run T (n+1)) .nil (ρ++e) >>= λk=>if k then ev (run T (n+1)) (.call "number_of" (.cons (.var 6) .nil)) (ρ++e) >>= λy=>.ok (some y) else .ok none) (k:=λm=>D.str (dig m)) (k':=nD) (g:=id) (l:=ds) λm hmm=>by
     have:=Pl h1 n m (hm m hmm);have e6:(ρ++[some (D.str (dig m),false)])[6]?=some (some (D.str (dig m),false)):=by
      rw[List.getElem?_append_right (by omega),hl];rfl
     simp[e6,this]
    rw[show (D.str ∘ dig)=λm=>D.str (dig m) from rfl,this,List.map_id]
    rfl
   have hspl:∀(s:Str) (ρ:Env),ρ[3]?=some (some (.str s,false))->s.length<=1000->ev (run T (n+1)) (.spl (.var 3) 32) ρ=.ok (.lst ((Aq 32 s).map .str)):=λs ρ h3 hz=>by
    have:Di 32 (.str s)=.ok (.lst ((Aq 32 s).map .str)):=if_pos (A4 (by omega))
    rw[Eu];simp only[Pc,h3,R.bind_ok,this]
   by_cases hk:k<(itm F).length
   ·rw[List.getElem?_append_left (by rw[List.length_map];exact hk),List.getElem?_map] at hs
    cases hi:(itm F)[k]? with
    |none=>rw[hi] at hs;cases hs
    |some i=>
     rw[hi] at hs;cases hs;obtain⟨z1,z2,z3⟩:=iz i (List.mem_of_getElem? hi);have ll:(mkS (lnC i)).length<=1000:=by
      have:=Cq (w:=if i.1 then gC else hC) (ds:=i.2) (by cases i.1<;>rfl) z1
      show (lnC i).toArray.size<=1000
      unfold lnC;simp;omega
     have ew:Aq 32 (mkS (lnC i))=mkS (if i.1 then gC else hC)::i.2.map dig:=Fg i.2 (by cases i.1<;>decide)
     refine Bd.by (Ee (xs:=(mkS (if i.1 then gC else hC)::i.2.map dig).map .str) (by rw[hspl _ _ rfl ll,ew]) (Bb _ λ_=>rfl) rfl) ?_
     refine Bd.by (D2 (d:=.tup (nsD i.2)) (hnum i.2 _ _ rfl rfl z1 z2) (Dg _)) ?_
     obtain⟨b,ds⟩:=i
     cases b with
     |true=>
      refine Bd.by (Eg (ρ':=[some (.str (Ap F),false),some (.lst ((((itm F).take k).filter (·.1)).map (λi=>wD i.2)++[wD ds]),true),some (.lst ((((itm F).take k).filter (!·.1)).map λi=>hD' i.2),true),some (.str (mkS (lnC (true,ds))),false),some (.lst ((mkS gC::ds.map dig).map .str),true),some (.tup (nsD ds),false)]) ?_ ?_) (Bd.nil ⟨some (.str (mkS (lnC (true,ds))),false),some (.lst ((mkS gC::ds.map dig).map .str),true),some (.tup (nsD ds),false),?_⟩)
      ·have e0:eqD (.str (mkS gC)) (.str "guest")=true:=Qjw
       simp[Aw,at0,e0]
      ·have:=Qbz (C:=run T (n+1)) (ρ:=[some (.str (Ap F),false),some (.lst ((((itm F).take k).filter (·.1)).map λi=>wD i.2),true),some (.lst ((((itm F).take k).filter (!·.1)).map λi=>hD' i.2),true),some (.str (mkS (lnC (true,ds))),false),some (.lst ((mkS gC::ds.map dig).map .str),true),some (.tup (nsD ds),false)]) (i:=1) (e:=.var 5) (r:=.nil) (xs:=(((itm F).take k).filter (·.1)).map λi=>wD i.2) (d:=wD ds) rfl rfl (Dg _) (by have:=List.length_filter_le (·.1) ((itm F).take k);rw[List.length_take] at this;rw[List.length_map];omega)
       exact this.trans (by simp)
      ·rw[Dw hi,List.filter_append,List.filter_append,List.map_append,List.map_append]
       simp
     |false=>
      cases ds with
      |nil=>exact absurd rfl (z3 rfl)
      |cons r l=>
       have e0:eqD (.str (mkS hC)) (.str "guest")=false:=Qjv;have e1:eqD (.str (mkS hC)) (.str "house")=true:=Qjx;refine Bd.by (Sf (ρ':=[some (.str (Ap F),false),some (.lst ((((itm F).take k).filter (·.1)).map λi=>wD i.2),true),some (.lst ((((itm F).take k).filter (!·.1)).map (λi=>hD' i.2)++[hD (r,l)]),true),some (.str (mkS (lnC (false,r::l))),false),some (.lst ((mkS hC::(r::l).map dig).map .str),true),some (.tup (nsD (r::l)),false)]) ?_ ?_) (Bd.nil ⟨some (.str (mkS (lnC (false,r::l))),false),some (.lst ((mkS hC::(r::l).map dig).map .str),true),some (.tup (nsD (r::l)),false),?_⟩)
       ·simp[Aw,at0,e0]
       ·refine(Eg ?_ ?_).trans (De _)
        ·simp[Aw,at0,e1]
        ·have:=Qbz (C:=run T (n+1)) (ρ:=[some (.str (Ap F),false),some (.lst ((((itm F).take k).filter (·.1)).map λi=>wD i.2),true),some (.lst ((((itm F).take k).filter (!·.1)).map λi=>hD' i.2),true),some (.str (mkS (lnC (false,r::l))),false),some (.lst ((mkS hC::(r::l).map dig).map .str),true),some (.tup (nsD (r::l)),false)]) (i:=2) (e:=.op .add (.slc (.var 5) .nil (.cons (.int 1) .nil)) (.tup (.cons (.slc (.var 5) (.cons (.int 1) .nil) .nil) .nil))) (r:=.nil) (xs:=(((itm F).take k).filter (!·.1)).map λi=>hD' i.2) (d:=hD (r,l)) rfl (by
          have c0:Lf.cut (nsD (r::l)) none (some 1)=[nD r]:=Qhz _ _;have c1:Lf.cut (nsD (r::l)) (some 1) none=nsD l:=U8 _ _;simp[bound,Oe,c0,c1,hD]) (by simp[hD]) (by have:=List.length_filter_le (!·.1) ((itm F).take k);rw[List.length_take] at this;rw[List.length_map];omega)
         exact this.trans (by simp)
       ·rw[Dw hi,List.filter_append,List.filter_append,List.map_append,List.map_append]
        simp[hD']
   ·have hk2:k=(itm F).length:=by
     have:=(List.getElem?_eq_some_iff.1 hs).1;simp at this;omega
    subst hk2;rw[List.getElem?_append_right (by simp),List.length_map,Nat.sub_self] at hs
    cases hs;have ew:Aq 32 (mkS [])=[mkS []]:=rfl;refine Bd.by (Ee (xs:=[D.str (mkS [])]) (by rw[hspl _ _ rfl (by decide),ew];rfl) rfl rfl) ?_
    refine Bd.by (D2 (d:=.tup (nsD [])) (hnum [] _ (mkS []) rfl rfl (by decide) (by simp)) rfl) ?_
    have e0:eqD (.str (mkS [])) (.str "guest")=false:=n_g;have e1:eqD (.str (mkS [])) (.str "house")=false:=n_h;refine Bd.by (Sf ?_ ((As ?_).trans (De _))) (Bd.nil ⟨some (.str (mkS []),false),some (.lst [.str (mkS [])],true),some (.tup [],false),?_⟩)
    ·simp[Aw,at0,e0]
    ·simp[Aw,at0,e1]
    ·rw[List.take_of_length_le (Nat.le_succ _),List.take_length]
     rfl
  ·rintro ρ' ⟨x,y,z,rfl⟩
   rw[List.length_map,List.length_append,List.length_map,List.take_of_length_le (by simp)]
   refine Bd.ret (d:=Af F) ?_ rfl;have f1:(itm F).filter (·.1)=F.W.map λw=>(true,w):=by
    unfold itm;rw[List.filter_append,List.filter_eq_self.2,List.filter_eq_nil_iff.2,List.append_nil]
    ·simp
    ·simp
   have f2:(itm F).filter (!·.1)=F.H.map λp=>(false,p.1::p.2):=by
    unfold itm;rw[List.filter_append,List.filter_eq_nil_iff.2,List.filter_eq_self.2,List.nil_append]
    ·simp
    ·simp
   rw[f1,f2,List.map_map,List.map_map];simp[Af];exact λ_ _ _=>rfl
 obtain⟨d,e,rfl⟩:=key;exact e
section
variable{C:Str->List D->R D}{ρ:Env}{f:Str}{as:Exs}{vs:List D}{c:Str}{o:Option D}{d:D}{e:Ex}{a b r:Sms}{l:Xl}{i:Nat}
theorem Sj(e1:evs C as ρ=.ok vs)(e2:C f vs=.xn c o):xE C (.call f as) ρ=some (c,o):=by
 show (match evs C as ρ with|.ok vs=>(match C f vs with|.xn c d=>some (c,d)|_=>none)|_=>none)=_
 rw[e1];simp only[e2]
theorem Qi0(e1:evs C as ρ=.ok vs)(e2:C f vs=.xn c o):ev C (.call f as) ρ=.xn c o:=by
 rw[Bs,e1,R.bind_ok,e2]
theorem Hr{t:Ex}(h:tst C t ρ=.ok false):xs C (.cons (.ife t a .nil) r) ρ=xs C r ρ:=by
 show (match (match tst C t ρ with|.ok k=>(if k then xs C a ρ else xs C .nil ρ)|_=>none) with|some c=>some c|none=>(match exm C (.ife t a .nil) ρ with|.ok (.nx ρ')=>xs C r ρ'|_=>none))=_
 rw[Qbw,h];rfl
theorem Hs{t:Ex}(h:tst C t ρ=.ok true)(h':xs C a ρ=some l):xs C (.cons (.ife t a b) r) ρ=some l:=by
 show (match (match tst C t ρ with|.ok k=>(if k then xs C a ρ else xs C b ρ)|_=>none) with|some c=>some c|none=>(match exm C (.ife t a b) ρ with|.ok (.nx ρ')=>xs C r ρ'|_=>none))=_
 rw[h];simp only[if_true,h']
theorem Qex(h:xE C e ρ=some l):xs C (.cons (.exp e) r) ρ=some l:=by
 show (match xE C e ρ with|some c=>some c|none=>_)=_
 rw[h]
end
section
variable{f:D->Env->R Fl}{g:D->Env->Option Xl}{P:D->Bool}{L:Nat->Xl}{J:Env->Prop}
theorem Fy(h1:∀k d ρ,J ρ->P d=true->∃ρ',J ρ'/\f (.tup [.int (k:Nat),d]) ρ=.ok (.nx ρ')/\g (.tup [.int (k:Nat),d]) ρ=none):∀(ds:List D) (k:Nat) (ρ:Env),J ρ->(∀d∈ds,P d=true)->∃ρ',J ρ'/\C4 f (B4 k ds) ρ=.ok (.nx ρ')/\E7 f g (B4 k ds) ρ=none
 |[],k,ρ,hj,_=>⟨ρ,hj,rfl,rfl⟩
 |d::ds,k,ρ,hj,hp=>by
  obtain⟨ρ1,j1,e1,e2⟩:=h1 k d ρ hj (hp d List.mem_cons_self);obtain⟨ρ2,j2,e3,e4⟩:=Fy h1 ds (k+1) ρ1 j1 λx hx=>hp x (List.mem_cons_of_mem _ hx)
  refine⟨ρ2,j2,?_,?_⟩
  ·show (f (.tup [.int (k:Nat),d]) ρ >>= λz=>match z with|.nx ρ'=>C4 f (B4 (k+1) ds) ρ'|.rt d=>.ok (.rt d))=_
   rw[e1];exact e3
  ·show (match g (.tup [.int (k:Nat),d]) ρ with|some l=>some l|none=>(match f (.tup [.int (k:Nat),d]) ρ with|.ok (.nx ρ')=>E7 f g (B4 (k+1) ds) ρ'|_=>none))=_
   rw[e1,e2];exact e4
theorem Ig{b:D}{r:List D}(h1:∀k d ρ,J ρ->P d=true->∃ρ',J ρ'/\f (.tup [.int (k:Nat),d]) ρ=.ok (.nx ρ')/\g (.tup [.int (k:Nat),d]) ρ=none)
  (h2:∀k ρ,J ρ->f (.tup [.int (k:Nat),b]) ρ=.un/\g (.tup [.int (k:Nat),b]) ρ=some (L k)):∀(ds:List D) (k:Nat) (ρ:Env),J ρ->(∀d∈ds,P d=true)->C4 f (B4 k (ds++b::r)) ρ=.un/\E7 f g (B4 k (ds++b::r)) ρ=some (L (k+ds.length))
 |[],k,ρ,hj,_=>by
  obtain⟨e1,e2⟩:=h2 k ρ hj;refine⟨?_,?_⟩
  ·show (f (.tup [.int (k:Nat),b]) ρ >>= _)=_
   rw[e1];rfl
  ·show (match g (.tup [.int (k:Nat),b]) ρ with|some l=>some l|none=>_)=_
   rw[e2];rfl
 |d::ds,k,ρ,hj,hp=>by
  obtain⟨ρ1,j1,e1,e2⟩:=h1 k d ρ hj (hp d List.mem_cons_self);obtain⟨e3,e4⟩:=Ig h1 h2 ds (k+1) ρ1 j1 λx hx=>hp x (List.mem_cons_of_mem _ hx)
  refine⟨?_,?_⟩
  ·show (f (.tup [.int (k:Nat),d]) ρ >>= λz=>match z with|.nx ρ'=>C4 f (B4 (k+1) (ds++b::r)) ρ'|.rt d=>.ok (.rt d))=_
   rw[e1];exact e3
  ·show (match g (.tup [.int (k:Nat),d]) ρ with|some l=>some l|none=>(match f (.tup [.int (k:Nat),d]) ρ with|.ok (.nx ρ')=>E7 f g (B4 (k+1) (ds++b::r)) ρ'|_=>none))=_
   rw[e1,e2];simp only;rw[e4,List.length_cons,Nat.add_assoc,Nat.add_comm 1]
end
open Classical in
def Cy(xs:List D)(m:Nat):Bool:=decide (∀(k:Nat) (d:D),xs[k]?=some d->below d m=true/\inD d (xs.take k)=false)
theorem Gn{xs:List D}{m:Nat}:Cy xs m=true↔∀(k:Nat) (d:D),xs[k]?=some d->below d m=true/\inD d (xs.take k)=false:=by
 unfold Cy;exact @decide_eq_true_iff _ (Classical.propDecidable _)
theorem Pm{l:List D}{k:Nat}(h:k<l.length):Oe none (some (k:Int)) (.tup l)=.ok (.tup (l.take k)):=by
 show R.ok (D.tup (cut l none (some (k:Int))))=_
 congr 2
 unfold cut sIx;simp only[List.drop_zero,Nat.sub_zero];rw[if_neg (by omega),Int.toNat_natCast,Nat.min_eq_left (by omega)]
theorem Ih{d:D}{m:Int}(h:below d m=true):∃i,d=.int i:=by
 cases d with
 |int i=>exact⟨i,rfl⟩
 |_=>cases h
structure Chk(T:Tab):Prop where
 below:T.lookup ("is_number_below" : Str)=some B6
 unlike:T.lookup ("are_unlike_numbers_below" : Str)=some Ae
 side:T.lookup ("is_side" : Str)=some Cp
 two:T.lookup ("has_two_sides" : Str)=some B7
 house:T.lookup ("is_house" : Str)=some C0
 chk:T.lookup ("checked" : Str)=some Bi
def gB(m:Nat):D->Bool
 |.tup l=>Cy l m
 |_=>false
def sz:D->Bool
 |.tup l=>decide (l.length<=10000)
 |_=>true
section
variable{T:Tab}(U:Chk T)
include U
theorem Qax(n:Nat)(d:D)(m:Nat)(hz:sz d=true):run T (n+2) "are_unlike_numbers_below" [d,nD m]=.ok (.bl (gB m d)):=by
 have no:D0 .tuple d=false->run T (n+2) "are_unlike_numbers_below" [d,nD m]=.ok (.bl false):=λh=>by
  refine Ao U.unlike rfl ?_;exact Bt (by simp[A2,Ae,h]) (by simp)
 cases d with
 |tup l=>
  refine Ao U.unlike rfl ?_;have hz':l.length<=10000:=of_decide_eq_true hz;refine(As (by simp[A2,Ae,D0])).trans ?_
  refine Xf (ds:=l) (λk ρ=>(∀(i:Nat) (d:D),i<k->l[i]?=some d->Lp.below d m=true/\inD d (l.take i)=false)/\∃x y,ρ=[some (.tup l,false),some (nD m,false),x,y]) (.inl (by simp[A2])) (by omega) ⟨λi d hi=>absurd hi (Nat.not_lt_zero _),none,none,rfl⟩ ?_ ?_
  ·rintro k d ρ hy ⟨hw,x,y',rfl⟩
   have hk:=(List.getElem?_eq_some_iff.1 hy).1;have hb:=Nt U.below n d m;have hf:¬(Lp.below d m=true/\inD d (l.take k)=false)->Cy l m=false:=λz=>Bool.eq_false_iff.2 λq=>z (Gn.1 q k d hy)
   by_cases q:Lp.below d m=true
   ·obtain⟨i,rfl⟩:=Ih q
    rw[q] at hb;by_cases q2:inD (.int i) (l.take k)=false
    ·refine .inl ⟨_,As ?_,λj d' hj e=>?_,some (nD k,false),some (.int i,false),rfl⟩
     ·simp[hb,bound,Pm hk,q2]
     ·rcases Nat.lt_or_ge j k with z|z
      ·exact hw j d' z e
      ·have:j=k:=by omega
       subst this;rw[hy] at e;cases e;exact⟨q,q2⟩
    ·refine .inr ⟨.bl false,Bt ?_ (by simp),by show R.ok (Fl.rt (D.bl (Cy l m)))=_;rw[hf λz=>q2 z.2]⟩
     have q3:inD (.int i) (l.take k)=true:=by simpa using q2
     simp[hb,bound,Pm hk,q3]
   ·refine .inr ⟨.bl false,Bt ?_ (by simp),by show R.ok (Fl.rt (D.bl (Cy l m)))=_;rw[hf λz=>q z.1]⟩
    have q':Lp.below d m=false:=by simpa using q
    rw[q'] at hb;simp[hb]
  ·rintro ρ' ⟨hw,x,y,rfl⟩
   have:Cy l m=true:=Gn.2 λk d e=>hw k d (List.getElem?_eq_some_iff.1 e).1 e
   show _=R.ok (Fl.rt (.bl (Cy l m)))
   rw[this];exact C3 (by simp)
 |_=>exact no rfl
def hB(g:Nat):D->Bool
 |.tup [r,l]=>Lp.below r 6&&gB g l
 |_=>false
def Ix:D->Bool
 |.tup l=>decide (1<=l.length)&&decide (l.length<=5)
 |_=>false
def U9:D->Bool
 |.tup [a,b]=>Ix a&&Ix b
 |_=>false
omit U in
theorem Qey:K0[0]?=some (("MOST_ON_A_SIDE" : Str),D.int 5):=rfl
omit U in
theorem Qi1:K0[1]?=some (("MOST_ROOMS" : Str),D.int 5):=rfl
omit U in
theorem ne2(l:List D)(h:l.length≠2):eqD (.int (l.length:Nat)) (.int 2)=false:=by
 show ((l.length:Int)==2)=false
 rw[beq_eq_false_iff_ne];omega
theorem Qi2(n:Nat)(d:D)(g:Nat)(hz:∀r l,d=.tup [r,l]->sz l=true):run T (n+3) "is_house" [d,nD g]=.ok (.bl (hB g d)):=by
 have no:D0 .tuple d=false->run T (n+3) "is_house" [d,nD g]=.ok (.bl false):=λh=>by
  refine Ao U.house rfl ?_;exact Bt (by simp[A2,C0,h]) (by simp)
 have no2:∀l:List D,l.length≠2->run T (n+3) "is_house" [.tup l,nD g]=.ok (.bl false):=λl h=>by
  refine Ao U.house rfl ?_;exact Bt (by simp[A2,C0,D0,ne2 l h]) (by simp)
 cases d with
 |tup l=>
  match l,hz with
  |[],_=>exact no2 [] (by simp)
  |[a],_=>exact no2 [a] (by simp)
  |a::b::c::r,_=>exact no2 _ (by simp)
  |[r,w],hz=>
   have e1:=Nt U.below (n+1) r 6;have e2:=Qax U n w g (hz r w rfl);refine Ao U.house rfl ?_;refine(As (by simp[A2,C0,D0,eqD])).trans (C3 ?_)
   cases q:Lp.below r 6 with
   |true=>
    rw[q] at e1;simp[A2,C0,atD,ixN,Et,Qi1,e1,e2,hB,q]
   |false=>
    rw[q] at e1;simp[A2,C0,atD,ixN,Et,Qi1,e1,hB,q]
 |_=>exact no rfl
theorem Sk(n:Nat)(d:D):run T (n+1) "is_side" [d]=.ok (.bl (Ix d)):=by
 refine Ao U.side rfl (C3 ?_)
 cases d with
 |tup l=>
  by_cases h1:1<=l.length
  ·by_cases h5:l.length<=5
   ·have a:(1:Int)<=(l.length:Int):=by omega
    have b:(l.length:Int)<=5:=by omega
    simp[A2,Cp,D0,Et,Qey,a,b,Ix,h1,h5]
   ·have a:(1:Int)<=(l.length:Int):=by omega
    have b:¬(l.length:Int)<=5:=by omega
    simp[A2,Cp,D0,Et,Qey,a,b,Ix,h1,h5]
  ·have a:¬(1:Int)<=(l.length:Int):=by omega
   simp[A2,Cp,D0,Et,Qey,a,Ix,h1]
 |_=>simp[A2,Cp,D0,Ix]
theorem Xq(n:Nat)(d:D):run T (n+2) "has_two_sides" [d]=.ok (.bl (U9 d)):=by
 have no:D0 .tuple d=false->run T (n+2) "has_two_sides" [d]=.ok (.bl false):=λh=>by
  refine Ao U.two rfl (C3 ?_);simp[A2,B7,h]
 have no2:∀l:List D,l.length≠2->run T (n+2) "has_two_sides" [.tup l]=.ok (.bl false):=λl h=>by
  refine Ao U.two rfl (C3 ?_);simp[A2,B7,D0,ne2 l h]
 cases d with
 |tup l=>
  match l with
  |[]=>exact no2 [] (by simp)
  |[a]=>exact no2 [a] (by simp)
  |a::b::c::r=>exact no2 _ (by simp)
  |[a,b]=>
   have e1:=Sk U n a;have e2:=Sk U n b;refine Ao U.two rfl (C3 ?_)
   cases q:Ix a with
   |true=>
    rw[q] at e1;simp[A2,B7,D0,atD,ixN,e1,e2,eqD,U9,q]
   |false=>
    rw[q] at e1;simp[A2,B7,D0,atD,ixN,e1,eqD,U9,q]
 |_=>exact no rfl
end
section
variable{T:Tab}(U:Chk T)
include U
theorem Qay(n:Nat)(d:D)(h:U9 d=false):run T (n+4) "checked" [d]=.xn "BadFair" (some .non):=by
 have t:tst (run T (n+3)) (.not (.call "has_two_sides" (.cons (.var 0) .nil))) (A2 Bi [d])=.ok true:=by
  simp[A2,Bi,Xq U (n+1) d,h]
 refine Ie (n:=n+3) (fn:=Bi) U.chk rfl (λk=>?_) (Hs t rfl)
 show exs _ (.cons _ _) _≠_
 rw[Ef t];intro z;cases z
def bG:Sms:=.cons (.ife (.not (.call "are_unlike_numbers_below" (.cons (.var 4) (.cons (.b1 .len (.var 2)) .nil)))) (.cons (.rsI "BadFair" (.tup (.cons (.str "guest") (.cons (.var 3) .nil)))) .nil) .nil) .nil
def bH:Sms:=.cons (.ife (.not (.call "is_house" (.cons (.var 6) (.cons (.b1 .len (.var 1)) .nil)))) (.cons (.rsI "BadFair" (.tup (.cons (.str "house") (.cons (.var 5) .nil)))) .nil) .nil) .nil
def fG(C:Str->List D->R D):D->Env->R Fl:=λx ρ=>match x with
 |.tup [u,v]=>exs C bG ((ρ.set 3 (some (u,false))).set 4 (some (v,false)))
 |_=>.un
def gG(C:Str->List D->R D):D->Env->Option Xl:=λx ρ=>match x with
 |.tup [u,v]=>xs C bG ((ρ.set 3 (some (u,false))).set 4 (some (v,false)))
 |_=>none
def fH(C:Str->List D->R D):D->Env->R Fl:=λx ρ=>match x with
 |.tup [u,v]=>exs C bH ((ρ.set 5 (some (u,false))).set 6 (some (v,false)))
 |_=>.un
def gH(C:Str->List D->R D):D->Env->Option Xl:=λx ρ=>match x with
 |.tup [u,v]=>xs C bH ((ρ.set 5 (some (u,false))).set 6 (some (v,false)))
 |_=>none
def jE(ws hs:List D)(ρ:Env):Prop:=∃x y z w,ρ=[some (.tup [.tup ws,.tup hs],false),some (.tup ws,false),some (.tup hs,false),x,y,z,w]
def lbl(c:Str)(k:Nat):Xl:=("BadFair",some (.tup [.str c,nD k]))
theorem g1(n:Nat)(ws hs:List D):∀k d ρ,jE ws hs ρ->(sz d&&gB hs.length d)=true->∃ρ',jE ws hs ρ'/\fG (run T (n+3)) (.tup [.int (k:Nat),d]) ρ=.ok (.nx ρ')/\gG (run T (n+3)) (.tup [.int (k:Nat),d]) ρ=none:=by
 rintro k d ρ ⟨x,y,z,w,rfl⟩ hp
 rw[Bool.and_eq_true] at hp;have e:=Qax U (n+1) d hs.length hp.1;rw[hp.2] at e;have t:tst (run T (n+3)) (.not (.call "are_unlike_numbers_below" (.cons (.var 4) (.cons (.b1 .len (.var 2)) .nil)))) [some (.tup [.tup ws,.tup hs],false),some (.tup ws,false),some (.tup hs,false),some (nD k,false),some (d,false),z,w]=.ok false:=by
  simp;rw[e];rfl
 exact⟨_,⟨some (nD k,false),some (d,false),z,w,rfl⟩,(As t).trans (De _),Hr t⟩
theorem g2(n:Nat)(ws hs:List D):∀k d ρ,jE ws hs ρ->sz d=true->gB hs.length d=false->fG (run T (n+3)) (.tup [.int (k:Nat),d]) ρ=.un/\gG (run T (n+3)) (.tup [.int (k:Nat),d]) ρ=some (lbl "guest" k):=by
 rintro k d ρ ⟨x,y,z,w,rfl⟩ hs' hp
 have e:=Qax U (n+1) d hs.length hs';rw[hp] at e;have t:tst (run T (n+3)) (.not (.call "are_unlike_numbers_below" (.cons (.var 4) (.cons (.b1 .len (.var 2)) .nil)))) [some (.tup [.tup ws,.tup hs],false),some (.tup ws,false),some (.tup hs,false),some (nD k,false),some (d,false),z,w]=.ok true:=by
  simp;rw[e];rfl
 refine⟨(Ef t).trans rfl,Hs t ?_⟩;have ee:ev (run T (n+3)) (.tup (.cons (.str "guest") (.cons (.var 3) .nil))) [some (.tup [.tup ws,.tup hs],false),some (.tup ws,false),some (.tup hs,false),some (nD k,false),some (d,false),z,w]=.ok (.tup [.str "guest",nD k]):=by
  simp[Aw]
 show (match (match ev (run T (n+3)) (.tup (.cons (.str "guest") (.cons (.var 3) .nil))) [some (.tup [.tup ws,.tup hs],false),some (.tup ws,false),some (.tup hs,false),some (nD k,false),some (d,false),z,w] with|.ok d=>(if noL d then some (("BadFair" : Str),some d) else none)|_=>none) with|some c=>some c|none=>_)=_
 rw[ee];rfl
def szH(d:D):Bool:=match d with|.tup [_,l]=>sz l|_=>true
omit U in
theorem Xr{d:D}(h:szH d=true):∀r l,d=.tup [r,l]->sz l=true:=λr l e=>by subst e;exact h
theorem h1(n:Nat)(ws hs:List D):∀k d ρ,jE ws hs ρ->(szH d&&hB ws.length d)=true->∃ρ',jE ws hs ρ'/\fH (run T (n+3)) (.tup [.int (k:Nat),d]) ρ=.ok (.nx ρ')/\gH (run T (n+3)) (.tup [.int (k:Nat),d]) ρ=none:=by
 rintro k d ρ ⟨x,y,z,w,rfl⟩ hp
 rw[Bool.and_eq_true] at hp;have e:=Qi2 U n d ws.length (Xr hp.1);rw[hp.2] at e;have t:tst (run T (n+3)) (.not (.call "is_house" (.cons (.var 6) (.cons (.b1 .len (.var 1)) .nil)))) [some (.tup [.tup ws,.tup hs],false),some (.tup ws,false),some (.tup hs,false),x,y,some (nD k,false),some (d,false)]=.ok false:=by
  simp;rw[e];rfl
 exact⟨_,⟨x,y,some (nD k,false),some (d,false),rfl⟩,(As t).trans (De _),Hr t⟩
theorem h2(n:Nat)(ws hs:List D):∀k d ρ,jE ws hs ρ->szH d=true->hB ws.length d=false->fH (run T (n+3)) (.tup [.int (k:Nat),d]) ρ=.un/\gH (run T (n+3)) (.tup [.int (k:Nat),d]) ρ=some (lbl "house" k):=by
 rintro k d ρ ⟨x,y,z,w,rfl⟩ hs' hp
 have e:=Qi2 U n d ws.length (Xr hs');rw[hp] at e;have t:tst (run T (n+3)) (.not (.call "is_house" (.cons (.var 6) (.cons (.b1 .len (.var 1)) .nil)))) [some (.tup [.tup ws,.tup hs],false),some (.tup ws,false),some (.tup hs,false),x,y,some (nD k,false),some (d,false)]=.ok true:=by
  simp;rw[e];rfl
 refine⟨(Ef t).trans rfl,Hs t ?_⟩;have ee:ev (run T (n+3)) (.tup (.cons (.str "house") (.cons (.var 5) .nil))) [some (.tup [.tup ws,.tup hs],false),some (.tup ws,false),some (.tup hs,false),x,y,some (nD k,false),some (d,false)]=.ok (.tup [.str "house",nD k]):=by
  simp[Aw]
 show (match (match ev (run T (n+3)) (.tup (.cons (.str "house") (.cons (.var 5) .nil))) [some (.tup [.tup ws,.tup hs],false),some (.tup ws,false),some (.tup hs,false),x,y,some (nD k,false),some (d,false)] with|.ok d=>(if noL d then some (("BadFair" : Str),some d) else none)|_=>none) with|some c=>some c|none=>_)=_
 rw[ee];rfl
omit U in
theorem Xs{e:Ex}{ρ:Env}{i:Nat}{d:D}(hf:Co e=false)(hu:unown (Aj e) ρ=ρ):give e ρ i d=ρ.set i (some (d,false)):=by
 unfold give Tq;rw[hf,hu];simp
omit U in
theorem Xt{C:Str->List D->R D}{e:Ex}{ρ:Env}{i:Nat}{d:D}{r:Sms}(h:ev C e ρ=.ok d)(hf:Co e=false)(hu:unown (Aj e) ρ=ρ):exs C (.cons (.asg i e) r) ρ=exs C r (ρ.set i (some (d,false))):=(Pe h).trans (by rw[Xs hf hu])
omit U in
theorem Xu{C:Str->List D->R D}{e:Ex}{ρ:Env}{i:Nat}{d:D}{r:Sms}(h:ev C e ρ=.ok d)(hf:Co e=false)(hu:unown (Aj e) ρ=ρ)(hx:xE C e ρ=none):xs C (.cons (.asg i e) r) ρ=xs C r (ρ.set i (some (d,false))):=by
 show (match xE C e ρ with|some c=>some c|none=>(match exm C (.asg i e) ρ with|.ok (.nx ρ')=>xs C r ρ'|_=>none))=_
 rw[hx,X8,h,R.bind_ok,Xs hf hu]
theorem Qez(n:Nat)(ws hs:List D)(hw:1<=ws.length/\ws.length<=5)(hh:1<=hs.length/\hs.length<=5) :
  exs (run T (n+3)) Bi.body (A2 Bi [.tup [.tup ws,.tup hs]])=exs (run T (n+3)) (.cons (.for2 3 4 (.enu (.var 1)) bG) (.cons (.for2 5 6 (.enu (.var 2)) bH) (.cons (.ret (.var 0)) .nil))) [some (.tup [.tup ws,.tup hs],false),some (.tup ws,false),some (.tup hs,false),none,none,none,none] /\
  xs (run T (n+3)) Bi.body (A2 Bi [.tup [.tup ws,.tup hs]])=xs (run T (n+3)) (.cons (.for2 3 4 (.enu (.var 1)) bG) (.cons (.for2 5 6 (.enu (.var 2)) bH) (.cons (.ret (.var 0)) .nil))) [some (.tup [.tup ws,.tup hs],false),some (.tup ws,false),some (.tup hs,false),none,none,none,none]:=by
 have h2:U9 (.tup [.tup ws,.tup hs])=true:=by
  show ((decide (1<=ws.length)&&decide (ws.length<=5))&&(decide (1<=hs.length)&&decide (hs.length<=5)))=true
  simp[hw.1,hw.2,hh.1,hh.2]
 have t:tst (run T (n+3)) (.not (.call "has_two_sides" (.cons (.var 0) .nil))) (A2 Bi [.tup [.tup ws,.tup hs]])=.ok false:=by
  simp[A2,Bi,Xq U (n+1) _,h2]
 exact⟨(As t).trans ((Xt rfl rfl rfl).trans (Xt rfl rfl rfl)),(Hr t).trans ((Xu rfl rfl rfl rfl).trans (Xu rfl rfl rfl rfl))⟩
omit U in
theorem Fh{C:Str->List D->R D}{i:Nat}{ρ:Env}{ds:List D}{o:Bool}(h:ρ[i]?=some (some (.tup ds,o)))(hz:ds.length<=5):evI C (.enu (.var i)) ρ=.ok (B4 0 ds):=by
 rw[Qbv,Pc,h];exact if_pos (A4 (by omega))
theorem Qi3(n:Nat)(ws hs:List D)(hw:1<=ws.length/\ws.length<=5)(hh:1<=hs.length/\hs.length<=5)(gg:∀d∈ws,(sz d&&gB hs.length d)=true)(ga:∀d∈hs,(szH d&&hB ws.length d)=true):run T (n+4) "checked" [.tup [.tup ws,.tup hs]]=.ok (.tup [.tup ws,.tup hs]):=by
 refine Ao (n:=n+3) U.chk rfl ?_;rw[(Qez U n ws hs hw hh).1];obtain⟨ρ1,⟨x,y,z,w,rfl⟩,e1,_⟩:=Fy (g1 U n ws hs) ws 0 [some (.tup [.tup ws,.tup hs],false),some (.tup ws,false),some (.tup hs,false),none,none,none,none] ⟨none,none,none,none,rfl⟩ gg;refine(Gj (ρ':=[some (.tup [.tup ws,.tup hs],false),some (.tup ws,false),some (.tup hs,false),x,y,z,w]) ?_).trans ?_
 ·show (evI (run T (n+3)) (.enu (.var 1)) _ >>= _)=_
  rw[Fh (ds:=ws) (o:=false) rfl hw.2];exact e1
 obtain⟨ρ2,⟨x',y',z',w',rfl⟩,e2,_⟩:=Fy (h1 U n ws hs) hs 0 [some (.tup [.tup ws,.tup hs],false),some (.tup ws,false),some (.tup hs,false),x,y,z,w] ⟨x,y,z,w,rfl⟩ ga;refine(Gj (ρ':=[some (.tup [.tup ws,.tup hs],false),some (.tup ws,false),some (.tup hs,false),x',y',z',w']) ?_).trans (C3 rfl)
 show (evI (run T (n+3)) (.enu (.var 2)) _ >>= _)=_
 rw[Fh (ds:=hs) (o:=false) rfl hh.2];have un:unown (Ak (.enu (.var 2))) [some (.tup [.tup ws,.tup hs],false),some (.tup ws,false),some (.tup hs,false),x,y,z,w]=[some (.tup [.tup ws,.tup hs],false),some (.tup ws,false),some (.tup hs,false),x,y,z,w]:=by simp[unown,Ak,Aj]
 show C4 _ _ (unown (Ak (.enu (.var 2))) [some (.tup [.tup ws,.tup hs],false),some (.tup ws,false),some (.tup hs,false),x,y,z,w])=_
 rw[un];exact e2
theorem Qaz(n:Nat)(ds r hs:List D)(b:D)(hw:1<=(ds++b::r).length/\(ds++b::r).length<=5)(hh:1<=hs.length/\hs.length<=5)(gg:∀d∈ds,(sz d&&gB hs.length d)=true)(bs:sz b=true)(bb:gB hs.length b=false):run T (n+4) "checked" [.tup [.tup (ds++b::r),.tup hs]]=.xn "BadFair" (some (.tup [.str "guest",nD ds.length])):=by
 obtain⟨e1,e2⟩:=Ig (g1 U n (ds++b::r) hs) (L:=lbl "guest") (λk ρ hj=>g2 U n _ hs k b ρ hj bs bb) (r:=r) ds 0 [some (.tup [.tup (ds++b::r),.tup hs],false),some (.tup (ds++b::r),false),some (.tup hs,false),none,none,none,none] ⟨none,none,none,none,rfl⟩ gg
 obtain⟨u1,u2⟩:=Qez U n (ds++b::r) hs hw hh;rw[Nat.zero_add] at e2;refine Ie (n:=n+3) U.chk rfl (λk=>?_) ?_
 ·rw[u1,Id]
  show ((evI (run T (n+3)) (.enu (.var 1)) _ >>= _) >>= _)≠_
  rw[Fh (ds:=ds++b::r) (o:=false) rfl hw.2]
  show ((C4 (fG (run T (n+3))) (B4 0 (ds++b::r)) _) >>= _)≠_
  intro z;have e1':C4 (fG (run T (n+3))) (B4 0 (ds++b::r)) (unown (Ak (.enu (.var 1))) [some (.tup [.tup (ds++b::r),.tup hs],false),some (.tup (ds++b::r),false),some (.tup hs,false),none,none,none,none])=.un:=e1;rw[e1'] at z;cases z
 ·rw[u2]
  show (match (match evI (run T (n+3)) (.enu (.var 1)) _ with|.ok ds=>E7 (fG (run T (n+3))) (gG (run T (n+3))) ds _|_=>none) with|some c=>some c|none=>_)=_
  rw[Fh (ds:=ds++b::r) (o:=false) rfl hw.2]
  show (match E7 (fG (run T (n+3))) (gG (run T (n+3))) (B4 0 (ds++b::r)) (unown (Ak (.enu (.var 1))) [some (.tup [.tup (ds++b::r),.tup hs],false),some (.tup (ds++b::r),false),some (.tup hs,false),none,none,none,none]) with|some c=>some c|none=>_)=_
  have e2':E7 (fG (run T (n+3))) (gG (run T (n+3))) (B4 0 (ds++b::r)) (unown (Ak (.enu (.var 1))) [some (.tup [.tup (ds++b::r),.tup hs],false),some (.tup (ds++b::r),false),some (.tup hs,false),none,none,none,none])=some (lbl "guest" ds.length):=e2;rw[e2'];rfl
end
section
variable{T:Tab}(U:Chk T)
include U
theorem Qb0(n:Nat)(ws ds r:List D)(b:D)(hw:1<=ws.length/\ws.length<=5)(hh:1<=(ds++b::r).length/\(ds++b::r).length<=5)(gg:∀d∈ws,(sz d&&gB (ds++b::r).length d)=true)(ga:∀d∈ds,(szH d&&hB ws.length d)=true)(bs:szH b=true)(bb:hB ws.length b=false):run T (n+4) "checked" [.tup [.tup ws,.tup (ds++b::r)]]=.xn "BadFair" (some (.tup [.str "house",nD ds.length])):=by
 obtain⟨u1,u2⟩:=Qez U n ws (ds++b::r) hw hh;obtain⟨ρ1,⟨x,y,z,w,rfl⟩,l1,l2⟩:=Fy (g1 U n ws (ds++b::r)) ws 0 [some (.tup [.tup ws,.tup (ds++b::r)],false),some (.tup ws,false),some (.tup (ds++b::r),false),none,none,none,none] ⟨none,none,none,none,rfl⟩ gg;have m1:exm (run T (n+3)) (.for2 3 4 (.enu (.var 1)) bG) [some (.tup [.tup ws,.tup (ds++b::r)],false),some (.tup ws,false),some (.tup (ds++b::r),false),none,none,none,none]=.ok (.nx [some (.tup [.tup ws,.tup (ds++b::r)],false),some (.tup ws,false),some (.tup (ds++b::r),false),x,y,z,w]):=by
  show (evI (run T (n+3)) (.enu (.var 1)) _ >>= _)=_
  rw[Fh (ds:=ws) (o:=false) rfl hw.2];exact l1
 have m2:xm (run T (n+3)) (.for2 3 4 (.enu (.var 1)) bG) [some (.tup [.tup ws,.tup (ds++b::r)],false),some (.tup ws,false),some (.tup (ds++b::r),false),none,none,none,none]=none:=by
  show (match evI (run T (n+3)) (.enu (.var 1)) _ with|.ok ds=>E7 (fG (run T (n+3))) (gG (run T (n+3))) ds _|_=>none)=_
  rw[Fh (ds:=ws) (o:=false) rfl hw.2];exact l2
 obtain⟨e1,e2⟩:=Ig (h1 U n ws (ds++b::r)) (L:=lbl "house") (λk ρ hj=>h2 U n ws _ k b ρ hj bs bb) (r:=r) ds 0 [some (.tup [.tup ws,.tup (ds++b::r)],false),some (.tup ws,false),some (.tup (ds++b::r),false),x,y,z,w] ⟨x,y,z,w,rfl⟩ ga
 rw[Nat.zero_add] at e2;have un:unown (Ak (.enu (.var 2))) [some (.tup [.tup ws,.tup (ds++b::r)],false),some (.tup ws,false),some (.tup (ds++b::r),false),x,y,z,w]=[some (.tup [.tup ws,.tup (ds++b::r)],false),some (.tup ws,false),some (.tup (ds++b::r),false),x,y,z,w]:=by simp[unown,Ak,Aj]
 refine Ie (n:=n+3) U.chk rfl (λk=>?_) ?_
 ·rw[u1,Gj m1,Id]
  show ((evI (run T (n+3)) (.enu (.var 2)) _ >>= _) >>= _)≠_
  rw[Fh (ds:=ds++b::r) (o:=false) rfl hh.2]
  show ((C4 (fH (run T (n+3))) (B4 0 (ds++b::r)) (unown (Ak (.enu (.var 2))) [some (.tup [.tup ws,.tup (ds++b::r)],false),some (.tup ws,false),some (.tup (ds++b::r),false),x,y,z,w])) >>= _)≠_
  rw[un,e1];intro q;cases q
 ·rw[u2]
  show (match xm (run T (n+3)) (.for2 3 4 (.enu (.var 1)) bG) [some (.tup [.tup ws,.tup (ds++b::r)],false),some (.tup ws,false),some (.tup (ds++b::r),false),none,none,none,none] with|some c=>some c|none=>(match exm (run T (n+3)) (.for2 3 4 (.enu (.var 1)) bG) [some (.tup [.tup ws,.tup (ds++b::r)],false),some (.tup ws,false),some (.tup (ds++b::r),false),none,none,none,none] with|.ok (.nx ρ')=>xs (run T (n+3)) (.cons (.for2 5 6 (.enu (.var 2)) bH) (.cons (.ret (.var 0)) .nil)) ρ'|_=>none))=_
  rw[m1,m2]
  show (match (match evI (run T (n+3)) (.enu (.var 2)) _ with|.ok ds=>E7 (fH (run T (n+3))) (gH (run T (n+3))) ds _|_=>none) with|some c=>some c|none=>_)=_
  rw[Fh (ds:=ds++b::r) (o:=false) rfl hh.2]
  show (match E7 (fH (run T (n+3))) (gH (run T (n+3))) (B4 0 (ds++b::r)) (unown (Ak (.enu (.var 2))) [some (.tup [.tup ws,.tup (ds++b::r)],false),some (.tup ws,false),some (.tup (ds++b::r),false),x,y,z,w]) with|some c=>some c|none=>_)=_
  rw[un,e2];rfl
end
section
variable{C:Str->List D->R D}{ρ:Env}
theorem Am{i:Nat}{d:D}{b:Bool}(h:ρ[i]?=some (some (d,b))):ev C (.var i) ρ=.ok d:=by rw[Pc,h]
theorem B8{a:Ex}{r:Exs}{d:D}{ds:List D}(h1:ev C a ρ=.ok d)(h2:evs C r ρ=.ok ds):evs C (.cons a r) ρ=.ok (d::ds):=by
 rw[Nq,h1,R.bind_ok,h2,R.bind_ok]
theorem Qx{as:Exs}{ds:List D}(h:evs C as ρ=.ok ds)(hz:ds.length<=1000000):ev C (.lst as) ρ=.ok (.lst ds):=by
 rw[Qbt,h,R.bind_ok,if_pos (A4 hz)]
theorem Kr{as:Exs}{ds:List D}(h:evs C as ρ=.ok ds)(hz:ds.length<=1000000):ev C (.tup as) ρ=.ok (.tup ds):=by
 rw[Qhr,h,R.bind_ok,if_pos (A4 hz)]
theorem Qf0{a b:Ex}{xs ys:List D}(h1:ev C a ρ=.ok (.tup xs))(h2:ev C b ρ=.ok (.tup ys))(hz:xs.length+ys.length<=1000000):ev C (.op .add a b) ρ=.ok (.tup (xs++ys)):=by
 rw[Ce,h1,R.bind_ok,h2,R.bind_ok];exact if_pos (A4 hz)
theorem Xv{a b:Ex}{xs ys:List D}(h1:ev C a ρ=.ok (.lst xs))(h2:ev C b ρ=.ok (.lst ys))(hz:xs.length+ys.length<=1000000):ev C (.op .add a b) ρ=.ok (.lst (xs++ys)):=by
 rw[Ce,h1,R.bind_ok,h2,R.bind_ok];exact if_pos (A4 hz)
theorem Xw{i:Nat}{e:Ex}{r:Sms}{xs:List D}{d:D}(hi:ρ[i]?=some (some (.lst xs,true)))(he:ev C e ρ=.ok d)(h1:noL d=true)(h2:xs.length+1<=1000000):exs C (.cons (.app i e) r) ρ=exs C r (ρ.set i (some (.lst (xs++[d]),true))):=by
 refine Gj ?_;rw[Qbx,hi]
 show (ev C e ρ >>= _)=_
 rw[he,R.bind_ok];exact if_pos (by rw[h1,A4 h2];rfl)
end
def words(l:List Nat):List Nat×List (List Nat):=((A0 32 l).headD [],(A0 32 l).tail)
theorem Ht(c:Nat):∀l:List Nat,A0 c l≠[]
 |[]=>by simp[A0]
 |x::r=>by
  unfold A0;split
  ·simp
  ·split<;>simp
theorem Cs(l:List Nat):A0 32 l=(words l).1::(words l).2:=by
 unfold words;have:=Ht 32 l
 cases h:A0 32 l with
 |nil=>exact absurd h this
 |cons a r=>rfl
theorem Cc(c:Nat):∀l:List Nat,(A0 c l).length<=l.length+1
 |[]=>by simp[A0]
 |x::r=>by
  have ih:=Cc c r;unfold A0;split
  ·simp;omega
  ·split
   ·rename_i p q h
    rw[h] at ih;simp at ih |-;omega
   ·simp
theorem C1(c:Nat):∀l:List Nat,∀p∈A0 c l,p.length<=l.length
 |[],p,h=>by simp[A0] at h;subst h;simp
 |x::r,p,h=>by
  have ih:=C1 c r;unfold A0 at h;split at h
  ·rcases List.mem_cons.1 h with rfl|h
   ·simp
   ·have:=ih p h;simp;omega
  ·split at h
   ·rename_i q qs e
    rw[e] at ih;rcases List.mem_cons.1 h with rfl|h
    ·have:=ih q List.mem_cons_self;simp;omega
    ·have:=ih p (List.mem_cons_of_mem _ h);simp;omega
   ·have:p=[x]:=by simpa using h
    subst this;simp
def D4:List Nat->Option Nat
 |[c]=>if 48<=c/\c<=53 then some (c-48) else none
 |_=>none
def Qy(l:List Nat):D:=match D4 l with
 |some k=>nD k
 |none=>.non
theorem Dy{l:List Nat}{k:Nat}:D4 l=some k↔l=[48+k]/\k<=5:=by
 unfold D4;split
 ·rename_i c
  split
  ·rename_i h
   simp;omega
  ·rename_i h
   simp;omega
 ·rename_i h
  simp;intro e;exact absurd e (h _)
theorem Xx(k:Nat):dig k=mkS [48+k]:=rfl
theorem Ks{a b:List Nat}(h:mkS a=mkS b):a=b:=by
 have:=congrArg (λs:Str=>s.cps.toList) h
 simpa [mkS] using this
theorem Qi4{T:Tab}(h:T.lookup ("number_of" : Str)=some Bl)(n:Nat)(l:List Nat):run T (n+1) "number_of" [.str (mkS l)]=.ok (Qy l):=by
 cases e:D4 l with
 |some k=>
  obtain⟨rfl,hk⟩:=Dy.1 e;have:=Pl h n k hk;rw[Xx] at this;rw[this,Qy,e]
 |none=>
  refine Ao h rfl (C3 ?_);have hi:inD (.str (mkS l)) ((List.range 6).map λn=>.str (dig n))=false:=by
   unfold inD;rw[List.any_eq_false];intro x hx;obtain⟨k,hk,rfl⟩:=List.mem_map.1 hx
   show ¬(dig k==mkS l)=true
   intro z;have z:=Ks ((beq_iff_eq.1 z).symm.trans (Xx k));have:=Dy.2 ⟨z,by have:=List.mem_range.1 hk;omega⟩
   rw[e] at this;cases this
  have hl:lo 9 (.str (mkS l))=true:=rfl;simp[A2,Bl,Et,Xn,hl,hi,Qy,e]
theorem Xy(l:List Nat):noL (Qy l)=true:=by
 unfold Qy;split<;>rfl
def Bc(l:List Nat):List D:=(words l).2.map Qy
def gOf(l:List Nat):Option D:=if (words l).1=gC then some (.tup (Bc l)) else none
def hOf(l:List Nat):Option D:=if (words l).1=hC then some (.tup ((Bc l).take 1++[.tup ((Bc l).drop 1)])) else none
theorem Kt(l:List Nat):Bw (Bc l)=true:=Bb _ λw=>Xy w
theorem Qb1(l:List Nat)(w:List Nat)(s:Str)(hs:s=mkS w):(mkS l==s)=decide (l=w):=by
 subst hs;by_cases h:l=w
 ·subst h;simp
 ·rw[decide_eq_false h,beq_eq_false_iff_ne]
  exact λz=>h (Ks z)
theorem gh:gC≠hC:=by decide
theorem Qf1{T:Tab}(h1:T.lookup ("number_of" : Str)=some Bl)(h2:T.lookup ("likely_fair" : Str)=some B9)(n:Nat)(z:List Nat)(hz:z.length<=5000) :
  run T (n+2) "likely_fair" [.str (mkS z)]=.ok (.tup [.tup ((A0 10 z).filterMap gOf),.tup ((A0 10 z).filterMap hOf)]):=by
 have key:∃d,run T (n+2) "likely_fair" [.str (mkS z)]=.ok d/\d=.tup [.tup ((A0 10 z).filterMap gOf),.tup ((A0 10 z).filterMap hOf)]:=by
  have sl:=Cc 10 z;refine Kn h2 rfl ?_;refine Bd.by (Ee (xs:=[]) (by simp) rfl rfl) ?_
  refine Bd.by (Ee (xs:=[]) (by simp) rfl rfl) ?_
  refine Bd.for1 (xs:=(A0 10 z).map λl=>.str (mkS l)) (λk ρ=>∃x y u,ρ=[some (.str (mkS z),false),some (.lst (((A0 10 z).take k).filterMap gOf),true),some (.lst (((A0 10 z).take k).filterMap hOf),true),x,y,u]) ?_ ⟨none,none,none,by simp[A2,B9,Ak,unown,Aj]⟩ ?_ ?_
  ·have:Di 10 (.str (mkS z))=.ok (.lst ((Aq 10 (mkS z)).map .str)):=if_pos (A4 (by simp[mkS,PySem.Str.length];omega))
   rw[Fc,Eu]
   show ((R.ok (D.str (mkS z)) >>= λy=>Di 10 y) >>= _)=_
   rw[R.bind_ok,this,R.bind_ok];have e:(Aq 10 (mkS z)).map D.str=(A0 10 z).map λl=>.str (mkS l):=by
    unfold Aq;rw[List.map_map];simp[mkS]
   rw[e];exact if_pos (A4 (by simp;omega))
  ·rintro k d ρ hd ⟨x,y,u,rfl⟩
   rw[List.getElem?_map] at hd;obtain⟨l,hl,rfl⟩:=Option.map_eq_some_iff.1 hd;have hll:=C1 10 z l (List.mem_of_getElem? hl);have wl:(words l).2.length<=l.length:=by
    have:=Cc 32 l;rw[Cs] at this;simpa using this
   have tk:(A0 10 z).take (k+1)=(A0 10 z).take k++[l]:=Dw hl;have tkl:((A0 10 z).take k).length<=5001:=by rw[List.length_take];omega
   have gl:(((A0 10 z).take k).filterMap gOf).length+1<=1000000:=by have:=List.length_filterMap_le gOf ((A0 10 z).take k);omega
   have hl':(((A0 10 z).take k).filterMap hOf).length+1<=1000000:=by have:=List.length_filterMap_le hOf ((A0 10 z).take k);omega
   let G:=((A0 10 z).take k).filterMap gOf
   let H:=((A0 10 z).take k).filterMap hOf
   let W:List D:=(mkS (words l).1::(words l).2.map mkS).map .str
   let E4:Env:=[some (.str (mkS z),false),some (.lst G,true),some (.lst H,true),some (.str (mkS l),false),some (.lst W,true),u]
   let E5:Env:=[some (.str (mkS z),false),some (.lst G,true),some (.lst H,true),some (.str (mkS l),false),some (.lst W,true),some (.tup (Bc l),false)]
   have s1:ev (run T (n+1)) (.spl (.var 3) 32) [some (.str (mkS z),false),some (.lst G,true),some (.lst H,true),some (.str (mkS l),false),y,u]=.ok (.lst W):=by
    have:Di 32 (.str (mkS l))=.ok (.lst ((Aq 32 (mkS l)).map .str)):=if_pos (A4 (by simp[mkS,PySem.Str.length];omega))
    rw[Eu,Am (i:=3) (d:=.str (mkS l)) rfl,R.bind_ok,this];unfold Aq
    show R.ok (D.lst (((A0 32 l.toArray.toList).map λl=>(⟨l.toArray⟩:Str)).map .str))=_
    rw[List.toList_toArray,Cs];rfl
   have ei:evI (run T (n+1)) (.seq (.slc (.var 4) (.cons (.int 1) .nil) .nil)) E4=.ok ((words l).2.map λw=>.str (mkS w)):=by
    rw[Fc,Kj,Am (i:=4) (d:=.lst W) rfl,R.bind_ok,B8 (Bp _ 1) (Ai _),R.bind_ok]
    show (R.ok (D.lst (Lf.cut W (some 1) none)) >>= _)=_
    rw[R.bind_ok];have e:Lf.cut W (some 1) none=(words l).2.map λw=>D.str (mkS w):=by
     show Lf.cut (D.str (mkS (words l).1)::((words l).2.map mkS).map .str) (some 1) none=_
     rw[U8,List.map_map];rfl
    rw[e];exact if_pos (A4 (by simp;omega))
   have s2:ev (run T (n+1)) (.b1 .tuple (.comp false (.call "number_of" (.cons (.var 6) .nil)) (.seq (.slc (.var 4) (.cons (.int 1) .nil) .nil)) .nil)) E4=.ok (.tup (Bc l)):=by
    rw[Gi,D3,ei,R.bind_ok,Ch (k':=λd=>d) (g:=Qy) (h:=?_),R.bind_ok]
    ·rw[List.map_id']
     rfl
    ·intro w hw
     rw[U6,R.bind_ok,Hk,R.bind_ok,if_pos rfl,Bs,B8 (Am (i:=6) (d:=.str (mkS w)) rfl) (Ai _),R.bind_ok,Qi4 h1 n w,R.bind_ok]
   have i0:ev (run T (n+1)) (.idx (.var 4) (.int 0)) E5=.ok (.str (mkS (words l).1)):=by
    rw[M9,Am (i:=4) (d:=.lst W) rfl,R.bind_ok,Bp,R.bind_ok];exact Jj (xs:=W) (i:=0) (by simp[W])
   have t1:tst (run T (n+1)) (.op .eq (.idx (.var 4) (.int 0)) (.str "guest")) E5=.ok (decide ((words l).1=gC)):=by
    rw[Kk,Ce,i0,R.bind_ok,Aw,R.bind_ok,Qk _ _ rfl,R.bind_ok]
    show R.ok (mkS (words l).1==("guest" : Str))=_
    rw[Qb1 _ gC _ e_g]
   have t2:tst (run T (n+1)) (.op .eq (.idx (.var 4) (.int 0)) (.str "house")) E5=.ok (decide ((words l).1=hC)):=by
    rw[Kk,Ce,i0,R.bind_ok,Aw,R.bind_ok,Qk _ _ rfl,R.bind_ok]
    show R.ok (mkS (words l).1==("house" : Str))=_
    rw[Qb1 _ hC _ e_h]
   refine Bd.by (Ee s1 (Bb (k:=D.str) _ λ_=>rfl) rfl) (Bd.by (D2 (ρ:=E4) s2 (Kt l)) ?_)
   show Bd (exs (run T (n+1)) _ E5) _
   have fin:∀(G' H':List D),((A0 10 z).take (k+1)).filterMap gOf=G'->((A0 10 z).take (k+1)).filterMap hOf=H'->exs (run T (n+1)) (.cons (.ife (.op .eq (.idx (.var 4) (.int 0)) (.str "guest")) (.cons (.app 1 (.var 5)) .nil) (.cons (.ife (.op .eq (.idx (.var 4) (.int 0)) (.str "house")) (.cons (.app 2 (.op .add (.slc (.var 5) .nil (.cons (.int 1) .nil)) (.tup (.cons (.slc (.var 5) (.cons (.int 1) .nil) .nil) .nil)))) .nil) .nil) .nil)) .nil) E5=.ok (.nx [some (.str (mkS z),false),some (.lst G',true),some (.lst H',true),some (.str (mkS l),false),some (.lst W,true),some (.tup (Bc l),false)])->Bd (exs (run T (n+1)) (.cons (.ife (.op .eq (.idx (.var 4) (.int 0)) (.str "guest")) (.cons (.app 1 (.var 5)) .nil) (.cons (.ife (.op .eq (.idx (.var 4) (.int 0)) (.str "house")) (.cons (.app 2 (.op .add (.slc (.var 5) .nil (.cons (.int 1) .nil)) (.tup (.cons (.slc (.var 5) (.cons (.int 1) .nil) .nil) .nil)))) .nil) .nil) .nil)) .nil) E5) (nxP λρ=>∃x y u,ρ=[some (.str (mkS z),false),some (.lst (((A0 10 z).take (k+1)).filterMap gOf),true),some (.lst (((A0 10 z).take (k+1)).filterMap hOf),true),x,y,u]):=λG' H' a b c=>⟨_,c,_,rfl,_,_,_,by rw[a,b]⟩
   have fa:∀f:List Nat->Option D,((A0 10 z).take (k+1)).filterMap f=((A0 10 z).take k).filterMap f++(match f l with|some d=>[d]|none=>[]):=λf=>by
    rw[tk,List.filterMap_append];cases e:f l<;>simp[e]
   by_cases hg:(words l).1=gC
   ·refine fin (G++[.tup (Bc l)]) H ?_ ?_ ?_
    ·rw[fa,gOf,if_pos hg]
    ·rw[fa,hOf,if_neg (λq=>gh (hg.symm.trans q))]
     simp[H]
    ·rw[decide_eq_true hg] at t1
     rw[Ef t1,Xw (xs:=G) rfl (Am (i:=5) (d:=.tup (Bc l)) rfl) (Kt l) gl,De];rfl
   ·rw[decide_eq_false hg] at t1
    by_cases hh:(words l).1=hC
    ·refine fin G (H++[.tup ((Bc l).take 1++[.tup ((Bc l).drop 1)])]) ?_ ?_ ?_
     ·rw[fa,gOf,if_neg hg]
      simp[G]
     ·rw[fa,hOf,if_pos hh]
     ·rw[decide_eq_true hh] at t2
      have c1:Lf.cut (Bc l) none (some 1)=(Bc l).take 1:=by
       cases h:Bc l with
       |nil=>rfl
       |cons a r=>rw[Qhz];rfl
      have c2:Lf.cut (Bc l) (some 1) none=(Bc l).drop 1:=by
       cases h:Bc l with
       |nil=>rfl
       |cons a r=>rw[U8];rfl
      have nl:(Bc l).length<=5000:=by simp[Bc];omega
      have ea:ev (run T (n+1)) (.op .add (.slc (.var 5) .nil (.cons (.int 1) .nil)) (.tup (.cons (.slc (.var 5) (.cons (.int 1) .nil) .nil) .nil))) E5=.ok (.tup ((Bc l).take 1++[.tup ((Bc l).drop 1)])):=by
       refine Qf0 ?_ (Kr (B8 (d:=.tup ((Bc l).drop 1)) ?_ (Ai _)) (by simp)) (by simp;omega)
       ·rw[Kj,Am (i:=5) (d:=.tup (Bc l)) rfl,R.bind_ok,Ai,R.bind_ok]
        rw[show bound []=R.ok none from rfl,R.bind_ok,B8 (Bp _ 1) (Ai _),R.bind_ok]
        show R.ok (D.tup (Lf.cut (Bc l) none (some 1)))=_
        rw[c1]
       ·rw[Kj,Am (i:=5) (d:=.tup (Bc l)) rfl,R.bind_ok,B8 (Bp _ 1) (Ai _),R.bind_ok]
        show R.ok (D.tup (Lf.cut (Bc l) (some 1) none))=_
        rw[c2]
      have nla:noL (.tup ((Bc l).take 1++[.tup ((Bc l).drop 1)]))=true:=by
       show Bw _=true
       refine Ho.2 λx hx=>?_
       have hn:=Ho.1 (Kt l);rcases List.mem_append.1 hx with q|q
       ·exact hn x (List.mem_of_mem_take q)
       ·rw[List.mem_singleton.1 q]
        exact Ho.2 λy hy=>hn y (List.mem_of_mem_drop hy)
      rw[Nr t1,Ef t2,Xw (xs:=H) rfl ea nla hl',De];rfl
    ·rw[decide_eq_false hh] at t2
     refine fin G H ?_ ?_ ?_
     ·rw[fa,gOf,if_neg hg]
      simp[G]
     ·rw[fa,hOf,if_neg hh]
      simp[H]
     ·rw[Nr t1,As t2,De]
      rfl
  ·rintro ρ ⟨x,y,u,rfl⟩
   rw[List.length_map,List.take_length];refine Bd.ret (d:=.tup [.tup ((A0 10 z).filterMap gOf),.tup ((A0 10 z).filterMap hOf)]) (Kr (B8 (d:=.tup ((A0 10 z).filterMap gOf)) ?_ (B8 (d:=.tup ((A0 10 z).filterMap hOf)) ?_ (Ai _))) (by simp)) rfl
   ·rw[Gi,Am (i:=1) (d:=.lst ((A0 10 z).filterMap gOf)) rfl,R.bind_ok]
    rfl
   ·rw[Gi,Am (i:=2) (d:=.lst ((A0 10 z).filterMap hOf)) rfl,R.bind_ok]
    rfl
 obtain⟨d,e,rfl⟩:=key;exact e
theorem Ii{α:Type}(P:α->Bool):∀l:List α,(∀d∈l,P d=true)\/∃ds b r,l=ds++b::r/\(∀d∈ds,P d=true)/\P b=false
 |[]=>.inl λ_ h=>(nomatch h)
 |a::l=>by
  cases e:P a with
  |false=>exact .inr ⟨[],a,l,rfl,⟨λ_ h=>(nomatch h),e⟩⟩
  |true=>
   rcases Ii P l with h|⟨ds,b,r,rfl,h,hb⟩
   ·refine .inl λd hd=>?_
    rcases List.mem_cons.1 hd with rfl|hd
    ·exact e
    ·exact h d hd
   ·refine .inr ⟨a::ds,b,r,rfl,λd hd=>?_,hb⟩
    rcases List.mem_cons.1 hd with rfl|hd
    ·exact e
    ·exact h d hd
theorem Qb2{T:Tab}(U:Chk T)(n:Nat)(ws hs:List D)(hw:∀d∈ws,sz d=true)(hh:∀d∈hs,szH d=true) :
  (run T (n+4) "checked" [.tup [.tup ws,.tup hs]]=.ok (.tup [.tup ws,.tup hs])/\(1<=ws.length/\ws.length<=5)/\(1<=hs.length/\hs.length<=5)/\(∀d∈ws,gB hs.length d=true)/\∀d∈hs,hB ws.length d=true) \/
  ∃a,run T (n+4) "checked" [.tup [.tup ws,.tup hs]]=.xn "BadFair" (some a):=by
 cases h2:U9 (.tup [.tup ws,.tup hs]) with
 |false=>exact .inr ⟨_,Qay U n _ h2⟩
 |true=>
  have h2':((decide (1<=ws.length)&&decide (ws.length<=5))&&(decide (1<=hs.length)&&decide (hs.length<=5)))=true:=h2;simp only[Bool.and_eq_true,decide_eq_true_eq] at h2';obtain⟨lw,lh⟩:=h2';rcases Ii (λd=>sz d&&gB hs.length d) ws with gg|⟨ds,b,r,rfl,gg,hb⟩
  ·rcases Ii (λd=>szH d&&hB ws.length d) hs with ga|⟨ds,b,r,rfl,ga,hb⟩
   ·exact .inl ⟨Qi3 U n ws hs lw lh gg ga,lw,lh,λd hd=>(Bool.and_eq_true_iff.1 (gg d hd)).2,λd hd=>(Bool.and_eq_true_iff.1 (ga d hd)).2⟩
   ·have hz:=hh b (by simp)
    rw[hz,Bool.true_and] at hb;exact .inr ⟨_,Qb0 U n ws ds r b lw lh gg ga hz hb⟩
  ·have hz:=hw b (by simp)
   rw[hz,Bool.true_and] at hb;exact .inr ⟨_,Qaz U n ds r hs b lw lh gg hz hb⟩
theorem Ku{l:List D}{m:Nat}(h0:Cy l m=true):∃w:List Nat,l=nsD w/\w.Nodup/\∀x∈w,x<m:=by
 have h:=Gn.1 h0;have hi:∀d∈l,∃k:Nat,d=nD k/\k<m:=λd hd=>by
  obtain⟨k,hk⟩:=List.getElem?_of_mem hd;have hb:=(h k d hk).1;obtain⟨i,rfl⟩:=Ih hb;have hb':(decide (0<=i)&&decide (i<(m:Int)))=true:=hb;simp only[Bool.and_eq_true,decide_eq_true_eq] at hb';exact⟨i.toNat,by show D.int i=D.int (i.toNat:Int);rw[Int.toNat_of_nonneg hb'.1],by omega⟩
 have ex:∃w:List Nat,l=nsD w/\∀x∈w,x<m:=by
  clear h h0
  induction l with
  |nil=>exact⟨[],rfl,λ_ h=>nomatch h⟩
  |cons d l ih=>
   obtain⟨w,rfl,hw⟩:=ih λd hd=>hi d (List.mem_cons_of_mem _ hd)
   obtain⟨k,rfl,hk⟩:=hi d List.mem_cons_self;refine⟨k::w,rfl,λx hx=>?_⟩
   rcases List.mem_cons.1 hx with rfl|hx
   ·exact hk
   ·exact hw x hx
 obtain⟨w,rfl,hw⟩:=ex;refine⟨w,rfl,?_,hw⟩;rw[List.nodup_iff_pairwise_ne,List.pairwise_iff_getElem];intro i j hi hj hij e;have hj':(nsD w)[j]?=some (nD w[j]):=by rw[nsD,List.getElem?_map,List.getElem?_eq_getElem hj];rfl
 have:=(h j _ hj').2;rw[nsD,<-List.map_take] at this;have this:inD (nD w[j]) (nsD (w.take j))=false:=this;rw[Sg,decide_eq_false_iff_not] at this;refine this ?_;rw[<-e];exact List.mem_take_iff_getElem.2 ⟨i,by omega,rfl⟩
theorem Qb3{ws hs:List D}(lw:1<=ws.length/\ws.length<=5)(lh:1<=hs.length/\hs.length<=5)(gg:∀d∈ws,gB hs.length d=true)(ga:∀d∈hs,hB ws.length d=true):∃F:Fair,GoodF F/\ws=F.W.map wD/\hs=F.H.map hD:=by
 have e1:∀{m:Nat} {ws:List D},(∀d∈ws,gB m d=true)->∃W:List (List Nat),ws=W.map wD/\∀w∈W,w.Nodup/\∀x∈w,x<m:=λ{m ws} gg=>by
  induction ws with
  |nil=>exact⟨[],rfl,λ_ h=>nomatch h⟩
  |cons d ws ih=>
   obtain⟨W,rfl,hW⟩:=ih λd hd=>gg d (List.mem_cons_of_mem _ hd)
   have hd:=gg d List.mem_cons_self
   cases d with
   |tup l=>
    obtain⟨w,rfl,h1,h2⟩:=Ku hd;refine⟨w::W,rfl,λx hx=>?_⟩
    rcases List.mem_cons.1 hx with rfl|hx
    ·exact⟨h1,h2⟩
    ·exact hW x hx
   |_=>cases hd
 have e2:∀{m:Nat} {hs:List D},(∀d∈hs,hB m d=true)->∃H:List (Nat×List Nat),hs=H.map hD/\∀p∈H,p.1<=5/\p.2.Nodup/\∀x∈p.2,x<m:=λ{m hs} ga=>by
  induction hs with
  |nil=>exact⟨[],rfl,λ_ h=>nomatch h⟩
  |cons d hs ih=>
   obtain⟨H,rfl,hH⟩:=ih λd hd=>ga d (List.mem_cons_of_mem _ hd)
   have hd:=ga d List.mem_cons_self;unfold hB at hd;split at hd
   ·rename_i r l
    rw[Bool.and_eq_true] at hd;obtain⟨h1,h2⟩:=hd;obtain⟨i,rfl⟩:=Ih h1;have h1':(decide (0<=i)&&decide (i<6))=true:=h1;simp only[Bool.and_eq_true,decide_eq_true_eq] at h1'
    cases l with
    |tup l=>
     obtain⟨w,rfl,q1,q2⟩:=Ku h2;refine⟨(i.toNat,w)::H,?_,λx hx=>?_⟩
     ·rw[List.map_cons,hD,show nD (i.toNat,w).1=D.int i from by show D.int (i.toNat:Int)=_;rw[Int.toNat_of_nonneg h1'.1]]
     ·rcases List.mem_cons.1 hx with rfl|hx
      ·exact⟨by show i.toNat<=5;omega,q1,q2⟩
      ·exact hH x hx
    |_=>cases h2
   ·cases hd
 obtain⟨W,rfl,hW⟩:=e1 gg;obtain⟨H,rfl,hH⟩:=e2 ga;rw[List.length_map] at lw lh;exact⟨⟨W,H⟩,⟨lw.1,lw.2,lh.1,lh.2,λw hw=>by have:=hW w hw;rwa [List.length_map] at this,λp hp=>by have:=hH p hp;rwa [List.length_map] at this⟩,rfl,rfl⟩
structure Reads(T:Tab):Prop extends Chk T where
 num:T.lookup ("number_of" : Str)=some Bl
 likely:T.lookup ("likely_fair" : Str)=some B9
 line:T.lookup ("line_of" : Str)=some Bv
 shown:T.lookup ("shown" : Str)=some Cr
 read:T.lookup ("read" : Str)=some Qr
theorem Qi5{z l:List Nat}(hl:l∈A0 10 z)(hz:z.length<=5000):(Bc l).length<=5000:=by
 have h1:=C1 10 z l hl;have h2:=Cc 32 l;rw[Cs] at h2;simp at h2;unfold Bc;rw[List.length_map];omega
theorem Qi6{z:List Nat}(hz:z.length<=5000):∀d∈(A0 10 z).filterMap gOf,sz d=true:=λd hd=>by
 obtain⟨l,hl,e⟩:=List.mem_filterMap.1 hd;unfold gOf at e;split at e
 ·cases e
  have:=Qi5 hl hz;exact decide_eq_true (by omega)
 ·cases e
theorem Qi7{z:List Nat}(hz:z.length<=5000):∀d∈(A0 10 z).filterMap hOf,szH d=true:=λd hd=>by
 obtain⟨l,hl,e⟩:=List.mem_filterMap.1 hd;unfold hOf at e;split at e
 ·cases e
  have:=Qi5 hl hz
  cases h:Bc l with
  |nil=>rfl
  |cons a r=>
   rw[h] at this
   show sz (.tup r)=true
   exact decide_eq_true (by simp at this;omega)
 ·cases e
theorem Qf2{T:Tab}(U:Reads T)(n:Nat)(z:List Nat)(hz:z.length<=5000) :
  (∃F,GoodF F/\mkS z=Ap F/\run T (n+5) "read" [.str (mkS z)]=.ok (Af F))\/run T (n+5) "read" [.str (mkS z)]=.xn "BadText" none:=by
 have ek:=Qf1 U.num U.likely (n+2) z hz;have t0:tst (run T (n+4)) (.not (.ins .str (.var 0))) [some (.str (mkS z),false),none]=.ok false:=by
  rw[Pd,Se,Sd,Am (i:=0) (d:=.str (mkS z)) rfl];rfl
 have a1:evs (run T (n+4)) (.cons (.call "likely_fair" (.cons (.var 0) .nil)) .nil) [some (.str (mkS z),false),none]=.ok [.tup [.tup ((A0 10 z).filterMap gOf),.tup ((A0 10 z).filterMap hOf)]]:=by
  refine B8 ?_ (Ai _);rw[Bs,B8 (Am (i:=0) (d:=.str (mkS z)) rfl) (Ai _),R.bind_ok,ek]
 rcases Qb2 U.toChk n _ _ (Qi6 hz) (Qi7 hz) with⟨ec,lw,lh,gg,ga⟩|⟨a,ec⟩
 ·obtain⟨F,G,ew,eh⟩:=Qb3 lw lh gg ga
  rw[ew,eh] at ec a1;have ec:run T (n+4) "checked" [Af F]=.ok (Af F):=ec;have es:=Si U.line U.shown (n+2) F G (Jk G);have e1:ev (run T (n+4)) (.call "checked" (.cons (.call "likely_fair" (.cons (.var 0) .nil)) .nil)) [some (.str (mkS z),false),none]=.ok (Af F):=by
   rw[Bs,a1,R.bind_ok];exact ec
  have nF:noL (Af F)=true:=by
   show Bw [D.tup (F.W.map wD),.tup (F.H.map hD)]=true
   have h1:Bw (F.W.map wD)=true:=Bb _ λw=>Dg w
   have h2:Bw (F.H.map hD)=true:=Bb _ λp=>by show (noL (nD p.1)&&(Bw (nsD p.2)&&true))=true;rw[Dg];rfl
   rw[X9,X9,Qby,Qby,h1,h2];rfl
  have ex:exs (run T (n+4)) (.cons (.asg 1 (.call "checked" (.cons (.call "likely_fair" (.cons (.var 0) .nil)) .nil))) .nil) [some (.str (mkS z),false),none]=.ok (.nx [some (.str (mkS z),false),some (Af F,false)]):=by
   rw[D2 e1 nF,De];rfl
  have em:exm (run T (n+4)) (.tryN (.cons (.asg 1 (.call "checked" (.cons (.call "likely_fair" (.cons (.var 0) .nil)) .nil))) .nil) "BadFair" "BadText") [some (.str (mkS z),false),none]=.ok (.nx [some (.str (mkS z),false),some (Af F,false)]):=by
   simp only[exm];exact ex
  have et:tst (run T (n+4)) (.op .ne (.call "shown" (.cons (.var 1) .nil)) (.var 0)) [some (.str (mkS z),false),some (Af F,false)]=.ok (!(Ap F==mkS z)):=by
   rw[Kk,Ce,Bs,B8 (Am (i:=1) (d:=Af F) rfl) (Ai _),R.bind_ok,es,R.bind_ok,Am (i:=0) (d:=.str (mkS z)) rfl,R.bind_ok,Ql _ _ rfl];rfl
  by_cases hq:mkS z=Ap F
  ·refine .inl ⟨F,G,hq,Ao U.read rfl ?_⟩
   rw[hq,beq_self_eq_true] at et;refine(As t0).trans ((Gj em).trans ?_);rw[hq];exact(As et).trans (C3 (Am rfl))
  ·refine .inr ?_
   rw[show (Ap F==mkS z)=false from beq_eq_false_iff_ne.2 λq=>hq q.symm] at et
   refine Ie (n:=n+4) U.read rfl (λk q=>?_) ?_
   ·have q:=(((As t0).trans ((Gj em).trans (Ef et))).symm.trans q)
    cases q
   ·have xn0:xs (run T (n+4)) (.cons (.asg 1 (.call "checked" (.cons (.call "likely_fair" (.cons (.var 0) .nil)) .nil))) .nil) [some (.str (mkS z),false),none]=none:=by
     show (match xE (run T (n+4)) (.call "checked" (.cons (.call "likely_fair" (.cons (.var 0) .nil)) .nil)) [some (.str (mkS z),false),none] with|some c=>some c|none=>(match exm (run T (n+4)) (.asg 1 (.call "checked" (.cons (.call "likely_fair" (.cons (.var 0) .nil)) .nil))) [some (.str (mkS z),false),none] with|.ok (.nx ρ')=>xs (run T (n+4)) .nil ρ'|_=>none))=_
     have x0:xE (run T (n+4)) (.call "checked" (.cons (.call "likely_fair" (.cons (.var 0) .nil)) .nil)) [some (.str (mkS z),false),none]=none:=by
      show (match evs (run T (n+4)) (.cons (.call "likely_fair" (.cons (.var 0) .nil)) .nil) [some (.str (mkS z),false),none] with|.ok vs=>(match run T (n+4) "checked" vs with|.xn c d=>some (c,d)|_=>none)|_=>none)=_
      rw[a1];have ec':run T (n+4) "checked" [.tup [.tup (F.W.map wD),.tup (F.H.map hD)]]=.ok (Af F):=ec;simp only[ec']
     rw[x0];simp only[X8,e1,R.bind_ok];rfl
    refine(Hr t0).trans ?_
    show (match xm (run T (n+4)) (.tryN (.cons (.asg 1 (.call "checked" (.cons (.call "likely_fair" (.cons (.var 0) .nil)) .nil))) .nil) "BadFair" "BadText") [some (.str (mkS z),false),none] with|some c=>some c|none=>(match exm (run T (n+4)) (.tryN (.cons (.asg 1 (.call "checked" (.cons (.call "likely_fair" (.cons (.var 0) .nil)) .nil))) .nil) "BadFair" "BadText") [some (.str (mkS z),false),none] with|.ok (.nx ρ')=>xs (run T (n+4)) _ ρ'|_=>none))=_
    have x1:xm (run T (n+4)) (.tryN (.cons (.asg 1 (.call "checked" (.cons (.call "likely_fair" (.cons (.var 0) .nil)) .nil))) .nil) "BadFair" "BadText") [some (.str (mkS z),false),none]=none:=by
     simp only[xm,xn0]
    rw[x1];simp only[em];exact Hs et rfl
 ·refine .inr (Ie (n:=n+4) U.read rfl (λk q=>?_) ?_)
  ·have e1:ev (run T (n+4)) (.call "checked" (.cons (.call "likely_fair" (.cons (.var 0) .nil)) .nil)) [some (.str (mkS z),false),none]=.xn "BadFair" (some a):=by
    rw[Bs,a1,R.bind_ok,ec]
   have em:exm (run T (n+4)) (.tryN (.cons (.asg 1 (.call "checked" (.cons (.call "likely_fair" (.cons (.var 0) .nil)) .nil))) .nil) "BadFair" "BadText") [some (.str (mkS z),false),none]=.xn "BadFair" (some a):=by
    simp only[exm,exs,e1,R.bind_xn]
   have q:=(As t0).symm.trans q;rw[Id,em] at q;cases q
  ·refine(Hr t0).trans ?_
   show (match xm (run T (n+4)) (.tryN (.cons (.asg 1 (.call "checked" (.cons (.call "likely_fair" (.cons (.var 0) .nil)) .nil))) .nil) "BadFair" "BadText") [some (.str (mkS z),false),none] with|some c=>some c|none=>_)=_
   have x1:xm (run T (n+4)) (.tryN (.cons (.asg 1 (.call "checked" (.cons (.call "likely_fair" (.cons (.var 0) .nil)) .nil))) .nil) "BadFair" "BadText") [some (.str (mkS z),false),none]=some (("BadText" : Str),none):=by
    simp only[xm,xs,Sj a1 ec,if_true]
   rw[x1]
theorem Qf3{T:Tab}(U:Reads T)(n:Nat)(d:D)(hd:D0 .str d=false):run T (n+1) "read" [d]=.xn "BadText" none:=by
 have t0:tst (run T n) (.not (.ins .str (.var 0))) [some (d,false),none]=.ok true:=by
  rw[Pd,Se,Sd,Am (i:=0) (d:=d) rfl,R.bind_ok,hd];rfl
 refine Ie (n:=n) U.read rfl (λk q=>?_) (Hs t0 rfl)
 have q:=(Ef t0).symm.trans q;cases q
def Hu:List (List Nat)->Option (List Nat)
 |[]=>some []
 |w::r=>(D4 w).bind λk=>(Hu r).map λks=>k::ks
def Cd:List (List Nat)->Option (List (List Nat×List Nat))
 |[]=>some []
 |l::r=>(Hu (words l).2).bind λks=>(Cd r).map λps=>((words l).1,ks)::ps
def rwD(p:List Nat×List Nat):D:=.tup [.str (mkS p.1),.tup (nsD p.2)]
theorem Fz:∀{ws:List (List Nat)} {ks:List Nat},Hu ws=some ks->ws=ks.map (λk=>[48+k])/\∀k∈ks,k<=5
 |[],ks,h=>by
  cases h;exact⟨rfl,λ_ h=>nomatch h⟩
 |w::r,ks,h=>by
  obtain⟨k,h1,h⟩:=Option.bind_eq_some_iff.1 (show ((D4 w).bind λk=>(Hu r).map λks=>k::ks)=some ks from h)
  obtain⟨ks',h2,rfl⟩:=Option.map_eq_some_iff.1 h;obtain⟨rfl,hk⟩:=Dy.1 h1;obtain⟨rfl,hr⟩:=Fz h2;refine⟨rfl,λx hx=>?_⟩
  rcases List.mem_cons.1 hx with rfl|hx
  ·exact hk
  ·exact hr x hx
theorem Mh:∀{ws:List (List Nat)},Hu ws=none↔∃w∈ws,D4 w=none
 |[]=>by simp[Hu]
 |w::r=>by
  have ih:=Mh (ws:=r)
  show ((D4 w).bind λk=>(Hu r).map λks=>k::ks)=none↔_
  cases e:D4 w with
  |none=>simp[e]
  |some k=>
   cases e2:Hu r with
   |none=>
    have:=ih.1 e2;simp[e];exact this
   |some ks=>
    have:¬∃w∈r,D4 w=none:=λz=>by rw[ih.2 z] at e2;cases e2
    simp[e];intro x hx z;exact this ⟨x,hx,z⟩
theorem Sl:∀{ks:List Nat},(∀k∈ks,k<=5)->Hu (ks.map λk=>[48+k])=some ks
 |[],_=>rfl
 |k::ks,h=>by
  show ((D4 [48+k]).bind λk=>(Hu (ks.map λk=>[48+k])).map λks=>k::ks)=some (k::ks)
  rw[Dy.2 ⟨rfl,h k List.mem_cons_self⟩,Sl λx hx=>h x (List.mem_cons_of_mem _ hx)]
  rfl
theorem Qi8:("012345" : Str)=mkS [48,49,50,51,52,53]:=by decide +kernel
theorem Qb4{C:Str->List D->R D}{ρ:Env}{i:Nat}{w:List Nat}{b:Bool}(h:ρ[i]?=some (some (.str (mkS w),b)))(hw:w.length<=5000):tst C (.or (.op .ne (.b1 .len (.var i)) (.int 1)) (.op .notin (.var i) (.str "012345"))) ρ=.ok (D4 w).isNone:=by
 have hl:(mkS w).length=w.length:=by simp[mkS,PySem.Str.length]
 have h1:tst C (.op .ne (.b1 .len (.var i)) (.int 1)) ρ=.ok (!((w.length:Int)==1)):=by
  rw[Kk,Ce,Gi,Am h,R.bind_ok]
  show (((if Av (mkS w).length then R.ok (D.int ((mkS w).length:Int)) else .un) >>= _) >>= Ci)=_
  rw[hl,if_pos (A4 (by omega)),R.bind_ok,Bp,R.bind_ok,Ql _ _ rfl]
  rfl
 rw[X6,h1,R.bind_ok]
 cases w with
 |nil=>rfl
 |cons c w=>
  cases w with
  |cons c' w=>
   have:(((c::c'::w).length:Int)==1)=false:=by
    rw[beq_eq_false_iff_ne];simp;omega
   rw[this];rfl
  |nil=>
   show (if (!((1:Int)==1))=true then _ else _)=_
   rw[if_neg (by simp),Kk,Ce,Am h,R.bind_ok,Aw,R.bind_ok]
   show (K1 (.str (mkS [c])) "012345" >>= Ci)=_
   rw[Qi8]
   show ((if Av 6 then R.ok (D.bl (!([48,49,50,51,52,53]:List Nat).contains c)) else .un) >>= Ci)=_
   rw[if_pos (A4 (by decide))]
   show R.ok (!([48,49,50,51,52,53]:List Nat).contains c)=R.ok (D4 [c]).isNone
   congr 1
   rw[D4];split
   ·rename_i h'
    have:c=48\/c=49\/c=50\/c=51\/c=52\/c=53:=by omega
    rcases this with rfl|rfl|rfl|rfl|rfl|rfl<;>rfl
   ·rename_i h'
    simp;omega
theorem Qb5{k:Nat}(hk:k<=5):Er .int (.str (mkS [48+k]))=.ok (nD k):=by
 show (match (if 48<=48+k/\48+k<=57 then some (((48+k:Nat):Int)-48) else none) with|some i=>R.ok (D.int i)|none=>.un)=_
 rw[if_pos (by omega)]
 show R.ok (D.int _)=R.ok (D.int _)
 congr 2
 omega
abbrev eR(z:List Nat)(ps:List (List Nat×List Nat))(x y:Option (D×Bool)):Env:=[some (.str (mkS z),false),some (.lst (ps.map rwD),true),x,y]
def Pn:Sms:=(.cons (.asg 3 (.spl (.var 2) 32)) (.cons (.ife (.comp false (.var 4) (.seq (.slc (.var 3) (.cons (.int 1) .nil) .nil)) (.cons (.or (.op .ne (.b1 .len (.var 4)) (.int 1)) (.op .notin (.var 4) (.str "012345"))) .nil)) (.cons (.ret .non) .nil) .nil) (.cons (.app 1 (.tup (.cons (.idx (.var 3) (.int 0)) (.cons (.b1 .tuple (.comp false (.b1 .int (.var 4)) (.seq (.slc (.var 3) (.cons (.int 1) .nil) .nil)) .nil)) .nil)))) .nil)))
theorem Po{C:Str->List D->R D}{z:List Nat}:∀(L:List (List Nat)) (acc:List (List Nat×List Nat)) (x y:Option (D×Bool)),(∀l∈L,l.length<=5000)->acc.length+L.length<=10000 ->
  (∃ps x' y',Cd L=some ps/\C4 (λx ρ=>exs C Pn (ρ.set 2 (some (x,false)))) (L.map λl=>.str (mkS l)) (eR z acc x y)=.ok (.nx (eR z (acc++ps) x' y'))) \/
  (Cd L=none/\C4 (λx ρ=>exs C Pn (ρ.set 2 (some (x,false)))) (L.map λl=>.str (mkS l)) (eR z acc x y)=.ok (.rt .non))
 |[],acc,x,y,_,_=>.inl ⟨[],x,y,rfl,by rw[List.append_nil];rfl⟩
 |l::L,acc,x,y,hL,hz=>by
  have hll:=hL l List.mem_cons_self;have wl:(words l).2.length<=l.length:=by
   have:=Cc 32 l;rw[Cs] at this;simpa using this
  have we:∀w∈(words l).2,w.length<=5000:=λw hw=>by
   have:=C1 32 l w (by rw[Cs];exact List.mem_cons_of_mem _ hw)
   omega
  let W:List D:=(mkS (words l).1::(words l).2.map mkS).map .str
  let E:Env:=[some (.str (mkS z),false),some (.lst (acc.map rwD),true),some (.str (mkS l),false),some (.lst W,true)]
  have s1:ev C (.spl (.var 2) 32) [some (.str (mkS z),false),some (.lst (acc.map rwD),true),some (.str (mkS l),false),y]=.ok (.lst W):=by
   have:Di 32 (.str (mkS l))=.ok (.lst ((Aq 32 (mkS l)).map .str)):=if_pos (A4 (by simp[mkS,PySem.Str.length];omega))
   rw[Eu,Am (i:=2) (d:=.str (mkS l)) rfl,R.bind_ok,this];unfold Aq
   show R.ok (D.lst (((A0 32 l.toArray.toList).map λl=>(⟨l.toArray⟩:Str)).map .str))=_
   rw[List.toList_toArray,Cs];rfl
  have ei:evI C (.seq (.slc (.var 3) (.cons (.int 1) .nil) .nil)) E=.ok ((words l).2.map λw=>.str (mkS w)):=by
   rw[Fc,Kj,Am (i:=3) (d:=.lst W) rfl,R.bind_ok,B8 (Bp _ 1) (Ai _),R.bind_ok]
   show (R.ok (D.lst (Lf.cut W (some 1) none)) >>= _)=_
   rw[R.bind_ok];have e:Lf.cut W (some 1) none=(words l).2.map λw=>D.str (mkS w):=by
    show Lf.cut (D.str (mkS (words l).1)::((words l).2.map mkS).map .str) (some 1) none=_
    rw[U8,List.map_map];rfl
   rw[e];exact if_pos (A4 (by simp;omega))
  have c1:tst C (.comp false (.var 4) (.seq (.slc (.var 3) (.cons (.int 1) .nil) .nil)) (.cons (.or (.op .ne (.b1 .len (.var 4)) (.int 1)) (.op .notin (.var 4) (.str "012345"))) .nil)) E=.ok (!((words l).2.filter λw=>(D4 w).isNone).isEmpty):=by
   rw[C9 _ rfl,D3,ei,R.bind_ok,Pf (p:=λw=>(D4 w).isNone) (h:=?_),R.bind_ok]
   ·show R.ok (!(((words l).2.filter λw=>(D4 w).isNone).map λw=>D.str (mkS w)).isEmpty)=_
    cases (words l).2.filter λw=>(D4 w).isNone<;>rfl
   ·intro w hw
    rw[U6,R.bind_ok,Kl,Qb4 (i:=4) (w:=w) (b:=false) rfl (we w hw),R.bind_ok];cases (D4 w).isNone<;>rfl
  have st:∀r,exs C (.cons (.asg 3 (.spl (.var 2) 32)) r) [some (.str (mkS z),false),some (.lst (acc.map rwD),true),some (.str (mkS l),false),y]=exs C r E:=λr=>Ee s1 (Bb (k:=D.str) _ λ_=>rfl) rfl
  show (∃ps x' y',_/\(exs C Pn [some (.str (mkS z),false),some (.lst (acc.map rwD),true),some (.str (mkS l),false),y] >>= _)=_)\/(_/\(exs C Pn [some (.str (mkS z),false),some (.lst (acc.map rwD),true),some (.str (mkS l),false),y] >>= _)=_)
  rw[Pn,st]
  cases e:Hu (words l).2 with
  |none=>
   obtain⟨w,hw,hn⟩:=Mh.1 e;have ne:((words l).2.filter λw=>(D4 w).isNone).isEmpty=false:=by
    have:w∈(words l).2.filter λw=>(D4 w).isNone:=List.mem_filter.2 ⟨hw,by rw[hn];rfl⟩
    cases h:(words l).2.filter λw=>(D4 w).isNone with
    |nil=>rw[h] at this;cases this
    |cons _ _=>rfl
   rw[ne] at c1;refine .inr ⟨by rw[Cd,e];rfl,?_⟩
   rw[Bt c1 (Hi _)];rfl
  |some ks=>
   obtain⟨ew,hk⟩:=Fz e;have ne:((words l).2.filter λw=>(D4 w).isNone).isEmpty=true:=by
    rw[List.isEmpty_iff,List.filter_eq_nil_iff];intro w hw z;rw[ew] at hw;obtain⟨k,hk',rfl⟩:=List.mem_map.1 hw;rw[Dy.2 ⟨rfl,hk k hk'⟩] at z;cases z
   rw[ne] at c1;have ea:ev C (.tup (.cons (.idx (.var 3) (.int 0)) (.cons (.b1 .tuple (.comp false (.b1 .int (.var 4)) (.seq (.slc (.var 3) (.cons (.int 1) .nil) .nil)) .nil)) .nil))) E=.ok (rwD ((words l).1,ks)):=by
    refine Kr (B8 (d:=.str (mkS (words l).1)) ?_ (B8 (d:=.tup (nsD ks)) ?_ (Ai _))) (by simp)
    ·rw[M9,Am (i:=3) (d:=.lst W) rfl,R.bind_ok,Bp,R.bind_ok]
     exact Jj (xs:=W) (i:=0) (by simp[W])
    ·rw[Gi,D3,ei,R.bind_ok,ew,List.map_map,Ch (k':=nD) (g:=λk=>k) (h:=?_),R.bind_ok]
     ·rw[List.map_id']
      rfl
     ·intro k hk'
      rw[U6,R.bind_ok,Hk,R.bind_ok,if_pos rfl,Gi,Am (i:=4) (d:=.str (mkS [48+k])) rfl,R.bind_ok,Qb5 (hk k hk'),R.bind_ok]
   have nl:noL (rwD ((words l).1,ks))=true:=by
    show (noL (.str (mkS (words l).1))&&(Bw (nsD ks)&&true))=true
    rw[Dg];rfl
   rw[As c1,Xw (xs:=acc.map rwD) rfl ea nl (by rw[List.length_map];simp at hz;omega),De]
   have ih:=Po (C:=C) (z:=z) L (acc++[((words l).1,ks)]) (some (.str (mkS l),false)) (some (.lst W,true)) (λl hl=>hL l (List.mem_cons_of_mem _ hl)) (by simp at hz |-;omega)
   have em:(acc++[((words l).1,ks)]).map rwD=acc.map rwD++[rwD ((words l).1,ks)]:=by rw[List.map_append];rfl
   rcases ih with⟨ps,x',y',h1,h2⟩|⟨h1,h2⟩
   ·refine .inl ⟨((words l).1,ks)::ps,x',y',by rw[Cd,e,h1];rfl,?_⟩
    rw[eR,em] at h2;rw[List.append_assoc] at h2;exact h2
   ·refine .inr ⟨by rw[Cd,e,h1];rfl,?_⟩
    rw[eR,em] at h2;exact h2
theorem Xz{α:Type}(l:List α):Lf.cut l none (some (-1))=l.dropLast:=by
 unfold Lf.cut Lf.sIx;simp only[List.drop_zero,Nat.sub_zero];rw[if_pos (by decide),List.dropLast_eq_take]
 congr 1
 omega
theorem Qf4{T:Tab}(h:T.lookup ("_law_rows" : Str)=some Hh)(n:Nat)(z:List Nat)(hz:z.length<=5000) :
  run T (n+1) "_law_rows" [.str (mkS z)]=.ok (match Cd (A0 10 z).dropLast with|some ps=>.lst (ps.map rwD)|none=>.non):=by
 have sl:=Cc 10 z;have dl:(A0 10 z).dropLast.length<=5000:=by rw[List.length_dropLast];omega
 have ei:evI (run T n) (.seq (.slc (.spl (.var 0) 10) .nil (.cons (.int (-1)) .nil))) (eR z [] none none)=.ok ((A0 10 z).dropLast.map λl=>.str (mkS l)):=by
  have:Di 10 (.str (mkS z))=.ok (.lst ((Aq 10 (mkS z)).map .str)):=if_pos (A4 (by simp[mkS,PySem.Str.length];omega))
  have e:(Aq 10 (mkS z)).map D.str=(A0 10 z).map λl=>.str (mkS l):=by
   unfold Aq;rw[List.map_map];simp[mkS]
  rw[Fc,Kj,Eu,Am (i:=0) (d:=.str (mkS z)) rfl,R.bind_ok,this,R.bind_ok,Ai,R.bind_ok,show bound []=R.ok none from rfl,R.bind_ok,B8 (Bp _ (-1)) (Ai _),R.bind_ok,e]
  show (R.ok (D.lst (Lf.cut ((A0 10 z).map λl=>D.str (mkS l)) none (some (-1)))) >>= _)=_
  rw[Xz,R.bind_ok,<-List.map_dropLast];exact if_pos (A4 (by rw[List.length_map];omega))
 rcases Po (C:=run T n) (z:=z) (A0 10 z).dropLast [] none none (λl hl=>by have:=C1 10 z l (List.dropLast_subset _ hl);omega) (by simp at dl |-;omega) with⟨ps,x',y',h1,h2⟩|⟨h1,h2⟩
 ·rw[h1]
  refine Ao h rfl ?_;refine(Ee (xs:=[]) (by simp) rfl rfl).trans ?_
  rw[List.nil_append] at h2;refine(Gj (ρ':=eR z ps x' y') ?_).trans (C3 (Am (d:=.lst (ps.map rwD)) rfl))
  ·show (evI (run T n) (.seq (.slc (.spl (.var 0) 10) .nil (.cons (.int (-1)) .nil))) (eR z [] none none) >>= _)=_
   rw[ei,R.bind_ok];exact h2
 ·rw[h1]
  refine Ao h rfl ?_;refine(Ee (xs:=[]) (by simp) rfl rfl).trans (Qs ?_)
  show (evI (run T n) (.seq (.slc (.spl (.var 0) 10) .nil (.cons (.int (-1)) .nil))) (eR z [] none none) >>= _)=_
  rw[ei,R.bind_ok];exact h2
theorem O0:∀(ns acc:List Int),acc.Nodup->(ns.foldl (λl v=>if l.any (·==v) then l else l++[v]) acc).length<=acc.length+ns.length/\((ns.foldl (λl v=>if l.any (·==v) then l else l++[v]) acc).length=acc.length+ns.length↔(acc++ns).Nodup)
 |[],acc,h=>by simp[h]
 |v::ns,acc,h=>by
  rw[List.foldl_cons]
  cases e:acc.any (·==v) with
  |true=>
   rw[if_pos rfl];have ih:=O0 ns acc h;have hm:v∈acc:=by simpa using e
   refine⟨by rw[List.length_cons];omega,⟨λz=>?_,λz=>?_⟩⟩
   ·rw[List.length_cons] at z
    omega
   ·exact absurd rfl ((List.nodup_append.1 z).2.2 v hm v List.mem_cons_self)
  |false=>
   rw[if_neg (by simp)]
   have hm:v∉acc:=by
    intro z;have:acc.any (·==v)=true:=by simpa using z
    rw[e] at this;cases this
   have h':(acc++[v]).Nodup:=List.nodup_append.2 ⟨h,by simp,λa ha b hb=>by
    rw[List.mem_singleton.1 hb];exact λq=>hm (q ▸ ha)⟩
   have ih:=O0 ns (acc++[v]) h';rw[List.length_append,List.length_singleton,List.append_assoc] at ih;refine⟨by rw[List.length_cons];omega,?_⟩
   rw[List.length_cons,show acc.length+(ns.length+1)=acc.length+1+ns.length by omega]
   exact ih.2
theorem Qb6(w:List Nat):((Tn (w.map λ(n:Nat)=>(n:Int))).length=w.length)↔w.Nodup:=by
 have:=(O0 (w.map λ(n:Nat)=>(n:Int)) [] .nil).2
 rw[List.length_nil,Nat.zero_add,List.nil_append,List.length_map] at this;refine this.trans ⟨λh=>?_,λh=>?_⟩
 ·rw[List.nodup_iff_pairwise_ne,List.pairwise_map] at h
  exact h.imp λhab z=>hab (by rw[z])
 ·rw[List.nodup_iff_pairwise_ne,List.pairwise_map]
  exact h.imp λhab z=>hab (by omega)
theorem Pp(m:Int):∀(r:List Int) (x:Int),r.foldl max x<m↔x<m/\∀y∈r,y<m
 |[],x=>by simp
 |y::r,x=>by
  rw[List.foldl_cons,Pp m r (max x y)];constructor
  ·rintro ⟨a,b⟩
   refine⟨by omega,λz hz=>?_⟩
   rcases List.mem_cons.1 hz with rfl|hz
   ·omega
   ·exact b z hz
  ·rintro ⟨a,b⟩
   have:=b y List.mem_cons_self;exact⟨by omega,λz hz=>b z (List.mem_cons_of_mem _ hz)⟩
theorem Qb7(w:List Nat)(m:Nat)(hm:1<=m):(To (w.map λ(n:Nat)=>(n:Int))<(m:Int))↔∀x∈w,x<m:=by
 cases w with
 |nil=>
  show ((0:Int)<m)↔_
  simp;omega
 |cons a w=>
  show (w.map λ(n:Nat)=>(n:Int)).foldl max (a:Int)<(m:Int)↔_
  rw[Pp];constructor
  ·rintro ⟨h1,h2⟩ x hx
   rcases List.mem_cons.1 hx with rfl|hx
   ·omega
   ·have:=h2 x (List.mem_map.2 ⟨x,hx,rfl⟩)
    omega
  ·intro h
   have:=h a List.mem_cons_self;refine⟨by omega,λy hy=>?_⟩
   obtain⟨x,hx,rfl⟩:=List.mem_map.1 hy;have:=h x (List.mem_cons_of_mem _ hx);omega
def okW(m:Nat)(w:List Nat):Bool:=decide w.Nodup&&w.all λx=>decide (x<m)
theorem Jl{m:Nat}{w:List Nat}:okW m w=true↔w.Nodup/\∀x∈w,x<m:=by
 unfold okW;rw[Bool.and_eq_true,decide_eq_true_iff,List.all_eq_true];simp
theorem Mi(l:List Nat):Bg (nsD l)=some (l.map λ(n:Nat)=>(n:Int)):=by
 have:=Qv (l.map λ(n:Nat)=>(n:Int))
 rwa [List.map_map] at this
theorem Qc0{C:Str->List D->R D}{ρ:Env}{i j:Nat}{w:List Nat}{l:List D}{b b':Bool}(hi:ρ[i]?=some (some (.tup (nsD w),b)))(hj:ρ[j]?=some (some (.lst l,b')))(hl:1<=l.length)(hw:w.length<4000) :
  tst C (.or (.op .ne (.lset (.var i)) (.b1 .len (.var i))) (.op .ge (.maxd (.var i)) (.b1 .len (.var j)))) ρ=.ok (!okW l.length w):=by
 have h1:tst C (.op .ne (.lset (.var i)) (.b1 .len (.var i))) ρ=.ok (!decide w.Nodup):=by
  rw[Kk,Ce,Zd,Am hi,R.bind_ok]
  show (((match Bg (nsD w) with|some ns=>(if ns.length<4000 then R.ok (D.int (Tn ns).length) else .un)|none=>.un) >>= _) >>= Ci)=_
  rw[Mi]
  show (((if (w.map λ(n:Nat)=>(n:Int)).length<4000 then R.ok (D.int ((Tn (w.map λ(n:Nat)=>(n:Int))).length:Int)) else .un) >>= _) >>= Ci)=_
  rw[if_pos (by rw[List.length_map];exact hw),R.bind_ok,Gi,Am hi,R.bind_ok]
  show ((R.ok (D.int ((nsD w).length:Int)) >>= _) >>= Ci)=_
  rw[R.bind_ok,Ql _ _ rfl]
  show R.ok (!(((Tn (w.map λ(n:Nat)=>(n:Int))).length:Int)==((nsD w).length:Int)))=_
  congr 2
  rw[Bool.eq_iff_iff,beq_iff_eq,decide_eq_true_iff,<-Qb6,Qu];omega
 have h2:tst C (.op .ge (.maxd (.var i)) (.b1 .len (.var j))) ρ=.ok (!w.all λx=>decide (x<l.length)):=by
  rw[Kk,Ce,Ze,Am hi,R.bind_ok]
  show (((match Bg (nsD w) with|some ns=>(if ns.length<4000 then R.ok (D.int (To ns)) else .un)|none=>.un) >>= _) >>= Ci)=_
  rw[Mi]
  show (((if (w.map λ(n:Nat)=>(n:Int)).length<4000 then R.ok (D.int (To (w.map λ(n:Nat)=>(n:Int)))) else .un) >>= _) >>= Ci)=_
  rw[if_pos (by rw[List.length_map];exact hw),R.bind_ok,Gi,Am hj,R.bind_ok]
  show (op2 .ge (.int _) (.int (l.length:Int)) >>= Ci)=_
  show R.ok (decide ((l.length:Int)<=_))=_
  congr 1
  have:=Qb7 w l.length hl;rw[Bool.eq_iff_iff,decide_eq_true_iff,Bool.not_eq_true',<-Bool.not_eq_true,List.all_eq_true];simp only[decide_eq_true_iff];rw[<-this];omega
 rw[X6,h1,R.bind_ok];unfold okW
 cases decide w.Nodup with
 |false=>rfl
 |true=>
  show tst C _ ρ=_
  rw[h2,Bool.true_and]
def wP(ps:List (List Nat×List Nat)):List (List Nat):=ps.filterMap λp=>if p.1=gC then some p.2 else none
def hP1:List Nat->Option (Nat×List Nat)
 |r::g=>some (r,g)
 |[]=>none
def hP(ps:List (List Nat×List Nat)):List (Nat×List Nat):=ps.filterMap λp=>if p.1=hC then hP1 p.2 else none
def Ij(ps:List (List Nat×List Nat)):Bool:=decide (ps.map (·.1)=List.replicate (wP ps).length gC++List.replicate (hP ps).length hC)
def Ei(n:Nat):Bool:=decide (1<=n)&&decide (n<=5)
def Dl(ps:List (List Nat×List Nat)):Bool:=Ij ps&&(Ei (wP ps).length&&Ei (hP ps).length)&&((wP ps).all (okW (hP ps).length)&&(hP ps).all λp=>okW (wP ps).length p.2)
theorem Sn:∀a b:List (List Nat),G0 (a.map λl=>.str (mkS l)) (b.map λl=>.str (mkS l))=decide (a=b)
 |[],[]=>by simp;rfl
 |[],_::_=>by simp;rfl
 |_::_,[]=>by simp;rfl
 |a::l,b::m=>by
  show ((mkS a==mkS b)&&G0 (l.map λl=>.str (mkS l)) (m.map λl=>.str (mkS l)))=_
  rw[Sn l m,Qb1 a b _ rfl,Bool.eq_iff_iff];simp
theorem Kv{f:D->Env->R Fl}{J:Env->Prop}{α:Type}{k:α->D}{P:α->Bool}:∀{l:List α},(∀a∈l,∀ρ,J ρ->(P a=true->∃ρ',J ρ'/\f (k a) ρ=.ok (.nx ρ'))/\(P a=false->f (k a) ρ=.ok (.rt .non)))->∀ρ,J ρ ->
  (l.all P=true/\∃ρ',J ρ'/\C4 f (l.map k) ρ=.ok (.nx ρ'))\/(l.all P=false/\C4 f (l.map k) ρ=.ok (.rt .non))
 |[],_,ρ,hJ=>.inl ⟨rfl,ρ,hJ,rfl⟩
 |a::l,h,ρ,hJ=>by
  obtain⟨h1,h2⟩:=h a List.mem_cons_self ρ hJ
  cases e:P a with
  |false=>
   refine .inr ⟨by rw[List.all_cons,e];rfl,?_⟩
   rw[List.map_cons,C4,h2 e];rfl
  |true=>
   obtain⟨ρ',hJ',e'⟩:=h1 e;rw[List.map_cons,C4,e',List.all_cons,e,Bool.true_and];exact Kv (λa ha=>h a (List.mem_cons_of_mem _ ha)) ρ' hJ'
theorem Jm:∀{L:List (List Nat)} {ps:List (List Nat×List Nat)},Cd L=some ps->(∀l∈L,l.length<=2000)->ps.length=L.length/\∀p∈ps,(∀k∈p.2,k<=5)/\p.2.length<=2001
 |[],ps,h,_=>by
  cases h;exact⟨rfl,λ_ h=>nomatch h⟩
 |l::L,ps,h,hl=>by
  obtain⟨ks,h1,h⟩:=Option.bind_eq_some_iff.1 (show ((Hu (words l).2).bind λks=>(Cd L).map λps=>((words l).1,ks)::ps)=some ps from h)
  obtain⟨ps',h2,rfl⟩:=Option.map_eq_some_iff.1 h;obtain⟨i1,i2⟩:=Jm h2 λl hl'=>hl l (List.mem_cons_of_mem _ hl')
  obtain⟨ew,hk⟩:=Fz h1;refine⟨by simp[i1],λp hp=>?_⟩
  rcases List.mem_cons.1 hp with rfl|hp
  ·refine⟨hk,?_⟩
   have:=Cc 32 l;rw[Cs,ew] at this;have h5:=hl l List.mem_cons_self;simp at this
   show ks.length<=2001
   omega
  ·exact i2 p hp
theorem Fi{α β γ:Type}(f:α->Option β)(g:β->γ)(l:List α):(l.filterMap f).map g=l.filterMap λa=>(f a).map g:=by
 induction l with
 |nil=>rfl
 |cons a l ih=>cases e:f a<;>simp[e,ih]
theorem So{α:Type}{f:D->R (Option D)}{k:α->D}{g:α->Option D}{l:List α}(h:∀a∈l,f (k a)=.ok (g a)):Gz f (l.map k)=.ok (l.filterMap g):=Hl h
abbrev eD(z:List Nat)(ps:List (List Nat×List Nat))(x4 x5 x6:Option (D×Bool)):Env:=[some (.str (mkS z),false),some (.lst (ps.map rwD),false),some (.lst ((wP ps).map wD),true),some (.lst ((hP ps).map hD),true),x4,x5,x6]
theorem Qi9{T:Tab}(h1:T.lookup ("_law_rows" : Str)=some Hh)(h2:T.lookup ("_law_due" : Str)=some Np)(n:Nat)(z:List Nat)(hz:z.length<=2000) :
  run T (n+2) "_law_due" [.str (mkS z)]=.ok (match Cd (A0 10 z).dropLast with|some ps=>(if (z.getLast?==some 10)&&Dl ps then Af ⟨wP ps,hP ps⟩ else .non)|none=>.non):=by
 have er:=Qf4 h1 n z (by omega)
 let C:=run T (n+1)
 have ec:∀(x1 x2 x3 x4 x5 x6:Option (D×Bool)),ev C (.call "_law_rows" (.cons (.var 0) .nil)) [some (.str (mkS z),false),x1,x2,x3,x4,x5,x6]=.ok (match Cd (A0 10 z).dropLast with|some ps=>.lst (ps.map rwD)|none=>.non):=λ_ _ _ _ _ _=>by
  rw[Bs,B8 (Am (i:=0) (d:=.str (mkS z)) rfl) (Ai _),R.bind_ok];exact er
 cases e:Cd (A0 10 z).dropLast with
 |none=>
  rw[e] at ec;refine Ao h2 rfl ((D2 (ec none none none none none none) rfl).trans (Bt ?_ (Hi _)))
  show tst C (.or (.isn false (.var 1)) (.not (.endw (.var 0) 10))) [some (.str (mkS z),false),some (.non,false),none,none,none,none,none]=_
  rw[X6,X7,X5,Am (i:=1) (d:=.non) rfl];rfl
 |some ps=>
  show run T (n+2) "_law_due" [.str (mkS z)]=.ok (if (z.getLast?==some 10)&&Dl ps then Af ⟨wP ps,hP ps⟩ else .non)
  rw[e] at ec;have sl:=Cc 10 z;obtain⟨pl,pk⟩:=Jm e λl hl=>by have:=C1 10 z l (List.dropLast_subset _ hl);omega
  have pl:ps.length<=2000:=by rw[pl,List.length_dropLast];omega
  have p2:∀{p},p∈ps->p.2.length<=2001:=λ{p} hp=>(pk p hp).2
  refine Ao h2 rfl ((Qjh (ec none none none none none none) rfl).trans ?_)
  show exs C _ [some (.str (mkS z),false),some (.lst (ps.map rwD),false),none,none,none,none,none]=_
  have t1:tst C (.or (.isn false (.var 1)) (.not (.endw (.var 0) 10))) [some (.str (mkS z),false),some (.lst (ps.map rwD),false),none,none,none,none,none]=.ok (!(z.getLast?==some 10)):=by
   rw[X6,X7,X5,Am (i:=1) (d:=.lst (ps.map rwD)) rfl,R.bind_ok,R.bind_ok,Qhx,show (Ds (D.lst (ps.map rwD)) != false)=false from rfl,R.bind_ok,if_neg (by simp),Pd,C9 _ rfl,Zc,Am (i:=0) (d:=.str (mkS z)) rfl,R.bind_ok]
   show R.ok (!((mkS z).cps.toList.getLast?==some 10))=_
   simp[mkS]
  cases el:(z.getLast?==some 10) with
  |false=>
   rw[el] at t1;exact Bt t1 (Hi _)
  |true=>
  rw[el] at t1;refine(As t1).trans ?_;rw[Bool.true_and];have sv:∀(x2 x3 x4 x5 x6:Option (D×Bool)),evI C (.seq (.var 1)) [some (.str (mkS z),false),some (.lst (ps.map rwD),false),x2,x3,x4,x5,x6]=.ok (ps.map rwD):=λ_ _ _ _ _=>by
   rw[Fc,Am (i:=1) (d:=.lst (ps.map rwD)) rfl,R.bind_ok];exact if_pos (A4 (by rw[List.length_map];omega))
  have q0:∀{ρ:Env} {p:List Nat×List Nat},ρ[7]?=some (some (rwD p,false))->ev C (.idx (.var 7) (.int 0)) ρ=.ok (.str (mkS p.1)):=λ{ρ p} h=>by
   rw[M9,Am h,R.bind_ok,Bp,R.bind_ok];rfl
  have q1:∀{ρ:Env} {p:List Nat×List Nat},ρ[7]?=some (some (rwD p,false))->ev C (.idx (.var 7) (.int 1)) ρ=.ok (.tup (nsD p.2)):=λ{ρ p} h=>by
   rw[M9,Am h,R.bind_ok,Bp,R.bind_ok];rfl
  have qe:∀{ρ:Env} {p:List Nat×List Nat} {w:List Nat} {s:Str},s=mkS w->ρ[7]?=some (some (rwD p,false))->tst C (.op .eq (.idx (.var 7) (.int 0)) (.str s)) ρ=.ok (decide (p.1=w)):=λ{ρ p w s} hs h=>by
   rw[Kk,Ce,q0 h,R.bind_ok,Aw,R.bind_ok,Qk _ _ rfl]
   show R.ok (mkS p.1==s)=_
   rw[Qb1 _ w _ hs]
  have c2:ev C (.comp false (.idx (.var 7) (.int 1)) (.seq (.var 1)) (.cons (.op .eq (.idx (.var 7) (.int 0)) (.str "guest")) .nil)) [some (.str (mkS z),false),some (.lst (ps.map rwD),false),none,none,none,none,none]=.ok (.lst ((wP ps).map wD)):=by
   rw[D3,sv,R.bind_ok,So (g:=λp:List Nat×List Nat=>if p.1=gC then some (wD p.2) else none) (h:=?_),R.bind_ok]
   ·rw[wP,Fi]
    congr 3
    funext p
    by_cases h:p.1=gC<;>simp[h]
   ·intro p hp
    rw[U6,R.bind_ok,Kl,qe (p:=p) e_g rfl,R.bind_ok];by_cases h:p.1=gC
    ·rw[decide_eq_true h,if_pos rfl,Hk,R.bind_ok,if_pos rfl,q1 (p:=p) rfl,R.bind_ok,if_pos h]
     rfl
    ·rw[decide_eq_false h,if_neg (by simp),R.bind_ok,if_neg (by simp),if_neg h]
  have nw:Bw ((wP ps).map wD)=true:=Bb _ λw=>Dg w
  refine(Ee c2 nw rfl).trans ?_;have c3:ev C (.comp false (.tup (.cons (.idx (.idx (.var 7) (.int 1)) (.int 0)) (.cons (.slc (.idx (.var 7) (.int 1)) (.cons (.int 1) .nil) .nil) .nil))) (.seq (.var 1)) (.cons (.and (.op .eq (.idx (.var 7) (.int 0)) (.str "house")) (.idx (.var 7) (.int 1))) .nil)) [some (.str (mkS z),false),some (.lst (ps.map rwD),false),some (.lst ((wP ps).map wD),true),none,none,none,none]=.ok (.lst ((hP ps).map hD)):=by
   rw[D3,sv,R.bind_ok,So (g:=λp:List Nat×List Nat=>if p.1=hC then (hP1 p.2).map hD else none) (h:=?_),R.bind_ok]
   ·rw[hP,Fi]
    congr 3
    funext p
    by_cases h:p.1=hC<;>simp[h]
   ·intro p hp
    rw[U6,R.bind_ok,Kl,Qhs,qe (p:=p) e_h rfl,R.bind_ok];by_cases h:p.1=hC
    ·rw[decide_eq_true h,if_pos rfl,if_pos h,C9 _ rfl,q1 (p:=p) rfl,R.bind_ok]
     obtain⟨a,b⟩:=p
     cases b with
     |nil=>rfl
     |cons r g=>
      show (R.ok true >>= _) >>= _=_
      rw[R.bind_ok,if_pos rfl,Hk,R.bind_ok,if_pos rfl,Kr (B8 (d:=nD r) ?_ (B8 (d:=.tup (nsD g)) ?_ (Ai _))) (by simp),R.bind_ok]
      ·rfl
      ·rw[M9,q1 (p:=(a,r::g)) rfl,R.bind_ok,Bp,R.bind_ok]
       exact Jj (xs:=nsD (r::g)) (i:=0) (by simp)
      ·rw[Kj,q1 (p:=(a,r::g)) rfl,R.bind_ok,B8 (Bp _ 1) (Ai _),R.bind_ok]
       show R.ok (D.tup (Lf.cut (nD r::nsD g) (some 1) none))=_
       rw[U8]
    ·rw[decide_eq_false h,if_neg (by simp),R.bind_ok,if_neg (by simp),R.bind_ok,if_neg (by simp),if_neg h]
  have nh:Bw ((hP ps).map hD)=true:=Bb _ λp=>by show (noL (nD p.1)&&(Bw (nsD p.2)&&true))=true;rw[Dg];rfl
  refine(Ee c3 nh rfl).trans ?_
  show exs C _ (eD z ps none none none)=_
  have wl:(wP ps).length<=2000:=Nat.le_trans (List.length_filterMap_le _ _) pl;have hl:(hP ps).length<=2000:=Nat.le_trans (List.length_filterMap_le _ _) pl;have v2:∀x4 x5 x6,ev C (.b1 .len (.var 2)) (eD z ps x4 x5 x6)=.ok (nD (wP ps).length):=λ_ _ _=>by
   rw[Gi,Am (i:=2) (d:=.lst ((wP ps).map wD)) rfl,R.bind_ok]
   show R.ok (D.int (((wP ps).map wD).length:Int))=_
   rw[List.length_map]
  have v3:∀x4 x5 x6,ev C (.b1 .len (.var 3)) (eD z ps x4 x5 x6)=.ok (nD (hP ps).length):=λ_ _ _=>by
   rw[Gi,Am (i:=3) (d:=.lst ((hP ps).map hD)) rfl,R.bind_ok]
   show R.ok (D.int (((hP ps).map hD).length:Int))=_
   rw[List.length_map]
  have rp:∀(s:Str) (k:Nat),k<=2000->Zb (.str s) (nD k)=.ok (.lst (List.replicate k (.str s))):=λs k hk=>by
   show (if noL (.str s)&&decide (0<=(k:Int))&&Av (k:Int).toNat then R.ok (D.lst (List.replicate (k:Int).toNat (.str s))) else .un)=_
   rw[Int.toNat_natCast,A4 (by omega),decide_eq_true (by omega:(0:Int)<=(k:Int))]
   rfl
  have t4:tst C (.op .ne (.comp false (.idx (.var 7) (.int 0)) (.seq (.var 1)) .nil) (.op .add (.rep (.str "guest") (.b1 .len (.var 2))) (.rep (.str "house") (.b1 .len (.var 3))))) (eD z ps none none none)=.ok (!Ij ps):=by
   have a1:ev C (.comp false (.idx (.var 7) (.int 0)) (.seq (.var 1)) .nil) (eD z ps none none none)=.ok (.lst ((ps.map (·.1)).map λl=>.str (mkS l))):=by
    rw[D3,sv,R.bind_ok,Ch (k':=λl=>D.str (mkS l)) (g:=λp:List Nat×List Nat=>p.1) (h:=?_),R.bind_ok]
    intro p hp;rw[U6,R.bind_ok,Hk,R.bind_ok,if_pos rfl,q0 (p:=p) rfl,R.bind_ok]
   have a2:ev C (.op .add (.rep (.str "guest") (.b1 .len (.var 2))) (.rep (.str "house") (.b1 .len (.var 3)))) (eD z ps none none none)=.ok (.lst ((List.replicate (wP ps).length gC++List.replicate (hP ps).length hC).map λl=>.str (mkS l))):=by
    rw[Xv (xs:=List.replicate (wP ps).length (.str "guest")) (ys:=List.replicate (hP ps).length (.str "house")) ?_ ?_ (by simp;omega)]
    ·rw[List.map_append,List.map_replicate,List.map_replicate,e_g,e_h]
    ·rw[Qbu,Aw,R.bind_ok,v2,R.bind_ok,rp _ _ wl]
    ·rw[Qbu,Aw,R.bind_ok,v3,R.bind_ok,rp _ _ hl]
   rw[Kk,Ce,a1,R.bind_ok,a2,R.bind_ok,Ql _ _ (show lo 9 (.lst ((ps.map (·.1)).map λl=>.str (mkS l)))=true from Nu _ λl=>Qew 8 _)]
   show R.ok (!G0 _ _)=_
   rw[Sn];rfl
  have done:∀r,Ij ps=false->exs C (.cons (.ife (.op .ne (.comp false (.idx (.var 7) (.int 0)) (.seq (.var 1)) .nil) (.op .add (.rep (.str "guest") (.b1 .len (.var 2))) (.rep (.str "house") (.b1 .len (.var 3))))) (.cons (.ret .non) .nil) .nil) r) (eD z ps none none none)=.ok (.rt .non):=λr h=>by
   rw[h] at t4;exact Bt t4 (Hi _)
  cases eN:Ij ps with
  |false=>
   rw[show Dl ps=false by unfold Dl;rw[eN];rfl]
   exact done _ eN
  |true=>
  rw[eN] at t4;refine(As t4).trans ?_;have tc:∀(i k:Nat),ev C (.b1 .len (.var i)) (eD z ps none none none)=.ok (nD k)->tst C (.not (.chn .le .le (.int 1) (.b1 .len (.var i)) (.int 5))) (eD z ps none none none)=.ok (!Ei k):=λi k h=>by
   rw[Pd,C9 _ rfl,Qhp,Bp,R.bind_ok,h,R.bind_ok,Qa2,R.bind_ok];unfold Ei;by_cases h1:1<=k
   ·rw[decide_eq_true (show (1:Int)<=(k:Int) by omega),decide_eq_true h1]
    show ((ev C (.int 5) _ >>= λw=>op2 .le (nD k) w) >>= Ci) >>= _=_
    rw[Bp,R.bind_ok,Qa2]
    show R.ok (!decide ((k:Int)<=5))=_
    congr 2
    rw[Bool.true_and,Bool.eq_iff_iff,decide_eq_true_iff,decide_eq_true_iff];omega
   ·rw[decide_eq_false (show ¬(1:Int)<=(k:Int) by omega),decide_eq_false h1]
    rfl
  have t5:tst C (.or (.not (.chn .le .le (.int 1) (.b1 .len (.var 2)) (.int 5))) (.not (.chn .le .le (.int 1) (.b1 .len (.var 3)) (.int 5)))) (eD z ps none none none)=.ok (!(Ei (wP ps).length&&Ei (hP ps).length)):=by
   rw[X6,tc 2 _ (v2 _ _ _),R.bind_ok]
   cases Ei (wP ps).length with
   |false=>rfl
   |true=>
    show tst C _ _=_
    rw[tc 3 _ (v3 _ _ _),Bool.true_and]
  cases eS:(Ei (wP ps).length&&Ei (hP ps).length) with
  |false=>
   rw[show Dl ps=false by unfold Dl;rw[eN,eS];rfl]
   rw[eS] at t5;exact Bt t5 (Hi _)
  |true=>
  rw[eS] at t5;refine(As t5).trans ?_;have eS':=Bool.and_eq_true_iff.1 eS;unfold Ei at eS';simp only[Bool.and_eq_true,decide_eq_true_iff] at eS';have pw:∀w∈wP ps,w.length<=2001:=λw hw=>by
   obtain⟨p,hp,e'⟩:=List.mem_filterMap.1 hw;split at e'
   ·cases e'
    exact p2 hp
   ·cases e'
  have ph:∀p∈hP ps,p.2.length<=2001:=λp hp=>by
   obtain⟨q,hq,e'⟩:=List.mem_filterMap.1 hp;split at e'
   ·have:=p2 hq
    cases h:q.2 with
    |nil=>rw[h] at e';cases e'
    |cons r g=>
     rw[h] at e' this;cases e';simp at this
     show g.length<=2001
     omega
   ·cases e'
  rcases Kv (f:=λx ρ=>exs C (.cons (.ife (.or (.op .ne (.lset (.var 4)) (.b1 .len (.var 4))) (.op .ge (.maxd (.var 4)) (.b1 .len (.var 3)))) (.cons (.ret .non) .nil) .nil) .nil) (ρ.set 4 (some (x,false)))) (J:=λρ=>∃x4,ρ=[some (.str (mkS z),false),some (.lst (ps.map rwD),false),some (.lst ((wP ps).map wD),false),some (.lst ((hP ps).map hD),true),x4,none,none]) (k:=wD) (P:=okW (hP ps).length) (l:=wP ps) (λw hw ρ hJ=>by
   obtain⟨x4,rfl⟩:=hJ;have t:=Qc0 (C:=C) (ρ:=[some (.str (mkS z),false),some (.lst (ps.map rwD),false),some (.lst ((wP ps).map wD),false),some (.lst ((hP ps).map hD),true),some (wD w,false),none,none]) (i:=4) (j:=3) (w:=w) (l:=(hP ps).map hD) rfl rfl (by rw[List.length_map];exact eS'.2.1) (by have:=pw w hw;omega)
   rw[List.length_map] at t;refine⟨λh=>⟨_,⟨some (wD w,false),rfl⟩,?_⟩,λh=>?_⟩
   ·rw[h] at t
    show exs C _ [some (.str (mkS z),false),some (.lst (ps.map rwD),false),some (.lst ((wP ps).map wD),false),some (.lst ((hP ps).map hD),true),some (wD w,false),none,none]=_
    rw[As t,De]
   ·rw[h] at t
    exact Bt t (Hi _)) [some (.str (mkS z),false),some (.lst (ps.map rwD),false),some (.lst ((wP ps).map wD),false),some (.lst ((hP ps).map hD),true),none,none,none] ⟨none,rfl⟩ with⟨a1,ρ',⟨x4,rfl⟩,a2⟩|⟨a1,a2⟩
  ·refine(Gj (ρ':=[some (.str (mkS z),false),some (.lst (ps.map rwD),false),some (.lst ((wP ps).map wD),false),some (.lst ((hP ps).map hD),true),x4,none,none]) ?_).trans ?_
   ·show (evI C (.seq (.var 2)) (eD z ps none none none) >>= _)=_
    rw[Fc,Am (i:=2) (d:=.lst ((wP ps).map wD)) rfl,R.bind_ok]
    show ((if Av ((wP ps).map wD).length then R.ok ((wP ps).map wD) else .un) >>= _)=_
    rw[if_pos (A4 (by rw[List.length_map];omega)),R.bind_ok]
    exact a2
   ·rcases Kv (f:=λx ρ=>match x with
     |.tup [u,v]=>exs C (.cons (.ife (.or (.op .ne (.lset (.var 6)) (.b1 .len (.var 6))) (.op .ge (.maxd (.var 6)) (.b1 .len (.var 2)))) (.cons (.ret .non) .nil) .nil) .nil) ((ρ.set 5 (some (u,false))).set 6 (some (v,false)))
     |_=>.un) (J:=λρ=>∃x5 x6,ρ=[some (.str (mkS z),false),some (.lst (ps.map rwD),false),some (.lst ((wP ps).map wD),false),some (.lst ((hP ps).map hD),false),x4,x5,x6]) (k:=hD) (P:=λp=>okW (wP ps).length p.2) (l:=hP ps) (λp hp ρ hJ=>by
     obtain⟨x5,x6,rfl⟩:=hJ;have t:=Qc0 (C:=C) (ρ:=[some (.str (mkS z),false),some (.lst (ps.map rwD),false),some (.lst ((wP ps).map wD),false),some (.lst ((hP ps).map hD),false),x4,some (nD p.1,false),some (.tup (nsD p.2),false)]) (i:=6) (j:=2) (w:=p.2) (l:=(wP ps).map wD) rfl rfl (by rw[List.length_map];exact eS'.1.1) (by have:=ph p hp;omega)
     rw[List.length_map] at t;refine⟨λh=>⟨_,⟨some (nD p.1,false),some (.tup (nsD p.2),false),rfl⟩,?_⟩,λh=>?_⟩
     ·rw[h] at t
      show exs C _ [some (.str (mkS z),false),some (.lst (ps.map rwD),false),some (.lst ((wP ps).map wD),false),some (.lst ((hP ps).map hD),false),x4,some (nD p.1,false),some (.tup (nsD p.2),false)]=_
      rw[As t,De]
     ·rw[h] at t
      exact Bt t (Hi _)) [some (.str (mkS z),false),some (.lst (ps.map rwD),false),some (.lst ((wP ps).map wD),false),some (.lst ((hP ps).map hD),false),x4,none,none] ⟨none,none,rfl⟩ with⟨b1,ρ',⟨x5,x6,rfl⟩,b2⟩|⟨b1,b2⟩
    ·rw[show Dl ps=true by unfold Dl;rw[eN,eS,a1,b1];rfl,if_pos rfl]
     refine(Gj (ρ':=[some (.str (mkS z),false),some (.lst (ps.map rwD),false),some (.lst ((wP ps).map wD),false),some (.lst ((hP ps).map hD),false),x4,x5,x6]) ?_).trans (C3 ?_)
     ·show (evI C (.seq (.var 3)) [some (.str (mkS z),false),some (.lst (ps.map rwD),false),some (.lst ((wP ps).map wD),false),some (.lst ((hP ps).map hD),true),x4,none,none] >>= _)=_
      rw[Fc,Am (i:=3) (d:=.lst ((hP ps).map hD)) rfl,R.bind_ok]
      show ((if Av ((hP ps).map hD).length then R.ok ((hP ps).map hD) else .un) >>= _)=_
      rw[if_pos (A4 (by rw[List.length_map];omega)),R.bind_ok]
      cases x4<;>exact b2
     ·refine Kr (B8 (d:=.tup ((wP ps).map wD)) ?_ (B8 (d:=.tup ((hP ps).map hD)) ?_ (Ai _))) (by simp)
      ·rw[Gi,Am (i:=2) (d:=.lst ((wP ps).map wD)) rfl,R.bind_ok]
       rfl
      ·rw[Gi,Am (i:=3) (d:=.lst ((hP ps).map hD)) rfl,R.bind_ok]
       rfl
    ·rw[show Dl ps=false by unfold Dl;rw[eN,eS,a1,b1];rfl]
     refine Qs ?_
     show (evI C (.seq (.var 3)) [some (.str (mkS z),false),some (.lst (ps.map rwD),false),some (.lst ((wP ps).map wD),false),some (.lst ((hP ps).map hD),true),x4,none,none] >>= _)=_
     rw[Fc,Am (i:=3) (d:=.lst ((hP ps).map hD)) rfl,R.bind_ok]
     show ((if Av ((hP ps).map hD).length then R.ok ((hP ps).map hD) else .un) >>= _)=_
     rw[if_pos (A4 (by rw[List.length_map];omega)),R.bind_ok]
     cases x4<;>exact b2
  ·rw[show Dl ps=false by unfold Dl;rw[eN,eS,a1];rfl]
   refine Qs ?_
   show (evI C (.seq (.var 2)) (eD z ps none none none) >>= _)=_
   rw[Fc,Am (i:=2) (d:=.lst ((wP ps).map wD)) rfl,R.bind_ok]
   show ((if Av ((wP ps).map wD).length then R.ok ((wP ps).map wD) else .un) >>= _)=_
   rw[if_pos (A4 (by rw[List.length_map];omega)),R.bind_ok]
   exact a2
def Ik(F:Fair):List (List Nat×List Nat):=F.W.map (λw=>(gC,w))++F.H.map λp=>(hC,p.1::p.2)
theorem w_g:∀{P:List (List Nat×List Nat)},(∀p∈P,p.1=gC)->wP P=P.map (·.2)/\hP P=[]/\P=(P.map (·.2)).map λw=>(gC,w)
 |[],_=>⟨rfl,rfl,rfl⟩
 |p::P,h=>by
  obtain⟨a,b,c⟩:=w_g (P:=P) λq hq=>h q (List.mem_cons_of_mem _ hq)
  have hp:=h p List.mem_cons_self;obtain⟨p1,p2⟩:=p;have hp:p1=gC:=hp;subst hp;refine⟨?_,?_,?_⟩
  ·unfold wP at a |-
   rw[List.filterMap_cons_some (b:=p2) (by simp),a]
   rfl
  ·unfold hP at b |-
   rw[List.filterMap_cons_none (by rw[if_neg gh]),b]
  ·rw[List.map_cons,List.map_cons,<-c]
theorem w_h:∀{Q:List (List Nat×List Nat)},(∀p∈Q,p.1=hC)->wP Q=[]/\(hP Q).length<=Q.length/\((hP Q).length=Q.length->Q=(hP Q).map λp=>(hC,p.1::p.2))
 |[],_=>⟨rfl,Nat.le_refl _,λ_=>rfl⟩
 |p::Q,h=>by
  obtain⟨a,b,c⟩:=w_h (Q:=Q) λq hq=>h q (List.mem_cons_of_mem _ hq)
  have hp:=h p List.mem_cons_self;obtain⟨p1,p2⟩:=p;have hp:p1=hC:=hp;subst hp;refine⟨?_,?_⟩
  ·unfold wP at a |-
   rw[List.filterMap_cons_none (by rw[if_neg (Ne.symm gh)]),a]
  ·cases p2 with
   |nil=>
    have e:hP ((hC,[])::Q)=hP Q:=List.filterMap_cons_none (by rw[if_pos rfl];rfl)
    rw[e,List.length_cons];exact⟨by omega,λz=>by omega⟩
   |cons r g=>
    have e:hP ((hC,r::g)::Q)=(r,g)::hP Q:=List.filterMap_cons_some (by rw[if_pos rfl];rfl)
    rw[e,List.length_cons,List.length_cons];refine⟨by omega,λz=>?_⟩
    rw[List.map_cons,<-c (by omega)]
theorem Ua{ps:List (List Nat×List Nat)}(h:Ij ps=true):ps=Ik ⟨wP ps,hP ps⟩:=by
 have h:=of_decide_eq_true h;have hl:ps.length=(wP ps).length+(hP ps).length:=by
  have:=congrArg List.length h;simpa using this
 have e:ps=ps.take (wP ps).length++ps.drop (wP ps).length:=(List.take_append_drop _ _).symm;have e1:∀p∈ps.take (wP ps).length,p.1=gC:=λp hp=>by
  have:p.1∈(ps.map (·.1)).take (wP ps).length:=by rw[<-List.map_take];exact List.mem_map.2 ⟨p,hp,rfl⟩
  rw[h,List.take_append_of_le_length (by simp),List.take_of_length_le (by simp)] at this
  exact List.eq_of_mem_replicate this
 have e2:∀p∈ps.drop (wP ps).length,p.1=hC:=λp hp=>by
  have:p.1∈(ps.map (·.1)).drop (wP ps).length:=by rw[<-List.map_drop];exact List.mem_map.2 ⟨p,hp,rfl⟩
  rw[h,List.drop_append_of_le_length (by simp),List.drop_of_length_le (by simp),List.nil_append] at this
  exact List.eq_of_mem_replicate this
 obtain⟨a1,a2,a3⟩:=w_g e1;obtain⟨b1,b2,b3⟩:=w_h e2;have ew:wP ps=(ps.take (wP ps).length).map (·.2):=by
  have:wP ps=wP (ps.take (wP ps).length)++wP (ps.drop (wP ps).length):=by
   conv=>lhs;rw[e]
   exact List.filterMap_append
  rw[a1,b1,List.append_nil] at this;exact this
 have eh:hP ps=hP (ps.drop (wP ps).length):=by
  have:hP ps=hP (ps.take (wP ps).length)++hP (ps.drop (wP ps).length):=by
   conv=>lhs;rw[e]
   exact List.filterMap_append
  rwa [a2,List.nil_append] at this
 have b3':=b3 (by rw[<-eh,List.length_drop];omega)
 show ps=(wP ps).map (λw=>(gC,w))++(hP ps).map λp=>(hC,p.1::p.2)
 conv=>lhs;rw[e,a3,b3',<-eh]
 rw[<-ew]
theorem Qia(F:Fair):wP (Ik F)=F.W/\hP (Ik F)=F.H:=by
 obtain⟨a1,a2,_⟩:=w_g (P:=F.W.map λw=>(gC,w)) λp hp=>by
  obtain⟨w,_,rfl⟩:=List.mem_map.1 hp;rfl
 obtain⟨b1,_,_⟩:=w_h (Q:=F.H.map λp=>(hC,p.1::p.2)) λp hp=>by
  obtain⟨w,_,rfl⟩:=List.mem_map.1 hp;rfl
 have b2:hP (F.H.map λp=>(hC,p.1::p.2))=F.H:=by
  unfold hP;rw[List.filterMap_map];have:((λp:List Nat×List Nat=>if p.1=hC then hP1 p.2 else none) ∘ λp:Nat×List Nat=>(hC,p.1::p.2))=some:=by
   funext p
   show (if hC=hC then hP1 (p.1::p.2) else none)=some p
   rw[if_pos rfl];rfl
  rw[this,List.filterMap_some]
 constructor
 ·show wP (_++_)=_
  unfold wP at a1 b1 |-;rw[List.filterMap_append,a1,b1,List.append_nil,List.map_map];exact List.map_id' F.W
 ·show hP (_++_)=_
  unfold hP at a2 b2 |-;rw[List.filterMap_append,a2,b2,List.nil_append]
theorem Y0{ps:List (List Nat×List Nat)}(h:Dl ps=true)(hk:∀p∈ps,∀k∈p.2,k<=5):GoodF ⟨wP ps,hP ps⟩/\ps=Ik ⟨wP ps,hP ps⟩:=by
 unfold Dl Ei at h;simp only[Bool.and_eq_true,decide_eq_true_iff,List.all_eq_true] at h;obtain⟨⟨h1,⟨h2,h3⟩,h4,h5⟩,h6,h7⟩:=h;have e:=Ua h1;refine⟨⟨h2,h3,h4,h5,λw hw=>Jl.1 (h6 w hw),λp hp=>?_⟩,e⟩
 have q:=Jl.1 (h7 p hp);refine⟨?_,q.1,q.2⟩;have hm:(hC,p.1::p.2)∈ps:=by
  rw[e];exact List.mem_append.2 (.inr (List.mem_map.2 ⟨p,hp,rfl⟩))
 exact hk _ hm p.1 List.mem_cons_self
theorem Y1{F:Fair}(G:GoodF F):Dl (Ik F)=true:=by
 obtain⟨e1,e2⟩:=Qia F;unfold Dl Ij Ei;rw[e1,e2];simp only[Bool.and_eq_true,decide_eq_true_iff,List.all_eq_true];refine⟨⟨?_,⟨G.g1,G.g5⟩,G.h1,G.h5⟩,λw hw=>Jl.2 (G.w w hw),λp hp=>Jl.2 ⟨(G.r p hp).2.1,(G.r p hp).2.2⟩⟩
 unfold Ik;rw[List.map_append,List.map_map,List.map_map]
 congr 1
 ·exact List.eq_replicate_iff.2 ⟨by simp,λx hx=>by
   obtain⟨w,_,rfl⟩:=List.mem_map.1 hx;rfl⟩
 ·exact List.eq_replicate_iff.2 ⟨by simp,λx hx=>by
   obtain⟨w,_,rfl⟩:=List.mem_map.1 hx;rfl⟩
def G8(c:Nat):List (List Nat)->List Nat
 |[]=>[]
 |[p]=>p
 |p::q::r=>p++c::G8 c (q::r)
theorem join_split(c:Nat):∀l:List Nat,G8 c (A0 c l)=l
 |[]=>rfl
 |x::r=>by
  have ih:=join_split c r;have ne:=Ht c r;unfold A0;split
  ·rename_i h
   cases e:A0 c r with
   |nil=>exact absurd e ne
   |cons p q=>
    rw[e] at ih
    show []++c::G8 c (p::q)=_
    rw[ih,h];rfl
  ·cases e:A0 c r with
   |nil=>exact absurd e ne
   |cons p q=>
    rw[e] at ih;simp only
    cases q with
    |nil=>
     show x::p=x::r
     rw[show p=r from ih]
    |cons q1 q2=>
     show (x::p)++c::G8 c (q1::q2)=x::r
     rw[List.cons_append]
     congr 1
theorem Mj:∀(ks:List Nat) (w:List Nat),G8 32 (w::ks.map λk=>[48+k])=Aa w ks
 |[],w=>by simp[G8,Aa,Dv]
 |k::ks,w=>by
  show w++32::G8 32 ([48+k]::ks.map λk=>[48+k])=_
  rw[Mj ks [48+k]];simp[Aa,Dv]
theorem Mk:∀L:List (List Nat),G8 10 (L++[[]])=Ag L
 |[]=>rfl
 |[l]=>by simp[G8,Ag]
 |l::l'::L=>by
  have ih:=Mk (l'::L)
  show l++10::G8 10 ((l'::L)++[[]])=_
  rw[ih];simp[Ag]
theorem Kw(c:Nat):∀l:List Nat,l.getLast?=some c->(A0 c l).getLast?=some []
 |[],h=>by simp at h
 |[x],h=>by
  have:x=c:=by simpa using h
  subst this;simp[A0]
 |x::y::r,h=>by
  have ih:=Kw c (y::r) (by simpa using h)
  have ne:=Ht c (y::r);rw[A0];split
  ·rw[List.getLast?_cons]
   rw[ih];rfl
  ·cases e:A0 c (y::r) with
   |nil=>exact absurd e ne
   |cons p q=>
    rw[e] at ih;simp only
    cases q with
    |nil=>
     have hp:p=[]:=by simpa using ih
     subst hp;have:=join_split c (y::r);rw[e] at this;cases this
    |cons q1 q2=>
     rw[List.getLast?_cons_cons] at ih |-;exact ih
theorem Kx:∀{L:List (List Nat)} {ps:List (List Nat×List Nat)},Cd L=some ps->L=ps.map λp=>Aa p.1 p.2
 |[],ps,h=>by
  cases h;rfl
 |l::L,ps,h=>by
  obtain⟨ks,h1,h⟩:=Option.bind_eq_some_iff.1 (show ((Hu (words l).2).bind λks=>(Cd L).map λps=>((words l).1,ks)::ps)=some ps from h)
  obtain⟨ps',h2,rfl⟩:=Option.map_eq_some_iff.1 h;have ih:=Kx h2;obtain⟨ew,_⟩:=Fz h1;have:=join_split 32 l;rw[Cs,ew,Mj] at this;rw[List.map_cons,<-ih,this]
theorem Ky:∀{ps:List (List Nat×List Nat)},(∀p∈ps,32∉p.1/\∀k∈p.2,k<=5)->Cd (ps.map λp=>Aa p.1 p.2)=some ps
 |[],_=>rfl
 |p::ps,h=>by
  obtain⟨h1,h2⟩:=h p List.mem_cons_self;have ih:=Ky (ps:=ps) λq hq=>h q (List.mem_cons_of_mem _ hq)
  have sw:=Fg p.2 h1;have sl:A0 32 (Aa p.1 p.2)=p.1::p.2.map λk=>[48+k]:=by
   unfold Aq at sw;have sw':(A0 32 (Aa p.1 p.2)).map mkS=(p.1::p.2.map λk=>[48+k]).map mkS:=by
    have:(mkS (Aa p.1 p.2)).cps.toList=Aa p.1 p.2:=by simp[mkS]
    rw[this] at sw;rw[List.map_cons,List.map_map];exact sw
   exact List.map_inj_right (λa b=>Ks) |>.1 sw'
  have e1:words (Aa p.1 p.2)=(p.1,p.2.map λk=>[48+k]):=by
   unfold words;rw[sl];rfl
  show ((Hu (words (Aa p.1 p.2)).2).bind λks=>(Cd (ps.map λp=>Aa p.1 p.2)).map λps=>((words (Aa p.1 p.2)).1,ks)::ps)=_
  rw[e1,Sl h2,ih];rfl
theorem O1(F:Fair):((Ik F).map λp=>Aa p.1 p.2)=C8 F:=by
 unfold Ik C8;rw[List.map_append,List.map_map,List.map_map];rfl
theorem Qf5{z:List Nat}(hl:(z.getLast?==some 10)=true){ps:List (List Nat×List Nat)}(hr:Cd (A0 10 z).dropLast=some ps)(hd:Dl ps=true)(hk:∀p∈ps,∀k∈p.2,k<=5):GoodF ⟨wP ps,hP ps⟩/\mkS z=Ap ⟨wP ps,hP ps⟩:=by
 obtain⟨G,e⟩:=Y0 hd hk;refine⟨G,?_⟩;have h1:=Kx hr;have h2:=Kw 10 z (beq_iff_eq.1 hl);have h3:A0 10 z=(A0 10 z).dropLast++[[]]:=by
  have ne:=Ht 10 z;rcases List.eq_nil_or_concat (A0 10 z) with h|⟨L,l,h⟩
  ·exact absurd h ne
  ·rw[List.concat_eq_append] at h
   rw[h,List.getLast?_append] at h2;have:l=[]:=by simpa using h2
   rw[h,List.dropLast_concat,this]
 have h4:=join_split 10 z;rw[h3,Mk,h1] at h4;unfold Ap;rw[<-h4]
 congr 1
 conv=>rhs;rw[<-O1,<-e]
theorem Y2{F:Fair}(G:GoodF F){z:List Nat}(hz:mkS z=Ap F):(z.getLast?==some 10)=true/\Cd (A0 10 z).dropLast=some (Ik F)/\Dl (Ik F)=true:=by
 have hz:z=Ag (C8 F):=Ks hz;have hp:∀p∈Ik F,32∉p.1/\10∉p.1/\∀k∈p.2,k<=5:=λp hp=>by
  have h5:=G.h5;have g5:=G.g5;rcases List.mem_append.1 hp with h|h
  ·obtain⟨w,hw,rfl⟩:=List.mem_map.1 h
   exact⟨show 32∉gC by decide,show 10∉gC by decide,λk hk=>by have:=(G.w w hw).2 k hk;omega⟩
  ·obtain⟨q,hq,rfl⟩:=List.mem_map.1 h
   refine⟨show 32∉hC by decide,show 10∉hC by decide,λk hk=>?_⟩
   obtain⟨q1,q2,q3⟩:=G.r q hq;rcases List.mem_cons.1 hk with rfl|hk
   ·exact q1
   ·have:=q3 k hk
    omega
 have st:=Gm (ls:=C8 F) λl hl=>by
  rw[<-O1] at hl;obtain⟨p,hp',rfl⟩:=List.mem_map.1 hl;unfold Aa;rw[List.mem_append,not_or];exact⟨(hp p hp').2.1,Mg⟩
 have sl:A0 10 z=C8 F++[[]]:=by
  unfold Aq at st;have:(mkS (Ag (C8 F))).cps.toList=z:=by rw[hz];simp[mkS]
  rw[this] at st;have st':(A0 10 z).map mkS=(C8 F++[[]]).map mkS:=by
   rw[List.map_append];exact st
  exact List.map_inj_right (λa b=>Ks) |>.1 st'
 refine⟨?_,?_,Y1 G⟩
 ·have ne:C8 F≠[]:=by
   have:=G.g1;unfold C8;intro q;have q:=congrArg List.length q;rw[List.length_append,List.length_map,List.length_map,List.length_nil] at q;omega
  obtain⟨L,l,e⟩:∃L l,C8 F=L++[l]:=by
   rcases List.eq_nil_or_concat (C8 F) with h|⟨L,l,h⟩
   ·exact absurd h ne
   ·exact⟨L,l,by rw[h,List.concat_eq_append]⟩
  rw[hz,e,Gk];simp
 ·rw[sl,List.dropLast_concat,<-O1,Ky λp hp'=>⟨(hp p hp').1,(hp p hp').2.2⟩]
theorem Sq{α:Type}(l:List α)(a b:Option Int):(Lf.cut l a b).length<=l.length:=by
 unfold Lf.cut;rw[List.length_take,List.length_drop];omega
theorem Y3(l:List Nat)(k:Nat):(l.take k).sum<=l.sum:=by
 have:=congrArg List.sum (List.take_append_drop k l);rw[List.sum_append] at this;omega
theorem Y4(l:List Nat)(k:Nat):(l.drop k).sum<=l.sum:=by
 have:=congrArg List.sum (List.take_append_drop k l);rw[List.sum_append] at this;omega
theorem Qb8(l:List Str)(a b:Option Int):((Lf.cut l a b).map (·.length)).sum<=(l.map (·.length)).sum:=by
 unfold Lf.cut;rw[List.map_take,List.map_drop];exact Nat.le_trans (Y3 _ _) (Y4 _ _)
theorem Qb9{α β:Type}(f:α->β)(l:List α)(a b:Option Int):Lf.cut (l.map f) a b=(Lf.cut l a b).map f:=by
 unfold Lf.cut;rw[List.length_map,List.map_take,List.map_drop]
theorem Sr:∀l:List Nat,l.reverse.sum=l.sum
 |[]=>rfl
 |x::r=>by
  rw[List.reverse_cons,List.sum_append,Sr r,List.sum_cons];simp;omega
theorem Pq(s:Str):∀zs:List Str,(Str.join s zs).cps.toList.length<=(zs.map (·.length)).sum+zs.length*s.length
 |[]=>Nat.zero_le _
 |[z]=>by
  show z.cps.toList.length<=_
  rw[List.map_singleton,List.sum_singleton,Array.length_toList];exact Nat.le_add_right _ _
 |a::b::r=>by
  have ih:=Pq s (b::r);rw[Ko,List.length_append,List.length_append,List.map_cons,List.sum_cons,List.length_cons,Nat.succ_mul];have h1:a.cps.toList.length=a.length:=Array.length_toList;have h2:s.cps.toList.length=s.length:=Array.length_toList;omega
theorem Ml(c:Nat):∀l:List Nat,((A0 c l).map List.length).sum<=l.length
 |[]=>Nat.le_refl _
 |x::r=>by
  have ih:=Ml c r
  show ((if x=c then []::A0 c r else match A0 c r with|p::q=>(x::p)::q | []=>[[x]]).map List.length).sum<=_
  split
  ·rw[List.map_cons,List.sum_cons,List.length_cons]
   simp;omega
  ·cases h:A0 c r with
   |nil=>simp
   |cons p q=>
    rw[h] at ih;rw[List.map_cons,List.sum_cons] at ih |-;simp at ih |-;omega
section
variable{C:Str->List D->R D}{ρ:Env}
def SX(C:Str->List D->R D)(ρ:Env)(e:Ex)(k:Nat):Prop:=∃z:List Nat,ev C e ρ=.ok (.str (mkS z))/\z.length<=k
def LX(C:Str->List D->R D)(ρ:Env)(e:Ex)(k m:Nat):Prop:=∃zs:List Str,ev C e ρ=.ok (.lst (zs.map .str))/\(zs.map (·.length)).sum<=k/\zs.length<=m
def BX(C:Str->List D->R D)(ρ:Env)(es:Exs):Prop:=∃o,(evs C es ρ >>= bound)=.ok o
theorem BX.nil:BX C ρ .nil:=⟨none,by rw[Ai];rfl⟩
theorem BX.one{e:Ex}{i:Int}(h:ev C e ρ=.ok (.int i)):BX C ρ (.cons e .nil):=⟨some i,by rw[B8 h (Ai _),R.bind_ok];rfl⟩
theorem Eh(z:List Nat):(mkS z).length=z.length:=by
 show z.toArray.size=_
 simp
theorem SX.lit(s:Str):SX C ρ (.str s) s.length:=⟨s.cps.toList,by rw[Aw];rfl,by rw[Array.length_toList];exact Nat.le_refl _⟩
theorem SX.cut{a:Ex}{lo hi:Exs}{k:Nat}(h:SX C ρ a k)(hl:BX C ρ lo)(hh:BX C ρ hi)(hk:k<=1000):SX C ρ (.slc a lo hi) k:=by
 obtain⟨z,e,hz⟩:=h;obtain⟨l,hl⟩:=hl;obtain⟨L,l1,l2⟩:=R.bind_eq_ok hl;obtain⟨u,hh⟩:=hh;obtain⟨H,h1,h2⟩:=R.bind_eq_ok hh;refine⟨Lf.cut z l u,?_,by have:=Sq z l u;omega⟩
 rw[Qh,e,R.bind_ok,l1,R.bind_ok,l2,R.bind_ok,h1,R.bind_ok,h2,R.bind_ok]
 show (if Av (mkS z).length then R.ok (D.str ⟨(Lf.cut (mkS z).cps.toList l u).toArray⟩) else .un)=_
 rw[if_pos (A4 (by rw[Eh];omega))]
 simp[mkS]
theorem SX.add{a b:Ex}{k m:Nat}(h:SX C ρ a k)(g:SX C ρ b m)(hk:k+m<=2000):SX C ρ (.op .add a b) (k+m):=by
 obtain⟨z,e,hz⟩:=h;obtain⟨y,f,hy⟩:=g;refine⟨z++y,?_,by rw[List.length_append];omega⟩
 rw[Ce,e,R.bind_ok,f,R.bind_ok,Nx _ _ (by rw[Eh,Eh];omega),Fw (Mb _ _)]
 simp[mkS]
theorem LX.cut{a:Ex}{lo hi:Exs}{k m:Nat}(h:LX C ρ a k m)(hl:BX C ρ lo)(hh:BX C ρ hi):LX C ρ (.slc a lo hi) k m:=by
 obtain⟨zs,e,hz,hm⟩:=h;obtain⟨l,hl⟩:=hl;obtain⟨L,l1,l2⟩:=R.bind_eq_ok hl;obtain⟨u,hh⟩:=hh;obtain⟨H,h1,h2⟩:=R.bind_eq_ok hh;refine⟨Lf.cut zs l u,?_,Nat.le_trans (Qb8 _ _ _) hz,Nat.le_trans (Sq _ _ _) hm⟩;rw[Qh,e,R.bind_ok,l1,R.bind_ok,l2,R.bind_ok,h1,R.bind_ok,h2,R.bind_ok,<-Qb9];rfl
theorem LX.add{a b:Ex}{k m k' m':Nat}(h:LX C ρ a k m)(g:LX C ρ b k' m')(hk:m+m'<=1000):LX C ρ (.op .add a b) (k+k') (m+m'):=by
 obtain⟨z,e,hz,hm⟩:=h;obtain⟨y,f,hy,hm'⟩:=g;refine⟨z++y,?_,by rw[List.map_append,List.sum_append];omega,by rw[List.length_append];omega⟩
 rw[Xv e f (by rw[List.length_map,List.length_map];omega),List.map_append]
theorem LX.rev{a:Ex}{k m:Nat}(h:LX C ρ a k m)(hm:m<=1000):LX C ρ (.revS a) k m:=by
 obtain⟨z,e,hz,hm'⟩:=h;refine⟨z.reverse,?_,by rw[List.map_reverse,Sr];exact hz,by rw[List.length_reverse];exact hm'⟩
 show (ev C a ρ >>= λy=>Vu y)=_
 rw[e,R.bind_ok]
 show (if Av (z.map D.str).length then R.ok (D.lst (z.map D.str).reverse) else .un)=_
 rw[if_pos (A4 (by rw[List.length_map];omega)),List.map_reverse]
theorem SX.jn{a:Ex}{k m:Nat}(h:LX C ρ a k m)(hk:k+m<=2000):SX C ρ (.jn "\n" a) (k+m):=by
 obtain⟨z,e,hz,hm⟩:=h;have l1:(⟨#[10]⟩:Str).length=1:=rfl;have:=Pq ⟨#[10]⟩ z;rw[l1] at this;refine⟨(Str.join ⟨#[10]⟩ z).cps.toList,?_,by omega⟩
 rw[Rh,e,R.bind_ok,Qet,Xi (by rw[l1];omega)]
 rfl
end
def Qz(d:D):Prop:=(∃z:List Nat,d=.str (mkS z)/\z.length<=2000)\/D0 .str d=false
theorem SX.bad{C:Str->List D->R D}{ρ:Env}{e:Ex}{k:Nat}(h:SX C ρ e k)(hk:k<=2000):∃d,ev C e ρ=.ok d/\Qz d:=by
 obtain⟨z,e,hz⟩:=h;exact⟨_,e,.inl ⟨z,rfl,by omega⟩⟩
theorem Il{C:Str->List D->R D}{ρ:Env}{k x:Int}{e:Ex}{r:Sms}{m:Nat}(h3:ρ[3]?=some (some (.int x,false)))(he:SX C ρ e m)(hm:m<=2000)(hr:∃d,exs C r ρ=.ok (.rt d)/\Qz d):∃d,exs C (.cons (.ife (.op .eq (.var 3) (.int k)) (.cons (.ret e) .nil) .nil) r) ρ=.ok (.rt d)/\Qz d:=by
 have t:tst C (.op .eq (.var 3) (.int k)) ρ=.ok (x==k):=by
  rw[Kk,Ce,Am h3,R.bind_ok,Bp,R.bind_ok,Qk _ _ rfl];rfl
 obtain⟨d,e1,hd⟩:=he.bad hm;obtain⟨d',e2,hd'⟩:=hr
 cases hx:x==k with
 |true=>
  rw[hx] at t;exact⟨d,Bt t e1,hd⟩
 |false=>
  rw[hx] at t;exact⟨d',(As t).trans e2,hd'⟩
theorem Qba{ds:List D}{i:Int}(h0:0<=i)(h1:i<ds.length):∃d∈ds,atD ds i=.ok d:=by
 have hj:i.toNat<ds.length:=by omega
 refine⟨ds[i.toNat],List.getElem_mem hj,?_⟩;unfold atD ixN;rw[if_pos h0,if_pos h1]
 show (match ds[i.toNat]? with|some d=>R.ok d|none=>.un)=_
 rw[List.getElem?_eq_getElem hj]
theorem Qf6{s:Str}{i:Int}(hz:s.length<=1000)(h0:0<=i)(h1:i<s.length):∃c,Tm (.str s) (.int i)=.ok (.str (mkS [c])):=by
 have hj:i.toNat<s.cps.size:=by
  have:s.length=s.cps.size:=rfl;omega
 refine⟨s.cps[i.toNat],?_⟩
 show (if Av s.length then (match (ixN s.length i).bind λj=>s.cps[j]? with|some c=>R.ok (D.str ⟨#[c]⟩)|none=>.un) else .un)=_
 rw[if_pos (A4 (by omega))]
 unfold ixN;rw[if_pos h0,if_pos h1]
 show (match s.cps[i.toNat]? with|some c=>R.ok (D.str ⟨#[c]⟩)|none=>.un)=_
 rw[Array.getElem?_eq_getElem hj];rfl
def bE(ns:List Int)(t:List Nat)(x2 x3:Int)(zs:List Str)(x5:Int)(x6:Option (D×Bool)):Env:=[some (.lst (ns.map .int),false),some (.str (mkS t),false),some (.int x2,false),some (.int x3,false),some (.lst (zs.map .str),true),some (.int x5,false),x6]
theorem Ub{F:Fair}(G:GoodF F):1<=(Ag (C8 F)).length/\(Ag (C8 F)).length<=200/\3<=(A0 10 (Ag (C8 F))).length/\(A0 10 (Ag (C8 F))).length<=11:=by
 have g1:=G.g1;have g5:=G.g5;have h1:=G.h1;have h5:=G.h5;have Z:=Jk G;have ln:(C8 F).length=F.W.length+F.H.length:=by
  unfold C8;rw[List.length_append,List.length_map,List.length_map]
 have l2:(Ag (C8 F)).length<=200:=by
  have:=Fx (ls:=C8 F) λl hl=>by
   rcases List.mem_append.1 hl with h|h
   ·obtain⟨w,hw,rfl⟩:=List.mem_map.1 h
    exact Cq rfl (by have:=(Z.w w hw).1;omega)
   ·obtain⟨p,hp,rfl⟩:=List.mem_map.1 h
    exact Cq rfl (Z.h p hp).1
  omega
 obtain⟨a,b,c⟩:=Y2 G (z:=Ag (C8 F)) rfl;have rl:=(Jm b λl hl=>by
  have:=C1 10 (Ag (C8 F)) l (List.dropLast_subset _ hl);omega).1
 rw[List.length_dropLast] at rl;have il:(Ik F).length=F.W.length+F.H.length:=by
  unfold Ik;rw[List.length_append,List.length_map,List.length_map]
 refine⟨?_,l2,by omega,by omega⟩
 rcases h:Ag (C8 F) with _|⟨x,r⟩
 ·rw[h] at a
  cases a
 ·simp
theorem Qib{T:Tab}(h1:T.lookup ("_law_cell" : Str)=some Ec)(h2:T.lookup ("_law_bad" : Str)=some Ed)(n:Nat)(ns:List Int){F:Fair}(G:GoodF F):∃d,run T (n+2) "_law_bad" [.lst (ns.map .int),.str (Ap F)]=.ok d/\Qz d:=by
 obtain⟨b1,b2,b3,b4⟩:=Ub G
 generalize ht:Ag (C8 F)=t at b1 b2 b3 b4
 have et:Ap F=mkS t:=by rw[<-ht];rfl
 rw[et];have cl:∀{ρ:Env} (k:Int),0<=k->ρ[0]?=some (some (.lst (ns.map .int),false))->ev (run T (n+1)) (.call "_law_cell" (.cons (.var 0) (.cons (.int k) .nil))) ρ=.ok (.int (cell ns k)):=λk hk h=>by
  rw[Bs,B8 (Am h) (B8 (Bp _ _) (Ai _)),R.bind_ok];exact Km h1 n ns k hk
 have zl:((Aq 10 (mkS t)).map (·.length)).sum<=200/\(Aq 10 (mkS t)).length=(A0 10 t).length:=by
  have e:(mkS t).cps.toList=t:=by simp[mkS]
  unfold Aq;rw[e];refine⟨?_,List.length_map _⟩;have:=Ml 10 t;rw[List.map_map];have q:((λs:Str=>s.length) ∘ λl:List Nat=>(⟨l.toArray⟩:Str))=List.length:=by
   funext l
   exact Eh l
  rw[q];omega
 obtain⟨zs,hzs⟩:∃zs,zs=Aq 10 (mkS t):=⟨_,rfl⟩;rw[<-hzs] at zl
 suffices key:∃d,exs (run T (n+1)) Ed.body (A2 Ed [.lst (ns.map .int),.str (mkS t)])=.ok (.rt d)/\Qz d by
  obtain⟨d,e,hd⟩:=key;exact⟨d,Ao h2 rfl e,hd⟩
 have s2:ev (run T (n+1)) (.op .mod (.call "_law_cell" (.cons (.var 0) (.cons (.int 1) .nil))) (.b1 .len (.var 1))) (A2 Ed [.lst (ns.map .int),.str (mkS t)])=.ok (.int (cell ns 1 % (t.length:Int))):=by
  rw[Ce,cl 1 (by omega) rfl,R.bind_ok,Gi,Am (i:=1) (d:=.str (mkS t)) rfl,R.bind_ok]
  show ((if Av (mkS t).length then R.ok (D.int (mkS t).length) else .un) >>= _)=_
  rw[if_pos (A4 (by rw[Eh];omega)),R.bind_ok,Eh,K6 _ _ (by omega)]
 have s3:∀x2,ev (run T (n+1)) (.op .mod (.call "_law_cell" (.cons (.var 0) (.cons (.int 0) .nil))) (.int 7)) [some (.lst (ns.map .int),false),some (.str (mkS t),false),x2,none,none,none,none]=.ok (.int (cell ns 0 % 7)):=λx2=>by
  rw[Ce,cl 0 (by omega) rfl,R.bind_ok,Bp,R.bind_ok,K6 _ _ (by omega)]
 have s4:∀x2 x3,ev (run T (n+1)) (.spl (.var 1) 10) [some (.lst (ns.map .int),false),some (.str (mkS t),false),x2,x3,none,none,none]=.ok (.lst (zs.map .str)):=λx2 x3=>by
  rw[Eu,Am (i:=1) (d:=.str (mkS t)) rfl,R.bind_ok,hzs]
  show (if Av ((mkS t).length+2) then _ else _)=_
  rw[if_pos (A4 (by rw[Eh];omega))]
 have s5:∀x2 x3,ev (run T (n+1)) (.op .mod (.call "_law_cell" (.cons (.var 0) (.cons (.int 1) .nil))) (.op .sub (.b1 .len (.var 4)) (.int 1))) [some (.lst (ns.map .int),false),some (.str (mkS t),false),x2,x3,some (.lst (zs.map .str),true),none,none]=.ok (.int (cell ns 1 % ((zs.length:Int)-1))):=λx2 x3=>by
  rw[Ce,cl 1 (by omega) rfl,R.bind_ok,Ce,Gi,Am (i:=4) (d:=.lst (zs.map .str)) rfl,R.bind_ok]
  show ((R.ok (D.int ((zs.map D.str).length:Nat)) >>= λx=>_) >>= _)=_
  rw[R.bind_ok,Bp,R.bind_ok,List.length_map]
  show (R.ok (D.int ((zs.length:Int)-1)) >>= _)=_
  rw[R.bind_ok,K6 _ _ (by omega)]
 generalize cell ns 1 % (t.length:Int)=x2 at s2
 generalize hx3:cell ns 0 % 7=x3 at s3
 generalize cell ns 1 % ((zs.length:Int)-1)=x5 at s5
 have down:exs (run T (n+1)) Ed.body (A2 Ed [.lst (ns.map .int),.str (mkS t)])=exs (run T (n+1)) (match Ed.body with|.cons _ (.cons _ (.cons _ (.cons _ r)))=>r|_=>.nil) (bE ns t x2 x3 zs x5 none):=by
  refine(D2 s2 rfl).trans ((D2 (s3 _) rfl).trans ((Ee (xs:=zs.map .str) (s4 _ _) (Bb _ λ_=>rfl) rfl).trans ((D2 (s5 _ _) rfl).trans ?_)))
  rfl
 rw[down]
 generalize hC:run T (n+1)=C at cl
 clear s2 s3 s4 s5 down hC hx3;have S1:SX C (bE ns t x2 x3 zs x5 none) (.var 1) 200:=⟨t,Am rfl,b2⟩;have L4:LX C (bE ns t x2 x3 zs x5 none) (.var 4) 200 11:=⟨zs,Am rfl,zl.1,by omega⟩
 have B2:BX C (bE ns t x2 x3 zs x5 none) (.cons (.var 2) .nil):=.one (Am rfl);have B5:BX C (bE ns t x2 x3 zs x5 none) (.cons (.var 5) .nil):=.one (Am rfl);have B2':BX C (bE ns t x2 x3 zs x5 none) (.cons (.op .add (.var 2) (.int 1)) .nil):=.one (i:=x2+1) (by rw[Ce,Am (i:=2) (d:=.int x2) rfl,R.bind_ok,Bp];rfl)
 have B5':BX C (bE ns t x2 x3 zs x5 none) (.cons (.op .add (.var 5) (.int 1)) .nil):=.one (i:=x5+1) (by rw[Ce,Am (i:=5) (d:=.int x5) rfl,R.bind_ok,Bp];rfl)
 have Bm:BX C (bE ns t x2 x3 zs x5 none) (.cons (.int (-1)) .nil):=.one (Bp _ _);refine Il rfl ((S1.cut .nil B2 (by omega)).add (S1.cut B2' .nil (by omega)) (by omega)) (by omega) ?_
 refine Il rfl ((S1.cut .nil B2' (by omega)).add (S1.cut B2 .nil (by omega)) (by omega)) (by omega) ?_
 refine Il rfl (((S1.cut .nil B2 (by omega)).add (m:=1) ?_ (by omega)).add (S1.cut B2' .nil (by omega)) (by omega)) (by omega) ?_
 ·have l8:("0123 gh\n" : Str).length=8:=by decide +kernel
  obtain⟨c,hc⟩:=Qf6 (s := "0123 gh\n") (i:=cell ns 2 % 8) (by rw[l8];omega) (by omega) (by rw[l8];omega)
  refine⟨[c],?_,Nat.le_refl _⟩
  show (ev C (.str "0123 gh\n") _ >>= _)=_
  rw[Aw,R.bind_ok]
  show ((ev C (.op .mod (.call "_law_cell" (.cons (.var 0) (.cons (.int 2) .nil))) (.int 8)) _) >>= _)=_
  rw[Ce,cl 2 (by omega) rfl,R.bind_ok,Bp,R.bind_ok,K6 _ _ (by omega),R.bind_ok]
  exact hc
 refine Il rfl (SX.jn ((L4.cut .nil B5).add (L4.cut B5' .nil) (by omega)) (by omega)) (by omega) ?_
 refine Il rfl (SX.jn ((L4.cut .nil B5').add (L4.cut B5 .nil) (by omega)) (by omega)) (by omega) ?_
 have L0:LX C (bE ns t x2 x3 zs x5 none) (.lst (.cons (.str "") .nil)) 0 1:=⟨[""],Qx (B8 (Aw _ _) (Ai _)) (by simp),by rw[Qeu];exact Nat.le_refl _,Nat.le_refl _⟩
 refine Il rfl (SX.jn (((L4.cut .nil Bm).rev (by omega)).add L0 (by omega)) (by omega)) (by omega) ?_
 obtain⟨q2,f2,g2⟩:=S1.cut .nil Bm (by omega)
 obtain⟨q3,f3,g3⟩:=S1.add (SX.lit "\n") (by decide +kernel)
 obtain⟨q4,f4,g4⟩:=(SX.lit (C:=C) (ρ:=bE ns t x2 x3 zs x5 none) " ").add S1 (by decide +kernel)
 obtain⟨q5,f5,g5⟩:=S1.add (SX.lit "guest\n") (by decide +kernel)
 have z3:200+("\n" : Str).length<=2000:=by decide +kernel
 have z4:(" " : Str).length+200<=2000:=by decide +kernel
 have z5:200+("guest\n" : Str).length<=2000:=by decide +kernel
 have fl:ev C (.lst (.cons (.str "") (.cons (.str "\n") (.cons (.slc (.var 1) .nil (.cons (.int (-1)) .nil)) (.cons (.op .add (.var 1) (.str "\n")) (.cons (.op .add (.str " ") (.var 1)) (.cons .non (.cons (.int 7) (.cons (.lst (.cons (.var 1) .nil)) (.cons (.str "guest\n") (.cons (.str "house 1\n") (.cons (.op .add (.var 1) (.str "guest\n")) .nil)))))))))))) (bE ns t x2 x3 zs x5 none)=.ok (.lst [.str "",.str "\n",.str (mkS q2),.str (mkS q3),.str (mkS q4),.non,.int 7,.lst [.str (mkS t)],.str "guest\n",.str "house 1\n",.str (mkS q5)]):=
  Qx (B8 (Aw _ _) (B8 (Aw _ _) (B8 f2 (B8 f3 (B8 f4 (B8 (Hi _) (B8 (Bp _ _) (B8 (Qx (B8 (Am rfl) (Ai _)) (by simp)) (B8 (Aw _ _) (B8 (Aw _ _) (B8 f5 (Ai _)))))))))))) (by simp)
 generalize hds:[D.str "",.str "\n",.str (mkS q2),.str (mkS q3),.str (mkS q4),.non,.int 7,.lst [.str (mkS t)],.str "guest\n",.str "house 1\n",.str (mkS q5)]=ds at fl
 have nd:Bw ds=false:=by rw[<-hds];rfl
 have ld:ds.length=11:=by rw[<-hds];rfl
 have hd:∀d∈ds,Qz d:=by
  rw[<-hds];have lit:∀s:Str,s.length<=2000->Qz (.str s):=λs hs=>.inl ⟨s.cps.toList,rfl,by rw[Array.length_toList];exact hs⟩
  intro d hd;simp only[List.mem_cons,List.not_mem_nil,or_false] at hd;rcases hd with rfl|rfl|rfl|rfl|rfl|rfl|rfl|rfl|rfl|rfl|rfl
  ·exact lit _ (by decide +kernel)
  ·exact lit _ (by decide +kernel)
  ·exact .inl ⟨_,rfl,by omega⟩
  ·exact .inl ⟨_,rfl,by omega⟩
  ·exact .inl ⟨_,rfl,by omega⟩
  ·exact .inr rfl
  ·exact .inr rfl
  ·exact .inr rfl
  ·exact lit _ (by decide +kernel)
  ·exact lit _ (by decide +kernel)
  ·exact .inl ⟨_,rfl,by omega⟩
 obtain⟨d,dm,de⟩:=Qba (ds:=ds) (i:=cell ns 1 % 11) (by omega) (by omega)
 refine⟨d,?_,hd d dm⟩;rw[Pe fl];have gv:∀e:Ex,unown (Aj e) (bE ns t x2 x3 zs x5 none)=bE ns t x2 x3 zs x5 none->give e (bE ns t x2 x3 zs x5 none) 6 (.lst ds)=bE ns t x2 x3 zs x5 (some (.lst ds,false)):=λe hu=>by
  unfold give;rw[show noL (.lst ds)=false from rfl]
  unfold Tq;rw[show Dd (.lst ds)=Bw ds from rfl,nd,Bool.and_false,if_neg Bool.false_ne_true,if_neg Bool.false_ne_true,hu]
  rfl
 rw[gv _ (by simp[bE,unown,Aj,Ev])]
 refine C3 ?_;rw[M9,Am (i:=6) (d:=.lst ds) rfl,R.bind_ok,Ce,cl 1 (by omega) rfl,R.bind_ok,Bp,R.bind_ok,K6 _ _ (by omega),R.bind_ok]
 exact de
mutual
theorem Pr:∀d:D,eqD d d=true
 |.non=>rfl
 |.bl b=>beq_self_eq_true b
 |.int i=>beq_self_eq_true i
 |.str x=>beq_self_eq_true x
 |.tup xs=>Im xs
 |.lst xs=>Im xs
theorem Im:∀ds:List D,G0 ds ds=true
 |[]=>rfl
 |d::ds=>by
  show (eqD d d&&G0 ds ds)=true
  rw[Pr d,Im ds];rfl
end
def bR:Sms:=.cons (.exp (.call "read" (.cons (.var 0) .nil))) .nil
theorem Qc1{C:Str->List D->R D}{ρ:Env}{d:D}(h0:ρ[0]?=some (some (d,false)))(h:C "read" [d]=.xn "BadText" none):exs C bR ρ=.xn "BadText" none/\xs C bR ρ=some (("BadText" : Str),none):=by
 have a:evs C (.cons (.var 0) .nil) ρ=.ok [d]:=B8 (Am h0) (Ai _);refine⟨?_,Qex (Sj a h)⟩;unfold bR;simp only[exs,exm,Qi0 a h,R.bind_xn]
theorem Qic{T:Tab}(h:T.lookup ("_law_refused" : Str)=some Gg)(n:Nat)(d:D)(hx:run T n "read" [d]=.xn "BadText" none):run T (n+1) "_law_refused" [d]=.ok (.bl true):=by
 refine Ao h rfl (Qs ?_);obtain⟨e1,e2⟩:=Qc1 (C:=run T n) (ρ:=[some (d,false)]) rfl hx
 show (match exs (run T n) bR [some (d,false)] with|.ok fl=>R.ok fl|_=>match xs (run T n) bR [some (d,false)] with|some l=>if l.1=("BadText" : Str) then R.ok (Fl.rt (.bl true)) else R.un|none=>R.un)=_
 rw[e1,e2];exact if_pos rfl
theorem Qf7{T:Tab}(h:T.lookup ("_law_by_base" : Str)=some Gh)(n:Nat)(d:D)(hx:run T n "read" [d]=.xn "BadText" none):run T (n+1) "_law_by_base" [d]=.ok (.bl true):=by
 refine Ao h rfl (Qs ?_);obtain⟨e1,e2⟩:=Qc1 (C:=run T n) (ρ:=[some (d,false),none]) rfl hx
 show (match exs (run T n) bR [some (d,false),none] with|.ok fl=>R.ok fl|_=>match xs (run T n) bR [some (d,false),none] with|some l=>if ([("BadText" : Str)]).contains l.1 then exH l [.ret1 "ValueError"] (List.replicate 2 none) else R.un|none=>R.un)=_
 rw[e1,e2]
 show (if ([("BadText" : Str)]).contains ("BadText" : Str) then R.ok (Fl.rt (.bl (Qi "BadText" "ValueError"))) else .un)=_
 have k1:([("BadText" : Str)]).contains ("BadText" : Str)=true:=by decide +kernel
 have k2:Qi "BadText" "ValueError" = true:=by decide +kernel
 rw[k1,k2];rfl
theorem Qbb(F:Fair):lo 9 (Af F)=true:=by
 have h1:(F.W.map wD).all (lo 7)=true:=Nu _ λw=>Xa 6 w
 have h2:(F.H.map hD).all (lo 7)=true:=Nu _ λp=>by
  show ([nD p.1,.tup (nsD p.2)].all (lo 6))=true
  simp only[List.all_cons,List.all_nil,Bool.and_true,Bool.and_eq_true];exact⟨rfl,Xa 5 _⟩
 show ([D.tup (F.W.map wD),.tup (F.H.map hD)].all (lo 8))=true
 simp only[List.all_cons,List.all_nil,Bool.and_true,Bool.and_eq_true];exact⟨h1,h2⟩
theorem Y5{T:Tab}(U:Chk T){F:Fair}(G:GoodF F){w:List Nat}{m:Nat}(a:w.Nodup)(b:∀x∈w,x<m)(hw:w.length<=5):(sz (.tup (nsD w))&&gB m (.tup (nsD w)))=true:=by
 have hs:sz (.tup (nsD w))=true:=decide_eq_true (by unfold nsD;rw[List.length_map];omega)
 have e1:=Qax U 0 (.tup (nsD w)) m hs;have e2:=Xg U.below U.unlike 0 w m a b (by omega)
 have q:R.ok (D.bl (gB m (.tup (nsD w))))=R.ok (.bl true):=e1.symm.trans e2;rw[hs];have q:gB m (.tup (nsD w))=true:=by
  injection q with q
  injection q
 rw[q];rfl
theorem Uc{T:Tab}(U:Reads T)(n:Nat){F:Fair}(G:GoodF F):run T (n+5) "read" [.str (Ap F)]=.ok (Af F):=by
 have Z:=Jk G;have ek:=Xp U.num U.likely (n+2) F G Z;have es:=Si U.line U.shown (n+2) F G Z;have ec:run T (n+4) "checked" [Af F]=.ok (Af F):=by
  refine Qi3 U.toChk n (F.W.map wD) (F.H.map hD) (by rw[List.length_map];exact⟨G.g1,G.g5⟩) (by rw[List.length_map];exact⟨G.h1,G.h5⟩) (λd hd=>?_) (λd hd=>?_)
  ·obtain⟨w,hw,rfl⟩:=List.mem_map.1 hd
   rw[List.length_map];exact Y5 U.toChk G (G.w w hw).1 (G.w w hw).2 (Z.w w hw).1
  ·obtain⟨p,hp,rfl⟩:=List.mem_map.1 hd
   obtain⟨c,a,b⟩:=G.r p hp;have hl:=(Z.h p hp).1;rw[List.length_cons] at hl;rw[List.length_map];have:=Y5 U.toChk G a b (by omega)
   obtain⟨q1,q2⟩:=Bool.and_eq_true_iff.1 this;have e3:below (nD p.1) 6=true:=by
    show (decide (0<=(p.1:Int))&&decide ((p.1:Int)<6))=true
    simp;omega
   show (sz (.tup (nsD p.2))&&(below (nD p.1) 6&&gB F.W.length (.tup (nsD p.2))))=true
   rw[q1,q2,e3];rfl
 have a1:evs (run T (n+4)) (.cons (.call "likely_fair" (.cons (.var 0) .nil)) .nil) [some (.str (Ap F),false),none]=.ok [Af F]:=by
  refine B8 ?_ (Ai _);rw[Bs,B8 (Am (i:=0) (d:=.str (Ap F)) rfl) (Ai _),R.bind_ok];exact ek
 have e1:ev (run T (n+4)) (.call "checked" (.cons (.call "likely_fair" (.cons (.var 0) .nil)) .nil)) [some (.str (Ap F),false),none]=.ok (Af F):=by
  rw[Bs,a1,R.bind_ok];exact ec
 have t0:tst (run T (n+4)) (.not (.ins .str (.var 0))) [some (.str (Ap F),false),none]=.ok false:=by
  rw[Pd,Se,Sd,Am (i:=0) (d:=.str (Ap F)) rfl];rfl
 have em:exm (run T (n+4)) (.tryN (.cons (.asg 1 (.call "checked" (.cons (.call "likely_fair" (.cons (.var 0) .nil)) .nil))) .nil) "BadFair" "BadText") [some (.str (Ap F),false),none]=.ok (.nx [some (.str (Ap F),false),some (Af F,false)]):=by
  simp only[exm];rw[D2 e1 (Pi F),De];rfl
 have et:tst (run T (n+4)) (.op .ne (.call "shown" (.cons (.var 1) .nil)) (.var 0)) [some (.str (Ap F),false),some (Af F,false)]=.ok false:=by
  rw[Kk,Ce,Bs,B8 (Am (i:=1) (d:=Af F) rfl) (Ai _),R.bind_ok,es,R.bind_ok,Am (i:=0) (d:=.str (Ap F)) rfl,R.bind_ok,Ql _ _ rfl]
  show R.ok (!(Ap F==Ap F))=_
  rw[beq_self_eq_true];rfl
 refine Ao U.read rfl ?_;exact(As t0).trans ((Gj em).trans ((As et).trans (C3 (Am rfl))))
theorem Y6{T:Tab}(U:Reads T)(h1:T.lookup ("_law_rows" : Str)=some Hh)(h2:T.lookup ("_law_due" : Str)=some Np)(n:Nat)(z:List Nat)(hz:z.length<=2000) :
  (∃F,run T (n+6) "_law_due" [.str (mkS z)]=.ok (Af F)/\run T (n+6) "read" [.str (mkS z)]=.ok (Af F))\/(run T (n+6) "_law_due" [.str (mkS z)]=.ok .non/\∀m,run T (m+5) "read" [.str (mkS z)]=.xn "BadText" none):=by
 have ed:=Qi9 h1 h2 (n+4) z hz;have no:(∀ps,Cd (A0 10 z).dropLast=some ps->((z.getLast?==some 10)&&Dl ps)=true->False)->∀m,run T (m+5) "read" [.str (mkS z)]=.xn "BadText" none:=λhn m=>by
  rcases Qf2 U m z (by omega) with⟨F,G,e,_⟩|h
  ·obtain⟨a,b,c⟩:=Y2 G e
   exact(hn _ b (by rw[a,c];rfl)).elim
  ·exact h
 cases hr:Cd (A0 10 z).dropLast with
 |none=>
  rw[hr] at ed;exact .inr ⟨ed,no λps q=>by rw[hr] at q;cases q⟩
 |some ps=>
  rw[hr] at ed;have ed:run T (n+6) "_law_due" [.str (mkS z)]=.ok (if (z.getLast?==some 10)&&Dl ps then Af ⟨wP ps,hP ps⟩ else .non):=ed
  cases hb:(z.getLast?==some 10)&&Dl ps with
  |false=>
   rw[hb] at ed;exact .inr ⟨ed,no λps' q q'=>by
    rw[hr] at q;cases q;rw[hb] at q';cases q'⟩
  |true=>
   rw[hb] at ed;have ed:run T (n+6) "_law_due" [.str (mkS z)]=.ok (Af ⟨wP ps,hP ps⟩):=ed;obtain⟨hl,hd⟩:=Bool.and_eq_true_iff.1 hb;have rl:=Jm hr λl hl=>by
    have:=C1 10 z l (List.dropLast_subset _ hl);omega
   obtain⟨G,e⟩:=Qf5 hl hr hd λp hp=>(rl.2 p hp).1
   refine .inl ⟨_,ed,?_⟩;have er:=Uc U (n+1) G;rw[<-e] at er;exact er
theorem run_k16:∀ns:List Int,ns.length<=63->run T_k16 40 ("law" : Str) [.lst (ns.map .int)]=.ok (.bl true):=by
 intro ns hns;have U:Draws T_k16:=⟨rfl,rfl,rfl,rfl,rfl⟩;have V:Reads T_k16:=⟨⟨rfl,rfl,rfl,rfl,rfl,rfl⟩,rfl,rfl,rfl,rfl,rfl⟩;obtain⟨F,G,e⟩:=Qes U 36 ns 3;have el:=Xm (T:=T_k16) rfl 38 F G (Jk G);obtain⟨d,eb,hd⟩:=Qib (T:=T_k16) rfl rfl 37 ns G;refine Ao (n:=39) (fn:=law_k16) rfl rfl ?_;have e1:ev (run T_k16 39) (.call "_law_bad" (.cons (.var 0) (.cons (.call "_law_shown" (.cons (.call "_law_fair" (.cons (.var 0) (.cons (.int 3) .nil))) .nil)) .nil))) [some (.lst (ns.map .int),false),none,none]=.ok d:=by
  have f1:ev (run T_k16 39) (.call "_law_fair" (.cons (.var 0) (.cons (.int 3) .nil))) [some (.lst (ns.map .int),false),none,none]=.ok (Af F):=by
   rw[Bs,B8 (Am (i:=0) (d:=.lst (ns.map .int)) rfl) (B8 (Bp _ _) (Ai _)),R.bind_ok];exact e
  have f2:ev (run T_k16 39) (.call "_law_shown" (.cons (.call "_law_fair" (.cons (.var 0) (.cons (.int 3) .nil))) .nil)) [some (.lst (ns.map .int),false),none,none]=.ok (.str (Ap F)):=by
   rw[Bs,B8 f1 (Ai _),R.bind_ok];exact el
  rw[Bs,B8 (Am (i:=0) (d:=.lst (ns.map .int)) rfl) (B8 f2 (Ai _)),R.bind_ok];exact eb
 refine(Xt e1 rfl (by simp[unown,Aj,Ev])).trans ((D2 (Hi _) rfl).trans ?_)
 have t1:tst (run T_k16 39) (.ins .str (.var 1)) [some (.lst (ns.map .int),false),some (d,false),some (.non,false)]=.ok (D0 .str d):=by
  rw[Se,Sd,Am (i:=1) (d:=d) rfl];rfl
 have t2:∀y,tst (run T_k16 39) (.isn false (.var 2)) [some (.lst (ns.map .int),false),some (d,false),some (y,false)]=.ok (Ds y):=λy=>by
  rw[X7,X5,Am (i:=2) (d:=y) rfl]
  show R.ok (Ds y != false)=_
  cases Ds y<;>rfl
 have bad:run T_k16 38 "read" [d]=.xn "BadText" none->exs (run T_k16 39) (.cons (.ife (.isn false (.var 2)) (.cons (.ret (.and (.call "_law_refused" (.cons (.var 1) .nil)) (.call "_law_by_base" (.cons (.var 1) .nil)))) .nil) .nil) (.cons (.ret (.op .eq (.call "read" (.cons (.var 1) .nil)) (.var 2))) .nil)) [some (.lst (ns.map .int),false),some (d,false),some (.non,false)]=.ok (.rt (.bl true)):=λhx=>by
  refine Bt (t2 .non) ?_;have f1:evs (run T_k16 39) (.cons (.var 1) .nil) [some (.lst (ns.map .int),false),some (d,false),some (.non,false)]=.ok [d]:=B8 (Am rfl) (Ai _);rw[Qhq,Bs,f1,R.bind_ok,Qic (T:=T_k16) rfl 38 d hx,R.bind_ok]
  show ev (run T_k16 39) (.call "_law_by_base" (.cons (.var 1) .nil)) _=_
  rw[Bs,f1,R.bind_ok];exact Qf7 (T:=T_k16) rfl 38 d hx
 rcases hd with⟨z,rfl,hz⟩|hd
 ·rcases Y6 V rfl rfl 33 z hz with⟨F',ed,er⟩|⟨ed,er⟩
  ·have ed2:exs (run T_k16 39) (.cons (.asg 2 (.call "_law_due" (.cons (.var 1) .nil))) .nil) [some (.lst (ns.map .int),false),some (.str (mkS z),false),some (.non,false)]=.ok (.nx [some (.lst (ns.map .int),false),some (.str (mkS z),false),some (Af F',false)]):=by
    rw[D2 (d:=Af F') (by
     rw[Bs,B8 (Am (i:=1) (d:=.str (mkS z)) rfl) (Ai _),R.bind_ok];exact ed) (Pi F'),De]
    rfl
   refine(Eg t1 ed2).trans ((As (t2 _)).trans (C3 ?_));rw[Ce,Bs,B8 (Am (i:=1) (d:=.str (mkS z)) rfl) (Ai _),R.bind_ok,er,R.bind_ok,Am (i:=2) (d:=Af F') rfl,R.bind_ok,Qk _ _ (Qbb F'),Pr]
  ·have ed2:exs (run T_k16 39) (.cons (.asg 2 (.call "_law_due" (.cons (.var 1) .nil))) .nil) [some (.lst (ns.map .int),false),some (.str (mkS z),false),some (.non,false)]=.ok (.nx [some (.lst (ns.map .int),false),some (.str (mkS z),false),some (.non,false)]):=by
    rw[D2 (d:=.non) (by
     rw[Bs,B8 (Am (i:=1) (d:=.str (mkS z)) rfl) (Ai _),R.bind_ok];exact ed) rfl,De]
    rfl
   exact(Eg t1 ed2).trans (bad (er 33))
 ·rw[hd] at t1
  exact(As t1).trans (bad (Qf3 V 37 d hd))
end Lp
namespace Lf
open PySem PySem.Spec PyProof.Rows L2
theorem chk_k16_f_is_number_below:chk B6 (stAt PySem.Challenge.pw_lodgefair_k16_spoilt_texts 7) ["thing","end"] ["thing","end"]=true:=by decide +kernel
theorem chk_k16_f_are_unlike_numbers_below:chk Ae (stAt PySem.Challenge.pw_lodgefair_k16_spoilt_texts 8) ["things","end","place","thing"] ["things","end"]=true:=by decide +kernel
theorem chk_k16_f_is_side:chk Cp (stAt PySem.Challenge.pw_lodgefair_k16_spoilt_texts 9) ["side"] ["side"]=true:=by decide +kernel
theorem chk_k16_f_has_two_sides:chk B7 (stAt PySem.Challenge.pw_lodgefair_k16_spoilt_texts 10) ["fair"] ["fair"]=true:=by decide +kernel
theorem chk_k16_f_is_house:chk C0 (stAt PySem.Challenge.pw_lodgefair_k16_spoilt_texts 11) ["thing","guest_count"] ["thing","guest_count"]=true:=by decide +kernel
theorem chk_k16_f_checked:chk Bi (stAt PySem.Challenge.pw_lodgefair_k16_spoilt_texts 12) ["fair","wishes","houses","guest","wish","house","thing"] ["fair"]=true:=by decide +kernel
theorem chk_k16_f_line_of:chk Bv (stAt PySem.Challenge.pw_lodgefair_k16_spoilt_texts 15) ["word","numbers"] ["word","numbers"]=true:=by decide +kernel
theorem chk_k16_f_shown:chk Cr (stAt PySem.Challenge.pw_lodgefair_k16_spoilt_texts 16) ["fair","guest_lines","house_lines"] ["fair"]=true:=by decide +kernel
theorem chk_k16_f_number_of:chk Bl (stAt PySem.Challenge.pw_lodgefair_k16_spoilt_texts 17) ["word"] ["word"]=true:=by decide +kernel
theorem chk_k16_f_likely_fair:chk B9 (stAt PySem.Challenge.pw_lodgefair_k16_spoilt_texts 18) ["text","wishes","houses","line","words","numbers"] ["text"]=true:=by decide +kernel
theorem chk_k16_f_read:chk Qr (stAt PySem.Challenge.pw_lodgefair_k16_spoilt_texts 19) ["text","fair"] ["text"]=true:=by decide +kernel
theorem chk_k16_fL_cell:chk Ec (stAt PySem.Challenge.pw_lodgefair_k16_spoilt_texts 21) ["_law_script","_law_k"] ["_law_script","_law_k"]=true:=by decide +kernel
theorem chk_k16_fL_mix:chk Gf (stAt PySem.Challenge.pw_lodgefair_k16_spoilt_texts 22) ["_law_cell_here","_law_prime","_law_many"] ["_law_cell_here","_law_prime","_law_many"]=true:=by decide +kernel
theorem chk_k16_fL_large:chk Fa (stAt PySem.Challenge.pw_lodgefair_k16_spoilt_texts 23) ["_law_script"] ["_law_script"]=true:=by decide +kernel
theorem chk_k16_fL_some:chk Fu (stAt PySem.Challenge.pw_lodgefair_k16_spoilt_texts 24) ["_law_seed","_law_many","_law_all_of_them","_law_keys","_law_row"] ["_law_seed","_law_many","_law_all_of_them"]=true:=by decide +kernel
theorem chk_k16_fL_fair:chk C7 (stAt PySem.Challenge.pw_lodgefair_k16_spoilt_texts 25) ["_law_script","_law_at","_law_cell_here","_law_guests","_law_houses","_law_full","_law_wishes","_law_k","_law_rows_here","_law_seed","_law_beds"] ["_law_script","_law_at"]=true:=by decide +kernel
theorem chk_k16_fL_shown:chk Fb (stAt PySem.Challenge.pw_lodgefair_k16_spoilt_texts 26) ["_law_fair_here","_law_found","_law_wish","_law_rooms","_law_guests"] ["_law_fair_here"]=true:=by decide +kernel
theorem chk_k16_fL_refused:chk Gg (stAt PySem.Challenge.pw_lodgefair_k16_spoilt_texts 27) ["_law_text"] ["_law_text"]=true:=by decide +kernel
theorem chk_k16_fL_by_base:chk Gh (stAt PySem.Challenge.pw_lodgefair_k16_spoilt_texts 28) ["_law_text","e"] ["_law_text"]=true:=by decide +kernel
theorem chk_k16_fL_rows:chk Hh (stAt PySem.Challenge.pw_lodgefair_k16_spoilt_texts 29) ["_law_text","_law_rows_here","_law_row","_law_parts"] ["_law_text"]=true:=by decide +kernel
theorem chk_k16_fL_due:chk Np (stAt PySem.Challenge.pw_lodgefair_k16_spoilt_texts 30) ["_law_text","_law_rows_here","_law_wishes","_law_houses","_law_wish","_law_rooms","_law_guests"] ["_law_text"]=true:=by decide +kernel
theorem chk_k16_fL_bad:chk Ed (stAt PySem.Challenge.pw_lodgefair_k16_spoilt_texts 31) ["_law_script","_law_text","_law_at","_law_way","_law_rows_here","_law_spot","_law_some_here"] ["_law_script","_law_text"]=true:=by decide +kernel
theorem chk_k16_law_k16:chk law_k16 (stAt PySem.Challenge.pw_lodgefair_k16_spoilt_texts 32) ["_law_script","_law_bad_here","_law_due_here"] ["_law_script"]=true:=by decide +kernel
end Lf
open PySem PySem.W PyProof.Rows Lf
noncomputable def PySem.W.Fast.tw6650426153602965093:=PySem.Challenge.pw_lodgefair_k16_spoilt_texts
theorem PySem.W.Fast.te6650426153602965093:PySem.Challenge.pw_lodgefair_k16_spoilt_texts=PySem.W.Fast.tw6650426153602965093:=rfl
noncomputable def PySem.W.Fast.tw6511870907158923110:Nat:=0
theorem PySem.W.Fast.te6511870907158923110:True:=trivial
set_option maxRecDepth 100000 in
set_option maxHeartbeats 0 in
theorem PySem.Challenge.cw_lodgefair_k16_spoilt_texts_holds : PySem.Challenge.rw_lodgefair_k16_spoilt_texts.Holds := by
 w_on; o_law; k_head; (case hw => w_witness2)
 k_fill
 refine Lf.walk (l := PySem.Challenge.rw_lodgefair_k16_spoilt_texts) Lf.T_k16 (fnL := Lf.law_k16) (stL := stAt Pw 32) (NL := ["_law_script", "_law_bad_here", "_law_due_here"]) (x := "_law_script") rfl rfl rfl (fun w h Y => PySem.W.kIn_of Y) rfl rfl rfl Lp.run_k16 ?F
 case F =>
  intro w mg h KX G
  refine' ⟨lk_cons (st := stAt Pw 7) (N := ["thing", "end"]) (ps := ["thing", "end"]) ?q0 (lk_cons (st := stAt Pw 8) (N := ["things", "end", "place", "thing"]) (ps := ["things", "end"]) ?q1 (lk_cons (st := stAt Pw 9) (N := ["side"]) (ps := ["side"]) ?q2 (lk_cons (st := stAt Pw 10) (N := ["fair"]) (ps := ["fair"]) ?q3 (lk_cons (st := stAt Pw 11) (N := ["thing", "guest_count"]) (ps := ["thing", "guest_count"]) ?q4 (lk_cons (st := stAt Pw 12) (N := ["fair", "wishes", "houses", "guest", "wish", "house", "thing"]) (ps := ["fair"]) ?q5 (lk_cons (st := stAt Pw 15) (N := ["word", "numbers"]) (ps := ["word", "numbers"]) ?q6 (lk_cons (st := stAt Pw 16) (N := ["fair", "guest_lines", "house_lines"]) (ps := ["fair"]) ?q7 (lk_cons (st := stAt Pw 17) (N := ["word"]) (ps := ["word"]) ?q8 (lk_cons (st := stAt Pw 18) (N := ["text", "wishes", "houses", "line", "words", "numbers"]) (ps := ["text"]) ?q9 (lk_cons (st := stAt Pw 19) (N := ["text", "fair"]) (ps := ["text"]) ?q10 (lk_cons (st := stAt Pw 21) (N := ["_law_script", "_law_k"]) (ps := ["_law_script", "_law_k"]) ?q11 (lk_cons (st := stAt Pw 22) (N := ["_law_cell_here", "_law_prime", "_law_many"]) (ps := ["_law_cell_here", "_law_prime", "_law_many"]) ?q12 (lk_cons (st := stAt Pw 23) (N := ["_law_script"]) (ps := ["_law_script"]) ?q13 (lk_cons (st := stAt Pw 24) (N := ["_law_seed", "_law_many", "_law_all_of_them", "_law_keys", "_law_row"]) (ps := ["_law_seed", "_law_many", "_law_all_of_them"]) ?q14 (lk_cons (st := stAt Pw 25) (N := ["_law_script", "_law_at", "_law_cell_here", "_law_guests", "_law_houses", "_law_full", "_law_wishes", "_law_k", "_law_rows_here", "_law_seed", "_law_beds"]) (ps := ["_law_script", "_law_at"]) ?q15 (lk_cons (st := stAt Pw 26) (N := ["_law_fair_here", "_law_found", "_law_wish", "_law_rooms", "_law_guests"]) (ps := ["_law_fair_here"]) ?q16 (lk_cons (st := stAt Pw 27) (N := ["_law_text"]) (ps := ["_law_text"]) ?q17 (lk_cons (st := stAt Pw 28) (N := ["_law_text", "e"]) (ps := ["_law_text"]) ?q18 (lk_cons (st := stAt Pw 29) (N := ["_law_text", "_law_rows_here", "_law_row", "_law_parts"]) (ps := ["_law_text"]) ?q19 (lk_cons (st := stAt Pw 30) (N := ["_law_text", "_law_rows_here", "_law_wishes", "_law_houses", "_law_wish", "_law_rooms", "_law_guests"]) (ps := ["_law_text"]) ?q20 (lk_cons (st := stAt Pw 31) (N := ["_law_script", "_law_text", "_law_at", "_law_way", "_law_rows_here", "_law_spot", "_law_some_here"]) (ps := ["_law_script", "_law_text"]) ?q21 (lk_cons (st := stAt Pw 32) (N := ["_law_script", "_law_bad_here", "_law_due_here"]) (ps := ["_law_script"]) ?q22 (lk_nil))))))))))))))))))))))), ?ql, bn_cons (PySem.W.mg_none_of KX G ?z0) (bn_cons (PySem.W.mg_none_of KX G ?z1) (bn_cons (PySem.W.mg_none_of KX G ?z2) (bn_cons (PySem.W.mg_none_of KX G ?z3) (bn_cons (PySem.W.mg_none_of KX G ?z4) (bn_cons (PySem.W.mg_none_of KX G ?z5) (bn_cons (PySem.W.mg_none_of KX G ?z6) (bn_cons (PySem.W.mg_none_of KX G ?z7) (bn_cons (PySem.W.mg_none_of KX G ?z8) (bn_cons (PySem.W.mg_none_of KX G ?z9) (bn_cons (PySem.W.mg_none_of KX G ?z10) (bn_cons (PySem.W.mg_none_of KX G ?z11) (bn_cons (PySem.W.mg_none_of KX G ?z12) (bn_cons (PySem.W.mg_none_of KX G ?z13) (bn_cons (PySem.W.mg_none_of KX G ?z14) (bn_nil))))))))))))))), Lf.xcs_of ["BadText", "BadFair"] rfl (Lf.xc_cons (Lf.xc_mk rfl ?x0a ?x0b ?x0q (Lf.xc1_mk KX G ?x0c ?x0d ?x0e ?x0f ?x0g ?x0h ?x0i ?x0j ?x0k ?x0l ?x0m ?x0n ?x0o (Lf.xp_cons (Lf.xp_self KX G ?x0p0) (Lf.xp_nil)))) (Lf.xc_cons (Lf.xc_mkI ?x1a (Lf.oi_mk ?y0 ?y1 ?y2 ?y3 ?y4 ?y5 ?y6 ?y7 ?y8 ?y9 ?y10 ?y11) ?x1b (Lf.xc1_mk KX G ?x1c ?x1d ?x1e ?x1f ?x1g ?x1h ?x1i ?x1j ?x1k ?x1l ?x1m ?x1n ?x1o (Lf.xp_cons (Lf.xp_not KX G rfl ?x1p0 ?x1r0 ?x1s0 ?x1t0 ?x1u0) (Lf.xp_nil)))) (Lf.xc_nil))), Lf.cs_cons ?k0 (Lf.cs_cons ?k1 (Lf.cs_cons ?k2 (Lf.cs_nil)))⟩
  (case x0a => k_is)
  (case x0b => k_exc)
  (case x0q => kernel_rfl)
  (case x0c => k_is)
  (case x0d => first | k_is | rfl)
  (case x0e => first | k_is | rfl)
  (case x0f => k_is)
  (case x0g => k_is)
  (case x0h => k_is)
  (case x0i => k_is)
  (case x0j => k_is)
  (case x0k => k_is)
  (case x0l => k_is)
  (case x0m => k_is)
  (case x0n => k_is)
  (case x0o => k_is)
  (case x0p0 => k_is)
  (case x1a => k_is)
  (case y0 => k_is); (case y1 => k_is); (case y3 => k_is); (case y4 => rfl); (case y5 => k_is); (case y2 => kernel_rfl); (case y6 => kernel_rfl); (case y7 => exact fun _ _ => rfl); (case y8 => k_is); (case y9 => kernel_rfl); (case y10 => first | k_is | kernel_rfl); (case y11 => k_is)
  (case x1b => kernel_rfl)
  (case x1c => k_is)
  (case x1d => first | k_is | rfl)
  (case x1e => first | k_is | rfl)
  (case x1f => k_is)
  (case x1g => k_is)
  (case x1h => k_is)
  (case x1i => k_is)
  (case x1j => k_is)
  (case x1k => k_is)
  (case x1l => k_is)
  (case x1m => k_is)
  (case x1n => k_is)
  (case x1o => k_is)
  (case x1p0 => k_is)
  (case x1r0 => rfl); (case x1s0 => k_is); (case x1t0 => k_is); (case x1u0 => k_is)
  case k0 =>
   refine' Lf.cs_int KX G ?a
   (case a => k_is)
  case k1 =>
   refine' Lf.cs_int KX G ?a
   (case a => k_is)
  case k2 =>
   refine' Lf.cs_tup ["0", "1", "2", "3", "4", "5"] KX G ?a ?l ?s ?z rfl
   (case a => k_is); (case l => k_is); (case s => decide +kernel); (case z => decide +kernel)
  case q0 =>
   refine' lk_mk KX G ?a ?l ?c ?k (bind2 rfl (fun _ _ _ _ _ _ _ _ => rfl)) chk_k16_f_is_number_below
   (case a => k_is); (case l => k_is); (case c => k_is); (case k => k_is)
  case q1 =>
   refine' lk_mk KX G ?a ?l ?c ?k (bind2 rfl (fun _ _ _ _ _ _ _ _ => rfl)) chk_k16_f_are_unlike_numbers_below
   (case a => k_is); (case l => k_is); (case c => k_is); (case k => k_is)
  case q2 =>
   refine' lk_mk KX G ?a ?l ?c ?k (bind1 rfl (fun _ _ _ _ _ _ _ => rfl)) chk_k16_f_is_side
   (case a => k_is); (case l => k_is); (case c => k_is); (case k => k_is)
  case q3 =>
   refine' lk_mk KX G ?a ?l ?c ?k (bind1 rfl (fun _ _ _ _ _ _ _ => rfl)) chk_k16_f_has_two_sides
   (case a => k_is); (case l => k_is); (case c => k_is); (case k => k_is)
  case q4 =>
   refine' lk_mk KX G ?a ?l ?c ?k (bind2 rfl (fun _ _ _ _ _ _ _ _ => rfl)) chk_k16_f_is_house
   (case a => k_is); (case l => k_is); (case c => k_is); (case k => k_is)
  case q5 =>
   refine' lk_mk KX G ?a ?l ?c ?k (bind1 rfl (fun _ _ _ _ _ _ _ => rfl)) chk_k16_f_checked
   (case a => k_is); (case l => k_is); (case c => k_is); (case k => k_is)
  case q6 =>
   refine' lk_mk KX G ?a ?l ?c ?k (bind2 rfl (fun _ _ _ _ _ _ _ _ => rfl)) chk_k16_f_line_of
   (case a => k_is); (case l => k_is); (case c => k_is); (case k => k_is)
  case q7 =>
   refine' lk_mk KX G ?a ?l ?c ?k (bind1 rfl (fun _ _ _ _ _ _ _ => rfl)) chk_k16_f_shown
   (case a => k_is); (case l => k_is); (case c => k_is); (case k => k_is)
  case q8 =>
   refine' lk_mk KX G ?a ?l ?c ?k (bind1 rfl (fun _ _ _ _ _ _ _ => rfl)) chk_k16_f_number_of
   (case a => k_is); (case l => k_is); (case c => k_is); (case k => k_is)
  case q9 =>
   refine' lk_mk KX G ?a ?l ?c ?k (bind1 rfl (fun _ _ _ _ _ _ _ => rfl)) chk_k16_f_likely_fair
   (case a => k_is); (case l => k_is); (case c => k_is); (case k => k_is)
  case q10 =>
   refine' lk_mk KX G ?a ?l ?c ?k (bind1 rfl (fun _ _ _ _ _ _ _ => rfl)) chk_k16_f_read
   (case a => k_is); (case l => k_is); (case c => k_is); (case k => k_is)
  case q11 =>
   refine' lk_mk KX G ?a ?l ?c ?k (bind2 rfl (fun _ _ _ _ _ _ _ _ => rfl)) chk_k16_fL_cell
   (case a => k_is); (case l => k_is); (case c => k_is); (case k => k_is)
  case q12 =>
   refine' lk_mk KX G ?a ?l ?c ?k (bind3 rfl (fun _ _ _ _ _ _ _ _ _ => rfl)) chk_k16_fL_mix
   (case a => k_is); (case l => k_is); (case c => k_is); (case k => k_is)
  case q13 =>
   refine' lk_mk KX G ?a ?l ?c ?k (bind1 rfl (fun _ _ _ _ _ _ _ => rfl)) chk_k16_fL_large
   (case a => k_is); (case l => k_is); (case c => k_is); (case k => k_is)
  case q14 =>
   refine' lk_mk KX G ?a ?l ?c ?k (bind3 rfl (fun _ _ _ _ _ _ _ _ _ => rfl)) chk_k16_fL_some
   (case a => k_is); (case l => k_is); (case c => k_is); (case k => k_is)
  case q15 =>
   refine' lk_mk KX G ?a ?l ?c ?k (bind2 rfl (fun _ _ _ _ _ _ _ _ => rfl)) chk_k16_fL_fair
   (case a => k_is); (case l => k_is); (case c => k_is); (case k => k_is)
  case q16 =>
   refine' lk_mk KX G ?a ?l ?c ?k (bind1 rfl (fun _ _ _ _ _ _ _ => rfl)) chk_k16_fL_shown
   (case a => k_is); (case l => k_is); (case c => k_is); (case k => k_is)
  case q17 =>
   refine' lk_mk KX G ?a ?l ?c ?k (bind1 rfl (fun _ _ _ _ _ _ _ => rfl)) chk_k16_fL_refused
   (case a => k_is); (case l => k_is); (case c => k_is); (case k => k_is)
  case q18 =>
   refine' lk_mk KX G ?a ?l ?c ?k (bind1 rfl (fun _ _ _ _ _ _ _ => rfl)) chk_k16_fL_by_base
   (case a => k_is); (case l => k_is); (case c => k_is); (case k => k_is)
  case q19 =>
   refine' lk_mk KX G ?a ?l ?c ?k (bind1 rfl (fun _ _ _ _ _ _ _ => rfl)) chk_k16_fL_rows
   (case a => k_is); (case l => k_is); (case c => k_is); (case k => k_is)
  case q20 =>
   refine' lk_mk KX G ?a ?l ?c ?k (bind1 rfl (fun _ _ _ _ _ _ _ => rfl)) chk_k16_fL_due
   (case a => k_is); (case l => k_is); (case c => k_is); (case k => k_is)
  case q21 =>
   refine' lk_mk KX G ?a ?l ?c ?k (bind2 rfl (fun _ _ _ _ _ _ _ _ => rfl)) chk_k16_fL_bad
   (case a => k_is); (case l => k_is); (case c => k_is); (case k => k_is)
  case q22 =>
   refine' lk_mk KX G ?a ?l ?c ?k (bind1 rfl (fun _ _ _ _ _ _ _ => rfl)) chk_k16_law_k16
   (case a => k_is); (case l => k_is); (case c => k_is); (case k => k_is)
  case ql =>
   refine' lk_mk KX G ?a ?l ?c ?k (bind1 rfl (fun _ _ _ _ _ _ _ => rfl)) chk_k16_law_k16
   (case a => k_is); (case l => k_is); (case c => k_is); (case k => k_is)
  (case z0 => k_is)
  (case z1 => k_is)
  (case z2 => k_is)
  (case z3 => k_is)
  (case z4 => k_is)
  (case z5 => k_is)
  (case z6 => k_is)
  (case z7 => k_is)
  (case z8 => k_is)
  (case z9 => k_is)
  (case z10 => k_is)
  (case z11 => k_is)
  (case z12 => k_is)
  (case z13 => k_is)
  (case z14 => k_is)
